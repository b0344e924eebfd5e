import PyProof.Rows.All
import Wide.All
import OpenK.AllK
import Wide.FinOn
import Lean
import PyProof.EqAt
import PyProof.EqKinds
import PyProof.TupleCall
import PyProof.NeKinds
import PyProof.SumWalkG
import PyProof.ConsumeWalk
import KE.IntBitsLaws
import PyProof.ZipIter
import KE.KTryMore
import PyProof.ExcArgsOwn
import KE.KDictLaws
import KE.KEqDict
import PyProof.Rows.EqDataRows
import PyProof.SetScanFacts
import PyProof.SetKind
import PyProof.Rows.SetFrom
import KE.KDictSum
import PyProof.ListMulRoad
import PyProof.Rows.CallKwBuiltin
import PyProof.Rows.SeqMore
import PyProof.WalkInts
import KE.KMinBuiltin
import KE.KRevSl
import PyProof.Rows.SortShell
import PyProof.DictWalks
import PyProof.ListRange
import KE.KItemsList
import PyProof.Rows.Range3
import PyProof.TupleOfGen
import PyProof.TupleOfSeq
import PySem.Challenge.RW_knowcards_k35_deeds_refused
set_option Elab.async false
set_option linter.all false
set_option maxRecDepth 100000
set_option maxHeartbeats 4000000
set_option compiler.extract_closed false
open Array renaming append_assoc → Pr, forIn_toList → ND, getD → Rj, getElem?_eq_getElem → Ml, getElem?_eq_none → OM, getElem?_toList → M1, length_toList → K8, toList_push → P3
open Bool renaming and_eq_true → LI, and_false → Ni, and_true → M8, beq_eq_decide_eq → OU, eq_iff_iff → O1, false_and → Nh, false_eq_true → LC, false_ne_true → Kv, not_true → N6, true_and → LP
open Classical renaming propDecidable → Mt
open False renaming elim → Mi
open ForInStep renaming yield → NC
open Int renaming emod_lt_of_pos → PB, emod_nonneg → NG, le_antisymm → Td, le_refl → Pq, natCast_ediv → SH, natCast_mul → QH, toNat_natCast → NO, zero_add → RP
open List renaming Perm → LR, all_cons → Lw, all_eq_true → Np, all_map → MV, all_nil → Nr, any_cons → ON, any_eq_false → R4, append_assoc → PX, append_nil → MI, cons_append → SG, countP_cons → SF, count_append → PZ, count_cons → Tc, drop_eq_getElem_cons → P5, drop_length → SI, ext_getElem? → MN, filterMap_cons → Oa, filter_append → Oo, filter_cons_of_neg → Nx, filter_cons_of_pos → Nw, find?_cons → La, findIdx?_eq_none_iff → Og, findIdx?_eq_some_iff_getElem → MA, flatMap_append → Ph, flatMap_cons → OG, flatten_cons → OC, foldl → SX, foldl_append → Sb, foldl_cons → SY, forIn_cons → Oe, forIn_nil → Ow, getD_eq_getElem?_getD → KG, getElem?_append_left → MG, getElem?_append_right → M4, getElem?_eq_getElem → Kj, getElem?_eq_none → K6, getElem?_eq_some_iff → Kn, getElem?_map → Kz, getElem?_of_mem → Rf, getElem?_range → Mg, getElem?_replicate → Qs, getElem?_set → NP, getElem?_set_ne → N0, getElem?_set_self → NI, getElem?_take_of_lt → Qd, getElem?_toArray → Q3, getElem?_zip_eq_some → Nc, getElem_mem → Nq, getElem_range → PC, idxOf_append → R9, idxOf_cons → S7, idxOf_lt_length_of_mem → Py, length_append → KP, length_cons → KQ, length_drop → SA, length_eq_zero_iff → Oz, length_eraseIdx_of_lt → PQ, length_filter_le → OW, length_map → Kk, length_nil → Mj, length_range → L6, length_set → Mw, length_singleton → QV, length_take → Mn, length_zip → Of, lookup → NK, lookup_cons → Ld, map_append → KU, map_congr_left → My, map_cons → KL, map_map → MW, map_nil → NT, mem_append → Lf, mem_append_left → Ll, mem_append_right → K5, mem_cons → Kq, mem_cons_of_mem → Ku, mem_cons_self → Ks, mem_filter → Mh, mem_filterMap → NA, mem_flatMap → Ql, mem_iff_getElem → Pd, mem_iff_getElem? → OX, mem_map → Lr, mem_of_getElem? → Ky, mem_of_mem_take → Re, mem_range → MC, mem_singleton → Kr, nodup_append → Sd, nodup_cons → MZ, not_mem_nil → Lq, of_mem_zip → QC, pairwise_append → Rk, pairwise_cons → PD, pairwise_iff_getElem → Nd, pairwise_lt_range → QS, range → KS, range_succ → NF, range_succ_eq_map → QP, replicate → Ls, replicate_succ → Nu, set_cons_succ → RS, set_cons_zero → RQ, size_toArray → KH, sum_append → L9, sum_cons → K0, sum_nil → NV, take_add_one → LJ, take_append_drop → NU, take_length → Le, take_of_length_le → OL, zipIdx_cons → SD, zipIdx_nil → S4, zip_cons_cons → LO, zip_nil_left → Mv
open Nat renaming add_assoc → PM, add_le_add_right → Rb, add_mul → Su, eq_of_mul_eq_mul_right → PN, eq_zero_or_pos → On, le_add_right → Mc, le_of_ble_eq_true → M0, le_of_eq → Nk, le_of_lt → Lp, le_of_not_lt → SB, le_refl → Km, le_succ → Ng, le_trans → K4, lt_irrefl → Lz, lt_of_le_of_lt → NB, lt_of_lt_of_le → KI, lt_or_eq_of_le → Oq, lt_or_ge → RZ, lt_succ_of_lt → LU, lt_succ_self → L0, lt_trichotomy → P0, min_self → Pa, mul_assoc → Md, mul_comm → Mp, mul_left_comm → MO, mul_pos → Sr, ne_of_gt → Mz, ne_of_lt → K3, not_le → Pf, not_lt → P7, not_lt_zero → O8, one_mul → Ss, sub_self → O9, succ_le_succ → SK, succ_pos → RW, zero_le → Lk
open Ne renaming symm → LK
open Option renaming isSome_iff_exists → Qc, isSome_some → RU, map_eq_some_iff → QR, map_some → O5
open Option.some renaming inj → KA
open Or renaming inl → QW, inr → Oj
open PyProof.Rows renaming Subscript_ → SV, boot_all → SL, boot_isinstance → Ma, boot_list → NZ, boot_max → SM, boot_range → SR, boot_sum → Rl, boot_tuple → Tg, callWith_builtin1 → O2, callWith_type1 → LQ, slot_tuple_getitem → Nv, subscriptTail → Rp, subscriptTail_builtinR → QM
open PyProof.Rows.F renaming entry_set_update_loop → Qv, plain_set_update_loop → OA
open PySem renaming DictEntry → RG, FuncData → KD, GenState → Q5, IntMulOk → NJ, IsTupleKey → Ta, NameKind → Lh, PassesOwn → LB, SetTable → KO, Within → Qb, assignEach → OZ, atKey_none_of_get → OH, attributeBase → N4, backToKw → Pj, behindInMarks → PJ, beq_builtin_none → Qk, binaryOp → MR, bootBuiltins → NR, boot_len → L7, builtinLookup_eq_fast → NW, builtinsNs → SN, callSpecialIfBoundUnlessNone? → NM, callType_new → RO, call_meets → O3, cellsFrom → QD, checkBuiltinCall → Qm, closureFor → P4, codeAny_builtin → Mx, codeAny_call_builtin → Pc, codeAny_compStart_list → QN, codeAny_mono → Nl, codeAny_of_tree → Tf, compEnvC → OQ, compareOp → MD, concat_meets → RL, dictSetDefault → Pm, eqBool → RV, eqIsQuiet → QG, eqIsQuiet_byValue → Sa, fastBuiltinMro → QX, fits_of_scanBound → Sh, foldedSetIterable → OB, getMethod → QA, intBits_le_64 → PH, intBits_le_64 → RB, intBits_mul_le → Q0, isInstance → Rc, isSubtype_stop → Ox, isSubtype_tuple_tuple → OV, isSubtype_type → Q2, keywordEach → N8, letOwnedTupleGo → O0, mainGlobals → KW, mem_of_lookup → Lb, newFunctionEnv → Pk, newTuple → SC, noFill_tuple_add → Qe, pickOrder → Ot, plainId_quiet → Nz, reduceHash → S9, relayAll → Po, scanBound → Os, seqIndex_neg → RM, seqIndex_of → Sm, seq_tuple_add → Ro, setEntries → P9, sizeLine → Kw, sizeLine_eq → Kl, starEach → KC, storedH_new → Sv, subscripted → QL, swapsWith → Qz, sysModules → Mb, typeIs_int → SW, typeLookup → Q6, typeLookup_type → Pe, unbindBehindTheSuite → Rg, updateSeq → PF, wpAny_Call_Name_kw → ME, wpAny_Call_method_late → OJ, wpAny_Dict_empty → Qj, wpAny_List_spliced → RK, wpAny_Name → SO, wpAny_Tuple_spliced → Rv, wpAny_askSetting → Qo, wpAny_assign_Name → R3, wpAny_attempt → M6, wpAny_bind → Kg, wpAny_call → SU, wpAny_callSpecial?_slot → Lm, wpAny_callSpecialIfBoundUnlessNone?_slot → ML, wpAny_call_entry → Lc, wpAny_comprehension_free → Ol, wpAny_execs_cons → Sx, wpAny_execs_nil → Oc, wpAny_field → Lx, wpAny_fieldsOf → Pp, wpAny_forIn_list → OS, wpAny_getItem_of → SJ, wpAny_handled → Rq, wpAny_holding → LH, wpAny_isInstance → Mq, wpAny_ite_split → QI, wpAny_letGo → QQ, wpAny_load → SQ, wpAny_loadPart_at → NQ, wpAny_mono → LM, wpAny_newObj_type → Lu, wpAny_newTuple → QZ, wpAny_of_eq → QO, wpAny_onRaise → OO, wpAny_passesOwn → MY, wpAny_pure → Ki, wpAny_pyHash_int → Sw, wpAny_pyIter_enum → R8, wpAny_pyIter_list → NN, wpAny_pyIter_slot → Sj, wpAny_pyIter_tuple → RF, wpAny_pyIter_zip → Qh, wpAny_ret_mkInt → O6, wpAny_rule → MB, wpAny_seqItems → LG, wpAny_setField → MS, wpAny_setField_rec → MF, wpAny_setState_of → LV, wpAny_specialOf → LY, wpAny_standAt → Rm, wpAny_storeSet_of → Sg, wpAny_throw → Sn, wpAny_truthy_bool → Mu, wpAny_tupleItemsOf → Pz, wpAny_typeOf → Qf, wpAny_updateSeq → NH, wpAny_updateSeq_pair → O4
open PySem.Around renaming under → RI, under_plainId → Ms
open PySem.Builtin.Int renaming intBits → Lj
open PySem.Builtin.List renaming listExtendWith → LS, listItems → QT, listLengthHint → MX, listSameRef → Nt, listTooLong → Nn, listUpdate → Qx
open PySem.Builtin.Slice renaming sliceAdjust → Od, sliceApplied → PK, slicePlaces → Nb
open PySem.Builtin.SmallTypes renaming nextOf → Lg, ownedTupleHandOut → Om, ownedTupleIsFree → Li
open PySem.Builtin.Tuple renaming tupleExact → Nm, tupleHashOf → L4, tupleItemsOf → PL
open PySem.Calls renaming Name_function_global → N3, callWith_builtin → OK, evalArgs_plain → N1, loadGlobal_global → Qr, spliced_cons → Pt, spliced_nil → PV
open PySem.Code renaming isFrame → RJ, quiet_builtin → RX
open PySem.F renaming args_object_init_3 → Ra, args_tuple_add_2 → Oi, args_tuple_iterator_next_1 → Pl, args_zip_next_1 → OE, entry_extend_loop → Qa, entry_tuple_add → Oy, entry_tuple_iterator_next → Pw, entry_zip_new → S6, entry_zip_next → OR, excAttr_ValueError → Rh, excBase_ValueError → M9, newCall_zip_2 → S5, plainAttrs_list → MQ, plain_extend_loop → Mm, plain_list_iadd → Qw, plain_set_new → Q1, slot_NoneType_hash → M7, slot_bool_hash → NL, slot_dict_getitem → P6, slot_dict_setdefault → Pn, slot_gs_get → Rr, slot_int_rmul → SZ, slot_list_append → Ou, slot_list_index → Qu, slot_set_iter → Q4, slot_tuple_add → OI, slot_tuple_count → Qi, slot_tuple_eq → O7, slot_tuple_hash → OF, slot_tuple_iterator_next → M5, slot_zip_next → MJ, typeCall_zip_2 → SE, typeOf_object_class → OY, type_list_append → Ov
open PySem.Heap renaming ExtBut → N9, FlyingW → Pb, SameBut → KJ, get?_push_of_some → Kh, get?_push_size → Kt, get?_update_other → L3, get?_update_self → Ln, lt_size → Ko, size_push → K9, size_update → Qp
open PySem.Heap.DictOf renaming new → S8
open PySem.Heap.SameBut renaming refl → Si, update → Lo
open PySem.NameKind renaming cell → N5, free → LX
open PySem.Obj renaming cls_mapFields → PY, data_mapDictKeys → Ri, data_mapFields → MU, isFreed_of_fields → OT, mapFields → PP, mapSeq → LN, putSet → P8
open PySem.Paired renaming length → Lv
open PySem.PassesOwn renaming never → K7
open PySem.PyData renaming canLayAll0 → Se, depthAll → Te, keyHash → Ly
open PySem.SeqAt renaming EqAt → K1, shaped → Qn
open PySem.SeqAt.EqAt renaming bool_bool → Q9, bool_int → Rx, bool_none → Q8, int_bool → RA, int_int → RN, int_none → Ry, int_str → RC, none_bool → Q7, none_int → Rw, same → QE, str_int → RD
open PySem.SetTable renaming below → KZ, grown → Nj
open PySem.SetTable.below renaming go → MP
open PySem.SetTable.probe renaming go → Sf
open PySem.Shared renaming TypeIs → Rt, heap → So
open PySem.Str renaming empty → Ti, ofString → Mo
open PySem.Value renaming bool → L5, builtin → Ny, float → Sl, int → Nf, isInt → QJ, isInt_shape → R0, none → LL, ref → KY, str → Qy, type → LF
open PySem.W renaming Looks → Rn, callWith_K → Pu, cellsFrom_some → QK, codeIn → QU, emptyDict → Mf, findIn → Mr, findIn → Na, fnOf → Oh, handedIn → Sz, hasDictIn → PU, hideAll → Ob, hideAll_get → Ru, instObj → MH, isFn → RH, keepIn → NS, kia_one → L8, kitMeta → QF, kitOne → LW, kitOne → Qq, kitx_dict → R7, kitx_list → R6, lookIn → Pi, looks_findIn → RY, makesIn → SS, methodObj → PR, mg_none_of → LD, mg_of → NY, mroIn → Th, nsIn → LZ, of_hideAll → RE, plainGet → OP, plainGet_of → Pg, plainOver → R5, takerIn → QB
open PySem.W.WData renaming int → OD, layable → QY, layableAll → Qg, list → Px, weight → N2, weightAll → Qt
open PySem.Walks renaming list → S3
open Sum renaming inl → MM, inr → Me
open Sum.inl renaming inj → Sk
open Sum.inr renaming inj → N7
open True renaming intro → MT
noncomputable abbrev Fg:=PySem.W.Frag
section
namespace L2
open PySem PySem.Spec PyProof.Rows
noncomputable abbrev Key:=Sum Int Str
noncomputable def qw:Key->Value->Bool
 | .inl k,v=>QJ k v
 | .inr x,v=>Value.isStrOf x v
noncomputable def JU(w:World):Key->Int
 | .inl k=>hashInt k
 | .inr x=>hashStr w x
theorem cO:∀{k:Key} {v:Value},qw k v=true->(∃i t,k=MM i/\v=Nf i t)\/(∃x t,k=Me x/\v=Qy x t)
 | .inl i,v,h=>by
  obtain⟨t,e⟩:=R0 (k:=i) (v:=v) h;exact .inl ⟨i,t,rfl,e⟩
 | .inr x,v,h=>by
  obtain⟨t,e⟩:=Value.isStrOf_shape (x:=x) (v:=v) h;exact .inr ⟨x,t,rfl,e⟩
theorem Cy(i:Int)(t:Tok):qw (.inl i) (.int i t)=true:=by simp[qw,QJ]
theorem Cz(x:Str)(t:Tok):qw (.inr x) (.str x t)=true:=by simp[qw,Value.isStrOf]
theorem Ib(a b:Int):decide ((MM a:Key)=MM b)=(a==b):=by
 by_cases e:a=b
 ·subst e;simp
 ·have h:¬(MM a:Key)=MM b:=fun q=>e (Sk q)
  rw[decide_eq_false h];exact(beq_eq_false_iff_ne.mpr e).symm
theorem Ic(a b:Str):decide ((Me a:Key)=Me b)=decide (a=b):=by
 by_cases e:a=b
 ·subst e;simp
 ·have h:¬(Me a:Key)=Me b:=fun q=>e (N7 q)
  rw[decide_eq_false h,decide_eq_false e]
theorem Id(a:Int)(b:Str):decide ((MM a:Key)=Me b)=false:=decide_eq_false (fun q=>nomatch q)
theorem Ie(a:Str)(b:Int):decide ((Me a:Key)=MM b)=false:=decide_eq_false (fun q=>nomatch q)
noncomputable def jd(prog:Program)(w:World):PySem.KeyKind prog w Key where
 is:=qw
 hash:=JU w
 inj:=fun v a b ha hb=>by
  rcases cO ha with⟨i,t,rfl,rfl⟩|⟨x,t,rfl,rfl⟩
  ·rcases cO hb with⟨j,u,rfl,e⟩|⟨y,u,rfl,e⟩
   ·injection e with e1 _;rw[e1]
   ·exact nomatch e
  ·rcases cO hb with⟨j,u,rfl,e⟩|⟨y,u,rfl,e⟩
   ·exact nomatch e
   ·injection e with e1 _;rw[e1]
 byValue:=fun k v h=>by
  rcases cO h with⟨i,t,rfl,rfl⟩|⟨x,t,rfl,rfl⟩<;>rfl
 pyHash:=fun hv h=>by
  rcases cO hv with⟨i,t,rfl,rfl⟩|⟨x,t,rfl,rfl⟩
  ·exact Sw h
  ·exact wpAny_pyHash_str h
 eqBool:=fun hu hv h=>by
  rcases cO hu with⟨i,t,rfl,rfl⟩|⟨x,t,rfl,rfl⟩
  ·rcases cO hv with⟨j,u,rfl,rfl⟩|⟨y,u,rfl,rfl⟩
   ·rw[Ib]at h;exact wpAny_eqBool_int h
   ·rw[Id]at h;exact RC i t y u _ _ _ _ h
  ·rcases cO hv with⟨j,u,rfl,rfl⟩|⟨y,u,rfl,rfl⟩
   ·rw[Ie]at h;exact RD x t j u _ _ _ _ h
   ·rw[Ic]at h;exact wpAny_eqBool_str h
 «strs»:=fun k x t v h=>by
  rcases cO h with⟨i,u,rfl,e⟩|⟨y,u,rfl,e⟩
  ·exact nomatch e
  ·injection e with e1 _
   subst e1;cases v<;>rfl
theorem zA(prog:Program)(w:World)(i:Int)(t:Tok):(jd prog w).is (.inl i) (.int i t)=true:=Cy i t
theorem bt(prog:Program)(w:World)(x:Str)(t:Tok):(jd prog w).is (.inr x) (.str x t)=true:=Cz x t
end L2
namespace L2
open PySem PySem.Spec PyProof.Rows
inductive V where
 |non|bl (b:Bool)|int (i:Int)|str (x:Str)|byt (b:Array UInt8)|flt (b:UInt64)|ref (a:Addr)|ty (n:String)
 deriving DecidableEq
noncomputable def aI:V->Value->Prop
 | .non,u=>u=LL
 | .bl b,u=>u=L5 b
 | .int i,u=>∃t,u=Nf i t
 | .str x,u=>∃t,u=Qy x t
 | .byt b,u=>∃t,u=Value.bytes b t
 | .flt b,u=>∃t,u=Sl b t
 | .ref a,u=>u=KY a
 | .ty n,u=>u=LF n
noncomputable abbrev aG:List V->List Value->Prop:=Paired aI
theorem aG.length{xs:List V}{us:List Value}(r:aG xs us):xs.length=us.length:=Lv r
theorem aG.get:∀{xs:List V} {us:List Value} {i:Nat} {x:V},aG xs us->xs[i]?=some x->∃u,us[i]?=some u/\aI x u
 |_,_,_,_,.nil,e=>by simp at e
 |_,_,0,_,.cons r _,e=>by simp at e;subst e;exact⟨_,rfl,r⟩
 |_,_,i+1,x,.cons _ t,e=>by
  obtain⟨u,h1,h2⟩:=aG.get (i:=i) (x:=x) t (by simpa using e);exact⟨u,by simpa using h1,h2⟩
theorem aG.set{x:V}{u:Value}(r:aI x u):∀{xs:List V} {us:List Value} (i:Nat),aG xs us->aG (xs.set i x) (us.set i u)
 |_,_,_,.nil=>.nil
 |_,_,0,.cons _ t=>.cons r t
 |_,_,i+1,.cons q t=>.cons q (aG.set r i t)
theorem aG.append:∀{xs ys:List V} {us ws:List Value},aG xs us->aG ys ws->aG (xs++ys) (us++ws)
 |_,_,_,_,.nil,s=>s
 |_,_,_,_,.cons r t,s=>.cons r (aG.append t s)
theorem aG.take:∀{xs:List V} {us:List Value} (n:Nat),aG xs us->aG (xs.take n) (us.take n)
 |_,_,0,_=>.nil
 |_,_,_+1,.nil=>.nil
 |_,_,n+1,.cons r t=>.cons r (aG.take n t)
theorem aG.drop:∀{xs:List V} {us:List Value} (n:Nat),aG xs us->aG (xs.drop n) (us.drop n)
 |_,_,0,r=>r
 |_,_,_+1,.nil=>.nil
 |_,_,n+1,.cons _ t=>aG.drop n t
noncomputable def fX:Option V->Option Value->Prop
 |some v,some u=>aI v u
 |none,none=>True
 |_,_=>False
noncomputable def KV{κ:Type}:List (κ×V)->List (κ×Value)->Prop:=Paired fun(p:κ×V)(q:κ×Value)=>p.1=q.1/\aI p.2 q.2
noncomputable def kV:Key->V
 | .inl i=>.int i
 | .inr x=>.str x
inductive HO where
 |lst (xs:List V)
 |tup (xs:List V)
 |dK (kvs:List (Key×V))|dT (kvs:List (List Key×V))
 |set (S:Int->Bool) (n:Nat)
 |ins (C dx:Addr) (fs:List (Str×V))
 |own (x:Addr)
 |xd (fs:List (Str×V))
 |met (f x:Addr)
 |rng (lo hi:Int)
 |frz (o:Obj) (u:HO)
 |tbl (ps:Array Value)
 |ext (φ:Heap->Prop)
noncomputable abbrev Hp:=Addr->Option HO
noncomputable def upd(H:Hp)(a:Addr)(o:HO):Hp:=fun b=>if b=a then some o else H b
theorem ay{H:Hp}{a:Addr}{o:HO}:upd H a o a=some o:=by unfold upd;rw[if_pos rfl]
theorem aM{H:Hp}{a b:Addr}{o:HO}(h:b≠a):upd H a o b=H b:=by unfold upd;rw[if_neg h]
theorem FW{H:Hp}{a b:Addr}{o u:HO}(h:H a=some o)(h':H b=some u)(d:o≠u):a≠b:=by
 intro e;subst e;rw[h]at h';exact d (KA h')
theorem bd{H:Hp}{a b:Addr}{o:HO}(h:H a=some o)(h':H b=none):a≠b:=by
 intro e;subst e;rw[h]at h';cases h'
noncomputable def fQ(h:Heap)(a:Addr)(items:Array Value):Prop:=∃o,h.get? a=some o/\o.cls=.type "tuple"/\(∃n,o.data=.seq items n)/\o.dict=none
theorem fQ.lt{h:Heap}{a:Addr}{items:Array Value}(x:fQ h a items):a<h.objs.size:=let⟨_,e,_⟩:=x;Ko e
theorem fQ.tup{h:Heap}{a:Addr}{items:Array Value}(x:fQ h a items):IsTup h a items:=let⟨o,e,c,d,_⟩:=x;⟨o,e,c,d⟩
theorem fQ.new(h:Heap)(items:Array Value):fQ (h.push { cls:=.type "tuple",data:=.seq items }) h.objs.size items:=⟨_,Kt _ rfl,rfl,⟨_,rfl⟩,rfl⟩
section
variable(P:Program)(w:World)
noncomputable def bE(H:Hp)(h:Heap)(a:Addr):HO->Prop
 | .lst xs=>xs.length<=Kw/\∃(its:List Value)(n:Nat),aG xs its/\h.get? a=some { cls:=.type "list",data:=.seq its.toArray n }
 | .tup xs=>xs.length<=Kw/\∃its:List Value,aG xs its/\fQ h a its.toArray
 | .dK kvs=>kvs.length<=Kw/\(a==Mb)=false/\∃vs,KV kvs vs/\h.DictOf (jd P w) a vs
 | .dT kvs=>kvs.length<=Kw/\(a==Mb)=false/\∃xs:List (List Key×Addr×Value),
   Paired (fun(p:List Key×V)(q:List Key×Addr×Value)=>p.1=q.1/\H q.2.1=some (.tup (p.1.map kV))/\aI p.2 q.2.2) kvs xs/\
   ∃o es ep,h.get? a=some o/\o.ExactDict/\o.data=.dict es ep/\es.toList=xs.map (entryOfKey (tupleKind (jd P w)))/\(xs.map (·.1)).Nodup
 | .set S n=>h.SetOf (intKind P w) a S n
 | .ins C dx fs=>H dx=some (.own a)/\fs.length<=1000/\dx≠a/\h.get? a=some (MH C dx)/\
   ∃mA,h.Ns1 dx mA/\(∀f,fX (fs.lookup f) (mA f))/\Qb mA (fs.map (·.1))
 | .own _=>∃o,h.get? a=some o
 | .xd fs=>∃mA,h.Ns1 a mA/\∀f,fX (fs.lookup f) (mA f)
 | .rng lo hi=>∃t u v,h.get? a=some { cls:=.type "range",data:=.fields #[.int lo t,.int hi u,.int 1 v] }
 | .frz o u=>h.get? a=some o/\bE H h a u
 | .tbl ps=>h.get? a=some { cls:=.none,data:=.fields ps }
 | .met f x=>h.get? a=some (PR (.ref f) (.ref x))
 | .ext φ=>φ h/\(∃o,h.get? a=some o)/\∀h1 h2:Heap,φ h1->(∀o,h1.get? a=some o->h2.get? a=some o)->φ h2
noncomputable def HOk(H:Hp)(h:Heap):Prop:=∀a o,H a=some o->bE P w H h a o
end
section
variable{P:Program}{w:World}{H H':Hp}{h h':Heap}{a:Addr}{o:HO}
theorem bE.lt(x:bE P w H h a o):a<h.objs.size:=by
 cases o with
 |lst xs=>obtain⟨_,_,_,_,e⟩:=x;exact Ko e
 |tup xs=>obtain⟨_,_,_,p⟩:=x;exact p.lt
 |dK kvs=>obtain⟨_,_,_,_,o,_,_,e,_⟩:=x;exact Ko e
 |dT kvs=>obtain⟨_,_,_,_,o,_,_,e,_⟩:=x;exact Ko e
 |set S n=>obtain⟨o,_,_,_,e,_⟩:=x;exact Ko e
 |ins C dx fs=>obtain⟨_,_,_,e,_⟩:=x;exact Ko e
 |own y=>obtain⟨_,e⟩:=x;exact Ko e
 |xd fs=>obtain⟨_,⟨_,_,_,e,_⟩,_⟩:=x;exact Ko e
 |rng lo hi=>obtain⟨_,_,_,e⟩:=x;exact Ko e
 |frz ob u=>obtain⟨e,_⟩:=x;exact Ko e
 |tbl ps=>exact Ko (show h.get? a=some _ from x)
 |met f y=>exact Ko (show h.get? a=some _ from x)
 |ext φ=>obtain⟨_,⟨_,e⟩,_⟩:=x;exact Ko e
theorem Paired.mapP{α β:Type}{F G:α->β->Prop}:∀{l₁:List α} {l₂:List β},Paired F l₁ l₂->(∀a b,F a b->G a b)->Paired G l₁ l₂
 |_,_,.nil,_=>.nil
 |_,_,.cons r t,f=>.cons (f _ _ r) (Paired.mapP t f)
theorem bE.stay(x:bE P w H h a o)(k:∀b u,(b=a\/H b=some (.own a))->h.get? b=some u->h'.get? b=some u)
  (ho:∀b,H b=some (.own a)->H' b=some (.own a)) (ht:∀b xs,H b=some (.tup xs)->H' b=some (.tup xs)):bE P w H' h' a o:=by
 induction o with
 |lst xs=>obtain⟨z,its,n,r,e⟩:=x;exact⟨z,its,n,r,k _ _ (.inl rfl) e⟩
 |tup xs=>obtain⟨z,its,r,ob,e,c⟩:=x;exact⟨z,its,r,ob,k _ _ (.inl rfl) e,c⟩
 |dK kvs=>obtain⟨z,y,vs,r,ob,es,ep,e,c⟩:=x;exact⟨z,y,vs,r,ob,es,ep,k _ _ (.inl rfl) e,c⟩
 |dT kvs=>
  obtain⟨z,y,xs,r,ob,es,ep,e,c⟩:=x;exact⟨z,y,xs,Paired.mapP r fun p q z=>⟨z.1,ht _ _ z.2.1,z.2.2⟩,ob,es,ep,k _ _ (.inl rfl) e,c⟩
 |set S n=>obtain⟨ob,es,ep,t,e,c⟩:=x;exact⟨ob,es,ep,t,k _ _ (.inl rfl) e,c⟩
 |ins C dx fs=>
  obtain⟨d,z,ne,e,mA,⟨od,es,ep,e2,c⟩,r⟩:=x;exact⟨ho _ d,z,ne,k _ _ (.inl rfl) e,mA,⟨od,es,ep,k _ _ (.inr d) e2,c⟩,r⟩
 |own y=>obtain⟨ob,e⟩:=x;exact⟨ob,k _ _ (.inl rfl) e⟩
 |xd fs=>obtain⟨mA,⟨od,es,ep,e,c⟩,r⟩:=x;exact⟨mA,⟨od,es,ep,k _ _ (.inl rfl) e,c⟩,r⟩
 |rng lo hi=>obtain⟨t,u,v,e⟩:=x;exact⟨t,u,v,k _ _ (.inl rfl) e⟩
 |frz ob u ih=>obtain⟨e,q⟩:=x;exact⟨k _ _ (.inl rfl) e,ih q⟩
 |tbl ps=>
  have e:h.get? a=some { cls:=.none,data:=.fields ps }:=x;show h'.get? a=some { cls:=.none,data:=.fields ps };exact k a _ (.inl rfl) e
 |met f y=>
  have e:h.get? a=some (PR (.ref f) (.ref y)):=x;show h'.get? a=some (PR (.ref f) (.ref y));exact k a _ (.inl rfl) e
 |ext φ=>obtain⟨p,⟨o,e⟩,st⟩:=x;exact⟨st _ _ p fun o q=>k _ _ (.inl rfl) q,⟨o,k _ _ (.inl rfl) e⟩,st⟩
theorem HOk.lt(x:HOk P w H h)(e:H a=some o):a<h.objs.size:=(x a o e).lt
theorem HOk.fresh(x:HOk P w H h)(e:h.objs.size<=a):H a=none:=by
 cases q:H a with
 |none=>rfl
 |some u=>exact absurd (KI (x.lt q) e) (Lz _)
theorem HOk.kept(x:HOk P w H h)(k:∀b u,h.get? b=some u->h'.get? b=some u):HOk P w H h':=fun a o e=>
 (x a o e).stay (fun b u _ q=>k b u q) (fun _ q=>q) fun _ _ q=>q
theorem HOk.laid(x:HOk P w H h)(k:∀b u,h.get? b=some u->h'.get? b=some u)(hp:h.objs.size<=a)(new:bE P w (upd H a o) h' a o):HOk P w (upd H a o) h':=fun b u e=>by
 have hn:=x.fresh hp;by_cases hb:b=a
 ·subst hb;rw[ay]at e;cases e;exact new
 ·rw[aM hb]at e
  exact(x b u e).stay (fun c v _ q=>k c v q) (fun c q=>by rw[aM (bd q hn)];exact q) fun c xs q=>by rw[aM (bd q hn)];exact q
end
noncomputable def Rd(H:Hp)(a:Addr)(u:HO):Prop:=H a=some u\/∃o,H a=some (.frz o u)
theorem Rd.of{H:Hp}{a:Addr}{u:HO}(h:H a=some u):Rd H a u:=.inl h
theorem Rd.ok{P:Program}{w:World}{H:Hp}{h:Heap}{a:Addr}{u:HO}(r:Rd H a u)(x:HOk P w H h):bE P w H h a u:=by
 rcases r with r|⟨o,r⟩
 ·exact x a u r
 ·obtain⟨_,q⟩:=x a _ r
  exact q
noncomputable def Mut:Option HO->Prop
 |some (.lst _)=>True
 |some (.dK _)=>True
 |some (.dT _)=>True
 |some (.set _ _)=>True
 |some (.ins _ _ _)=>True
 |some (.ext _)=>True
 |_=>False
section
variable{P:Program}{w:World}{H:Hp}{h h':Heap}{x e:Addr}{o':HO}
theorem HOk.write(ok:HOk P w H h)(mu:Mut (H x))(he:e=x\/H e=some (.own x))(k:∀b u,b≠e->h.get? b=some u->h'.get? b=some u)(heo:∃u,h'.get? e=some u)
  (new:bE P w (upd H x o') h' x o'):HOk P w (upd H x o') h':=fun b u q=>by
 have nown:∀c y,H c=some (.own y)->c≠x:=fun c y r z=>by subst z;rw[r]at mu;exact mu
 have ntup:∀c xs,H c=some (.tup xs)->c≠x:=fun c xs r z=>by subst z;rw[r]at mu;exact mu
 by_cases hb:b=x
 ·subst hb;rw[ay]at q;cases q;exact new
 ·rw[aM hb]at q
  by_cases hbe:b=e
  ·have q':H b=some (.own x):=by
    rcases he with z|z
    ·exact absurd (hbe.trans z) hb
    ·rw[hbe];exact z
   rw[q]at q';cases q';obtain⟨v,hv⟩:=heo;exact⟨v,by rw[hbe];exact hv⟩
  ·refine(ok b u q).stay (fun c v hc r=>k c v ?_ r) (fun c r=>by rw[aM (nown c b r)];exact r) fun c xs r=>by rw[aM (ntup c xs r)];exact r
   rcases hc with rfl|hc
   ·exact hbe
   ·rintro rfl
    rcases he with z|z
    ·exact nown c b hc z
    ·rw[hc]at z;cases z;exact hb rfl
end
structure Un(fs ex:List Addr)(H H':Hp)(h h':Heap):Prop where
 keep:∀b o,h.get? b=some o->H b=none->b∉fs->b∉ex->h'.get? b=some o
 slot:∀b o,h.get? b=some o->H b=none->b∈fs->b∉ex->∃sl,h'.get? b=some { o with slots:=sl }
 free:∀b o,h.get? b=some o->H b=none->b∉ex->H' b=none
 there:∀b o,h.get? b=some o->b∉ex->∃o',h'.get? b=some o'
 tups:∀b xs,H b=some (.tup xs)->H' b=some (.tup xs)
 frzs:∀b o u,H b=some (.frz o u)->H' b=some (.frz o u)
 tbls:∀b ps,H b=some (.tbl ps)->∃more,H' b=some (.tbl (ps++more))
section
variable{fs fs' ex ex':List Addr}{H H1 H2:Hp}{h h1 h2 h':Heap}{a x e:Addr}{o:HO}
theorem Un.any(u:Un fs ex H H1 h h1){b:Addr}{ob:Obj}(q:h.get? b=some ob)(n:H b=none)(hx:b∉ex):∃sl,h1.get? b=some { ob with slots:=sl }:=by
 by_cases hb:b∈fs
 ·exact u.slot b ob q n hb hx
 ·exact⟨ob.slots,u.keep b ob q n hb hx⟩
theorem Un.trans(a:Un fs ex H H1 h h1)(b:Un fs ex H1 H2 h1 h2):Un fs ex H H2 h h2 where
 keep:=fun c ob q n hc hx=>b.keep c ob (a.keep c ob q n hc hx) (a.free c ob q n hx) hc hx
 slot:=fun c ob q n hc hx=>by
  obtain⟨sl,e1⟩:=a.slot c ob q n hc hx;obtain⟨sl',e2⟩:=b.slot c _ e1 (a.free c ob q n hx) hc hx;exact⟨sl',e2⟩
 free:=fun c ob q n hx=>by
  obtain⟨o',e1⟩:=a.there c ob q hx;exact b.free c o' e1 (a.free c ob q n hx) hx
 there:=fun c ob q hx=>by
  obtain⟨o',e1⟩:=a.there c ob q hx;exact b.there c o' e1 hx
 tups:=fun c xs q=>b.tups c xs (a.tups c xs q)
 frzs:=fun c ob xs q=>b.frzs c ob xs (a.frzs c ob xs q)
 tbls:=fun c ps q=>by
  obtain⟨m1,e1⟩:=a.tbls c ps q;obtain⟨m2,e2⟩:=b.tbls c _ e1;exact⟨m1++m2,by rw[e2,Pr]⟩
theorem Un.kept(k:∀b u,h.get? b=some u->h'.get? b=some u):Un fs ex H H h h':=
 ⟨fun b ob q _ _ _=>k b ob q,fun b ob q _ _ _=>⟨ob.slots,k b ob q⟩,fun _ _ _ n _=>n,fun b ob q _=>⟨ob,k b ob q⟩,fun _ _ q=>q,fun _ _ _ q=>q,fun _ ps q=>⟨#[],by rw[q];simp⟩⟩
theorem Un.refl:Un fs ex H H h h:=Un.kept fun _ _ q=>q
theorem Un.laid(k:∀b u,h.get? b=some u->h'.get? b=some u)(hp:h.objs.size<=a)(hn:H a=none):Un fs ex H (upd H a o) h h' where
 keep:=fun b u q _ _ _=>k b u q
 slot:=fun b u q _ _ _=>⟨u.slots,k b u q⟩
 free:=fun b u q n _=>by rw[aM (K3 (KI (Ko q) hp))];exact n
 there:=fun b u q _=>⟨u,k b u q⟩
 tups:=fun b xs q=>by rw[aM (bd q hn)];exact q
 frzs:=fun b u xs q=>by rw[aM (bd q hn)];exact q
 tbls:=fun b ps q=>⟨#[],by rw[aM (bd q hn),q];simp⟩
theorem Un.write(mu:Mut (H x))(he:e=x\/H e=some (.own x))(k:∀b u,b≠e->h.get? b=some u->h'.get? b=some u)(heo:∃u,h'.get? e=some u):Un fs ex H (upd H x o) h h':=by
 have hx:∀b,H b=none->b≠x:=fun b n z=>by subst z;rw[n]at mu;exact mu
 have hb:∀b,H b=none->b≠e:=fun b n z=>by
  subst z;rcases he with r|r
  ·exact hx b n r
  ·rw[n]at r;cases r
 have hm:∀b u,H b=some u->¬Mut (some u)->b≠x:=fun b u q nm z=>by subst z;rw[q]at mu;exact nm mu
 refine⟨fun b u q n _ _=>k b u (hb b n) q,fun b u q n _ _=>⟨u.slots,k b u (hb b n) q⟩,fun b u q n _=>by rw[aM (hx b n)];exact n,fun b u q _=>?_,
  fun b xs q=>by rw[aM (hm b _ q fun z=>z)];exact q,fun b u xs q=>by rw[aM (hm b _ q fun z=>z)];exact q,fun b ps q=>⟨#[],by rw[aM (hm b _ q fun z=>z),q];simp⟩⟩
 by_cases hbe:b=e
 ·subst hbe;exact heo
 ·exact⟨u,k b u hbe q⟩
end
noncomputable def trk(h:Heap)(H:Hp):List Addr:=(KS h.objs.size).filter fun a=>(H a).isSome
noncomputable def nR(h:Heap)(H:Hp):Heap:=Ob h (trk h H)
theorem CA(h:Heap)(H:Hp):(nR h H).objs.size=h.objs.size:=PySem.W.hideAll_size _ _
theorem Eh{h:Heap}{H:Hp}{b:Addr}{o:Obj}(e:h.get? b=some o)(n:H b=none):(nR h H).get? b=some o:=
 Ru _ e fun hm=>by
  have q:(H b).isSome=true:=(Mh.mp hm).2;rw[n]at q;simp at q
theorem Go{h:Heap}{H:Hp}{b:Addr}{o:Obj}(e:(nR h H).get? b=some o):h.get? b=some o/\H b=none:=by
 have e':h.get? b=some o:=RE (trk h H) e;refine⟨e',?_⟩;cases q:H b with
 |none=>rfl
 |some x=>
  have hm:b∈trk h H:=Mh.mpr ⟨MC.mpr (Ko e'),by simp[q]⟩;have z:(nR h H).get? b=none:=PySem.W.hideAll_none (trk h H) hm;rw[z]at e;cases e
noncomputable def Gp(g h:Heap)(L:Addr):List (Addr×Obj):=(KS h.objs.size).filterMap fun a=>if a=L\/(g.get? a).isSome=true then none else(h.get? a).map fun o=>(a,o)
noncomputable def da(g h:Heap)(L d:Addr):List (Addr×Obj):=(Gp g h L).filter fun p=>decide (p.1≠d)
end L2
namespace L2
open PySem PySem.Spec PyProof.Rows
structure Mod(K:Fg)(mg:Str->Option Value)(base:Heap):Prop where
 kin:K.In base
 glob:base.Ns KW mg
 blt:∃mb,base.Ns SN mb/\∀x:Str,x≠"__name__"->mb x=NR x
 nolimit:base.NoLimit
set_option genInjectivity false in
structure Cx where
 prog:Program
 w:World
 K:Fg
 mg:Str->Option Value
 base:Heap
 A:Around
 N:List Str
 s₀:Shared
 H₀:Hp
 env:Env
 outer:List Env
 stack:List Env
 ex:List Addr
 fn:Str->Bool
 calm:Bool
 pn:List (Addr×Obj)
 xe:Value->Shared->Prop
noncomputable def frs(l:List Env):List Addr:=l.filterMap (·.frame)
noncomputable abbrev Cx.fs(X:Cx):List Addr:=frs X.outer
noncomputable def Vis(sc:Scope)(x:Str):Prop:=sc.names.lookup x=some .local\/sc.names.lookup x=some .cell\/sc.names.lookup x=some .free
noncomputable def Loc(sc:Scope)(x:Str):Prop:=sc.names.lookup x=some .local\/sc.names.lookup x=some .cell
noncomputable def Ei(env:Env)(h:Heap)(m:Str->Option Value)(x:Str)(u:Value):Prop:=
 (env.kindOf x=some .local/\m x=some u)\/((env.kindOf x=some .cell\/env.kindOf x=some .free)/\∃c,env.cells.lookup x=some c/\h.IsCell c (some u))
structure Cx.Ok(X:Cx):Prop where
 mod:Mod X.K X.mg X.base
 kind:X.env.scope.kind=.function
 glob:X.env.globals=KW
 blt:X.env.builtins=SN
 above:X.s₀.heap.objs.size<=X.env.locals
 inj:∀x y c,X.env.cells.lookup x=some c->X.env.cells.lookup y=some c->x=y
 has:∀x,(X.env.kindOf x=some .cell\/X.env.kindOf x=some .free)->∃c,X.env.cells.lookup x=some c
 cab:∀x c,X.fn x=true->X.env.cells.lookup x=some c->X.s₀.heap.objs.size<=c
 hd:X.calm=true->X.A.handled=none
 frames:X.A.frames=some X.stack
 stk:X.stack=X.outer\/(X.stack=X.env::X.outer/\X.env.frame=some X.env.locals)
 exf:∀b∈X.ex,b≠X.env.locals/\∀x c,X.env.cells.lookup x=some c->c≠b
 bs:∀b o,X.base.get? b=some o->X.s₀.heap.get? b=some o/\X.H₀ b=none
 bsz:X.base.objs.size<=X.s₀.heap.objs.size
 noex:∀b o,X.base.get? b=some o->b∉X.ex
 exfs:∀b∈X.ex,b∉X.fs
 funs:X.s₀.heap.FunFrames X.base X.outer
 frf:∀b∈X.fs,X.H₀ b=none
structure Inv(X:Cx)(pins:List (Addr×Obj))(σ:List (Option V))(H:Hp)(s:Shared):Prop where
 ok:X.Ok
 os:s.os=X.s₀.os
 bare:AllBare s.gens
 base:Un X.fs X.ex X.H₀ H X.s₀.heap s.heap
 loc:∃m,s.heap.Ns X.env.locals m/\∀(i:Nat)(x:Str)(v:V),X.N[i]?=some x->σ[i]?=some (some v)->Vis X.env.scope x->∃u,aI v u/\Ei X.env s.heap m x u
 cell:∀x c,X.env.cells.lookup x=some c->∃v,s.heap.IsCell c v
 free:H X.env.locals=none
 freeC:∀x c,X.env.cells.lookup x=some c->H c=none
 pin:∀p∈X.pn++pins,s.heap.get? p.1=some p.2/\H p.1=none/\p.1≠X.env.locals/\p.1∉X.fs/\∀v,p.2.data≠.cell v
 hok:HOk X.prog X.w H s.heap
 len:σ.length=X.N.length
section
variable{X:Cx}{pins:List (Addr×Obj)}{σ:List (Option V)}{H H':Hp}{s:Shared}{h':Heap}
theorem Cx.Ok.nofr(ok:X.Ok){b:Addr}{o:Obj}(e:X.base.get? b=some o):b∉X.fs:=fun hb=>by
 have:=(ok.funs.mem hb).1;rw[e]at this;cases this
theorem Inv.bs(I:Inv X pins σ H s):∀b o,X.base.get? b=some o->s.heap.get? b=some o/\H b=none:=fun b o e=>
 ⟨I.base.keep b o (I.ok.bs b o e).1 (I.ok.bs b o e).2 (I.ok.nofr e) (I.ok.noex b o e),I.base.free b o (I.ok.bs b o e).1 (I.ok.bs b o e).2 (I.ok.noex b o e)⟩
theorem Inv.bk(I:Inv X pins σ H s):∀b o,X.base.get? b=some o->s.heap.get? b=some o:=fun b o e=>(I.bs b o e).1
theorem Inv.mod(I:Inv X pins σ H s):Mod X.K X.mg X.base:=I.ok.mod
theorem Inv.kIn(I:Inv X pins σ H s):X.K.In s.heap:=I.ok.mod.kin.keeps I.bk
theorem Inv.nolimit(I:Inv X pins σ H s):s.heap.NoLimit:=I.ok.mod.nolimit.keeps I.bk
theorem Inv.lt(I:Inv X pins σ H s):X.env.locals<s.heap.objs.size:=let⟨_,hn,_⟩:=I.loc;hn.lt
theorem Inv.sz(I:Inv X pins σ H s):X.s₀.heap.objs.size<=s.heap.objs.size:=K4 I.ok.above (Lp I.lt)
theorem Inv.nofs(I:Inv X pins σ H s){a:Addr}(h:s.heap.objs.size<=a):a∉X.fs:=fun hb=>by
 obtain⟨_,o,ho,_⟩:=I.ok.funs.mem hb;exact absurd (KI (Ko ho) (K4 I.sz h)) (Lz _)
theorem Inv.cne(I:Inv X pins σ H s):∀x c,X.env.cells.lookup x=some c->c≠X.env.locals:=fun x c e z=>by
 obtain⟨v,o,ho,hd⟩:=I.cell x c e;obtain⟨m,⟨o',es,ep,ho',hd',_⟩,_⟩:=I.loc;rw[z,ho']at ho;cases ho;rw[hd']at hd;cases hd
theorem Inv.funs(I:Inv X pins σ H s):s.heap.FunFrames X.base X.outer:=by
 have all:∀(l:List Env),(∀b∈frs l,b∈X.fs)->X.s₀.heap.FunFrames X.base l->s.heap.FunFrames X.base l:=by
  intro l
  induction l with
  |nil=>intro _ _;trivial
  |cons env r ih=>
   intro hs hl;obtain⟨hk,⟨L,o,hf,hn,ho,hd⟩,hr⟩:=hl;have hL:L∈X.fs:=hs L (by unfold frs;rw[Oa,hf];exact Ks);obtain⟨sl,e⟩:=I.base.slot L o ho (I.ok.frf L hL) hL fun z=>I.ok.exfs L z hL;exact⟨hk,⟨L,_,hf,hn,e,hd⟩,ih (fun b hb=>hs b (by unfold frs;rw[Oa,hf];exact Ku _ hb)) hr⟩
 exact all X.outer (fun _ hb=>hb) I.ok.funs
theorem Inv.stack(I:Inv X pins σ H s):s.heap.FunFrames X.base X.stack:=by
 rcases I.ok.stk with e|⟨e,hf⟩
 ·rw[e];exact I.funs
 ·rw[e]
  obtain⟨m,hn,_⟩:=I.loc;refine .cons (by rw[I.ok.kind];decide) hf hn ?_ I.funs;exact Heap.get?_none_of_le (K4 I.ok.bsz I.ok.above)
theorem Inv.stkSub(I:Inv X pins σ H s):∀b∈frs X.stack,b∈X.env.locals::X.fs:=fun b hb=>by
 rcases I.ok.stk with e|⟨e,hf⟩
 ·rw[e]at hb;exact Ku _ hb
 ·rw[e]at hb
  unfold frs at hb;rw[Oa,hf]at hb;exact hb
theorem Inv.stkFree(I:Inv X pins σ H s):∀b∈frs X.stack,H b=none:=fun b hb=>by
 rcases Kq.mp (I.stkSub b hb)with e|hb
 ·rw[e];exact I.free
 ·obtain⟨_,o,ho,_⟩:=I.ok.funs.mem hb
  exact I.base.free b o ho (I.ok.frf b hb) fun z=>I.ok.exfs b z hb
theorem Inv.step{g':Array Q5}{t':Nat}{d':Drawn}{ch:List Addr}(I:Inv X pins σ H s)
  (hch:∀b∈ch,(b∈X.ex\/X.s₀.heap.objs.size<=b)/\b≠X.env.locals/\(∀x c,X.env.cells.lookup x=some c->c≠b)/\∀p∈X.pn++pins,p.1≠b)
  (keep:∀b o,b≠X.env.locals->b∉X.fs->b∉ch->s.heap.get? b=some o->H b=none->h'.get? b=some o)
  (slot:∀b o,b≠X.env.locals->b∈X.fs->b∉ch->s.heap.get? b=some o->H b=none->∃sl,h'.get? b=some { o with slots:=sl }) (free:∀b o,b∉ch->s.heap.get? b=some o->H b=none->H' b=none)
  (there:∀b o,b∉ch->s.heap.get? b=some o->∃o',h'.get? b=some o')
  (tups:∀b xs,H b=some (.tup xs)->H' b=some (.tup xs)) (frzs:∀b o u,H b=some (.frz o u)->H' b=some (.frz o u)) (tbls:∀b ps,H b=some (.tbl ps)->∃more,H' b=some (.tbl (ps++more)))
  (ns:∀m,s.heap.Ns X.env.locals m->h'.Ns X.env.locals m) (hok:HOk X.prog X.w H' h') (hg:AllBare g'):
  Inv X pins σ H' { s with heap:=h',gens:=g',drawn:=d',toks:=t' }:=by
 have neL:∀b o,X.s₀.heap.get? b=some o->b≠X.env.locals:=fun b o e=>K3 (KI (Ko e) I.ok.above);have neC:∀b o,X.s₀.heap.get? b=some o->b∉X.ex->b∉ch:=fun b o e hx hb=>by
  rcases(hch b hb).1 with z|z
  ·exact hx z
  ·exact absurd (KI (Ko e) z) (Lz _)
 have cellK:∀x c,X.env.cells.lookup x=some c->∀v,s.heap.IsCell c v->h'.IsCell c v:=fun x c e v ⟨o,ho,hd⟩=>by
  have nch:c∉ch:=fun z=>(hch c z).2.2.1 x c e rfl;by_cases hc:c∈X.fs
  ·obtain⟨sl,q⟩:=slot c o (I.cne x c e) hc nch ho (I.freeC x c e)
   exact⟨_,q,hd⟩
  ·exact⟨o,keep c o (I.cne x c e) hc nch ho (I.freeC x c e),hd⟩
 refine⟨I.ok,I.os,hg,⟨fun b o e n hb hx=>?_,fun b o e n hb hx=>?_,fun b o e n hx=>?_,fun b o e hx=>?_,fun b xs e=>tups b xs (I.base.tups b xs e),fun b o xs e=>frzs b o xs (I.base.frzs b o xs e),fun b ps e=>?_⟩,?_,fun x c e=>?_,?_,fun x c e=>?_,fun p hp=>?_,hok,I.len⟩
 ·exact keep b o (neL b o e) hb (neC b o e hx) (I.base.keep b o e n hb hx) (I.base.free b o e n hx)
 ·obtain⟨sl,e1⟩:=I.base.slot b o e n hb hx
  obtain⟨sl',e2⟩:=slot b _ (neL b o e) hb (neC b o e hx) e1 (I.base.free b o e n hx);exact⟨sl',e2⟩
 ·obtain⟨o',e1⟩:=I.base.there b o e hx
  exact free b o' (neC b o e hx) e1 (I.base.free b o e n hx)
 ·obtain⟨o',e1⟩:=I.base.there b o e hx
  exact there b o' (neC b o e hx) e1
 ·obtain⟨m1,e1⟩:=I.base.tbls b ps e
  obtain⟨m2,e2⟩:=tbls b _ e1;exact⟨m1++m2,by rw[e2,Pr]⟩
 ·obtain⟨m,hn,hl⟩:=I.loc
  refine⟨m,ns m hn,fun i x v e1 e2 e3=>?_⟩;obtain⟨u,r,l⟩:=hl i x v e1 e2 e3;refine⟨u,r,?_⟩;rcases l with l|⟨k,c,e,z⟩
  ·exact .inl l
  ·exact .inr ⟨k,c,e,cellK x c e _ z⟩
 ·obtain⟨v,z⟩:=I.cell x c e
  exact⟨v,cellK x c e v z⟩
 ·obtain⟨m,⟨o,_,_,ho,_⟩,_⟩:=I.loc
  exact free _ o (fun z=>(hch _ z).2.1 rfl) ho I.free
 ·obtain⟨v,o,ho,hd⟩:=I.cell x c e
  exact free c o (fun z=>(hch c z).2.2.1 x c e rfl) ho (I.freeC x c e)
 ·obtain⟨e,n,ne,nf,d⟩:=I.pin p hp
  have nch:p.1∉ch:=fun z=>(hch p.1 z).2.2.2 p hp rfl;exact⟨keep p.1 p.2 ne nf nch e n,free p.1 p.2 nch e n,ne,nf,d⟩
theorem Inv.un{t':Nat}(I:Inv X pins σ H s)(u:Un X.fs [] H H' s.heap h')(hok:HOk X.prog X.w H' h'):Inv X pins σ H' { s with heap:=h',toks:=t' }:=by
 obtain⟨m,⟨o,es,ep,ho,r⟩,_⟩:=id I.loc;obtain⟨sl,hL⟩:=u.any ho I.free (by simp);exact I.step (g':=s.gens) (d':=s.drawn) (ch:=[]) (fun _ z=>nomatch z) (fun b o _ hb _ e n=>u.keep b o e n hb (by simp)) (fun b o _ hb _ e n=>u.slot b o e n hb (by simp)) (fun b o _ e n=>u.free b o e n (by simp)) (fun b o _ e=>u.there b o e (by simp)) u.tups u.frzs u.tbls (fun m' hm=>by
  obtain⟨o',es',ep',ho',r'⟩:=hm;rw[ho]at ho';cases ho';exact⟨_,es',ep',hL,r'⟩) hok I.bare
theorem Inv.call{g':Array Q5}{t':Nat}{d':Drawn}{ch:List Addr}(I:Inv X pins σ H s)(u:Un (frs X.stack) ch H H' s.heap h')(hok:HOk X.prog X.w H' h')(hg:AllBare g')
  (hch:∀b∈ch,(b∈X.ex\/X.s₀.heap.objs.size<=b)/\b≠X.env.locals/\(∀x c,X.env.cells.lookup x=some c->c≠b)/\∀p∈X.pn++pins,p.1≠b):
  Inv X pins σ H' { s with heap:=h',gens:=g',drawn:=d',toks:=t' }:=by
 obtain⟨m,⟨o,es,ep,ho,r⟩,_⟩:=id I.loc;obtain⟨sl,hL⟩:=u.any ho I.free fun z=>(hch _ z).2.1 rfl;exact I.step (ch:=ch) hch (fun b o hL hb hc e n=>u.keep b o e n (fun z=>(Kq.mp (I.stkSub b z)).elim hL hb) hc) (fun b o _ _ hc e n=>u.any e n hc) (fun b o hc e n=>u.free b o e n hc) (fun b o hc e=>u.there b o e hc) u.tups u.frzs u.tbls (fun m' hm=>by
  obtain⟨o',es',ep',ho',r'⟩:=hm;rw[ho]at ho';cases ho';exact⟨_,es',ep',hL,r'⟩) hok hg
theorem Inv.turned{t':Nat}{it:Addr}(I:Inv X pins σ H s)(k:∀b o,b≠it->s.heap.get? b=some o->h'.get? b=some o)(hn:H it=none)(hL:it≠X.env.locals)
  (h1:it∈X.ex\/X.s₀.heap.objs.size<=it) (h2:∀x c,X.env.cells.lookup x=some c->c≠it) (h3:∀p∈X.pn++pins,p.1≠it):Inv X pins σ H { s with heap:=h',toks:=t' }:=by
 have nit:∀b u,H b=some u->b≠it:=fun b u e z=>by rw[z,hn]at e;cases e
 refine I.step (g':=s.gens) (d':=s.drawn) (ch:=[it]) (fun b hb=>?_) (fun b o _ _ hc e _=>k b o (fun z=>hc (by simp[z])) e) (fun b o _ _ hc e _=>⟨o.slots,k b o (fun z=>hc (by simp[z])) e⟩) (fun _ _ _ _ n=>n)
  (fun b o hc e=>⟨o,k b o (fun z=>hc (by simp[z])) e⟩) (fun _ _ e=>e) (fun _ _ _ e=>e) (fun b ps e=>⟨#[],by rw[e];simp⟩) (fun m hm=>?_) (fun b u e=>?_) I.bare
 ·have e:b=it:=by simpa using hb
  subst e;exact⟨h1,hL,h2,h3⟩
 ·obtain⟨o,es,ep,ho,r⟩:=hm
  exact⟨o,es,ep,k _ o (LK hL) ho,r⟩
 ·refine(I.hok b u e).stay (fun c v hc q=>k c v ?_ q) (fun _ q=>q) fun _ _ q=>q
  rcases hc with z|z
  ·rw[z];exact nit b u e
  ·exact nit c _ z
theorem Inv.tok(I:Inv X pins σ H s)(t:Nat):Inv X pins σ H { s with toks:=t }:=I.un (h':=s.heap) (t':=t) Un.refl I.hok
theorem Inv.kept{t':Nat}(I:Inv X pins σ H s)(k:∀b u,s.heap.get? b=some u->h'.get? b=some u):Inv X pins σ H { s with heap:=h',toks:=t' }:=I.un (Un.kept k) (I.hok.kept k)
theorem Inv.laid{a:Addr}{o:HO}{t':Nat}(I:Inv X pins σ H s)(k:∀b u,s.heap.get? b=some u->h'.get? b=some u)(hp:s.heap.objs.size<=a)(new:bE X.prog X.w (upd H a o) h' a o):
  Inv X pins σ (upd H a o) { s with heap:=h',toks:=t' }:=I.un (Un.laid k hp (I.hok.fresh hp)) (I.hok.laid k hp new)
theorem Inv.write{x e:Addr}{o:HO}{t':Nat}(I:Inv X pins σ H s)(mu:Mut (H x))(he:e=x\/H e=some (.own x))(k:∀b u,b≠e->s.heap.get? b=some u->h'.get? b=some u)(heo:∃u,h'.get? e=some u)
  (new:bE X.prog X.w (upd H x o) h' x o):Inv X pins σ (upd H x o) { s with heap:=h',toks:=t' }:=I.un (Un.write mu he k heo) (I.hok.write mu he k heo new)
theorem Inv.pins_of{pins':List (Addr×Obj)}(I:Inv X pins σ H s)(h:∀p∈pins',s.heap.get? p.1=some p.2/\H p.1=none/\p.1≠X.env.locals/\p.1∉X.fs/\∀v,p.2.data≠.cell v):Inv X pins' σ H s:=
 ⟨I.ok,I.os,I.bare,I.base,I.loc,I.cell,I.free,I.freeC,fun p hp=>(Lf.mp hp).elim (fun z=>I.pin p (Ll _ z)) (h p),I.hok,I.len⟩
theorem rS{N:List Str}(hN:N.Nodup){i j:Nat}{x:Str}(a:N[i]?=some x)(b:N[j]?=some x):i=j:=by
 obtain⟨h1,e1⟩:=Kn.mp a;obtain⟨h2,e2⟩:=Kn.mp b;exact(List.getElem_inj hN).mp (e1.trans e2.symm)
theorem pj{M:Model}{A:Around}{E:Value->Shared->Prop}{i:Nat}{x:Str}{v:V}{u:Value}{Q:Unit->Shared->Prop}(I:Inv X pins σ H s)(hN:X.N.Nodup)(hi:X.N[i]?=some x)(hx:Loc X.env.scope x)(r:aI v u)
  (h:∀s',Inv X pins (σ.set i (some v)) H s'->(∃a,KJ a s.heap s'.heap/\(a=X.env.locals\/X.env.cells.lookup x=some a))->Q () s') (hf:X.fn x=true\/X.env.scope.names.lookup x=some .local:=by first|exact .inl rfl|exact .inr rfl|assumption):wpAny M A (storeName X.env x u) Q E s:=by
 obtain⟨m,hn,hl⟩:=id I.loc;have hcls:(X.env.scope.kind== .class||(X.env.scope.kind== .module&&X.env.locals != X.env.globals))=false:=by rw[I.ok.kind];rfl
 have hiσ:i<σ.length:=by rw[I.len];exact(Kn.mp hi).1
 have cne:=I.cne;have tracked:∀{a:Addr} {h':Heap},(∃o,s.heap.get? a=some o/\H a=none)->KJ a s.heap h'->HOk X.prog X.w H h':=fun{a h'} ha hs b ob e=>by
  obtain⟨_,_,hfree⟩:=ha;refine(I.hok b ob e).stay (fun c w' hc q=>(hs.2 c ?_).trans q) (fun _ q=>q) fun _ _ q=>q;rintro rfl;rcases hc with rfl|hc
  ·rw[hfree]at e;cases e
  ·rw[hfree]at hc;cases hc
 rcases hx with hk|hk
 ·refine wpAny_storeName_local hk hn (fun h' hn' hs=>?_) hcls
  obtain⟨oL,_,_,hoL,_⟩:=id hn;refine h _ ⟨I.ok,I.os,I.bare,⟨fun b o e n hb hx=>?_,fun b o e n hb hx=>?_,I.base.free,fun b o e hx=>?_,I.base.tups,I.base.frzs,I.base.tbls⟩,⟨_,hn',fun j y v' e1 e2 e3=>?_⟩,fun y c e=>?_,I.free,I.freeC,fun p hp=>?_,tracked ⟨oL,hoL,I.free⟩ hs,by simpa using I.len⟩ ⟨_,hs,.inl rfl⟩
  ·exact(hs.2 b (K3 (KI (Ko e) I.ok.above))).trans (I.base.keep b o e n hb hx)
  ·obtain⟨sl,e1⟩:=I.base.slot b o e n hb hx
   exact⟨sl,(hs.2 b (K3 (KI (Ko e) I.ok.above))).trans e1⟩
  ·obtain⟨o',e1⟩:=I.base.there b o e hx
   exact⟨o',(hs.2 b (K3 (KI (Ko e) I.ok.above))).trans e1⟩
  ·by_cases hj:j=i
   ·subst hj
    rw[hi]at e1;cases e1;rw[NI hiσ]at e2;cases e2;exact⟨u,r,.inl ⟨hk,by simp⟩⟩
   ·rw[N0 (LK hj)]at e2
    obtain⟨u',r',q⟩:=hl j y v' e1 e2 e3;refine⟨u',r',?_⟩;rcases q with⟨k,e⟩|⟨k,c,e,z⟩
    ·refine .inl ⟨k,?_⟩
     have:y≠x:=fun e=>hj (rS hN e1 (e▸hi));simp[this,e]
    ·exact .inr ⟨k,c,e,z.sameBut hs (cne y c e)⟩
  ·obtain⟨w',z⟩:=I.cell y c e
   exact⟨w',z.sameBut hs (cne y c e)⟩
  ·obtain⟨e,n,ne,nf,d⟩:=I.pin p hp
   exact⟨(hs.2 p.1 ne).trans e,n,ne,nf,d⟩
 ·have hfn:X.fn x=true:=by
   rcases hf with z|z
   ·exact z
   ·rw[z]at hk;cases hk
  obtain⟨c,hc⟩:=I.ok.has x (.inl hk);obtain⟨w',z⟩:=I.cell x c hc;refine wpAny_storeName_cell I.ok.kind hk hc z (fun h' hc' hs=>?_);obtain⟨oc,hoc,hocd⟩:=id z;refine h { s with heap:=h' } ⟨I.ok,I.os,I.bare,⟨fun b o e n hb hx=>?_,fun b o e n hb hx=>?_,I.base.free,fun b o e hx=>?_,I.base.tups,I.base.frzs,I.base.tbls⟩,⟨m,hn.sameBut hs (LK (cne x c hc)),fun j y v' e1 e2 e3=>?_⟩,fun y c' e=>?_,I.free,I.freeC,fun p hp=>?_,tracked ⟨oc,hoc,I.freeC x c hc⟩ hs,by simpa using I.len⟩ ⟨c,hs,.inr hc⟩
  ·exact(hs.2 b (K3 (KI (Ko e) (I.ok.cab x c hfn hc)))).trans (I.base.keep b o e n hb hx)
  ·obtain⟨sl,e1⟩:=I.base.slot b o e n hb hx
   exact⟨sl,(hs.2 b (K3 (KI (Ko e) (I.ok.cab x c hfn hc)))).trans e1⟩
  ·obtain⟨o',e1⟩:=I.base.there b o e hx
   exact⟨o',(hs.2 b (K3 (KI (Ko e) (I.ok.cab x c hfn hc)))).trans e1⟩
  ·by_cases hj:j=i
   ·subst hj
    rw[hi]at e1;cases e1;rw[NI hiσ]at e2;cases e2;exact⟨u,r,.inr ⟨.inl hk,c,hc,hc'⟩⟩
   ·rw[N0 (LK hj)]at e2
    obtain⟨u',r',q⟩:=hl j y v' e1 e2 e3;refine⟨u',r',?_⟩;rcases q with q|⟨k,c',e,z'⟩
    ·exact .inl q
    ·refine .inr ⟨k,c',e,z'.sameBut hs ?_⟩
     rintro rfl;exact hj (rS hN e1 (I.ok.inj _ _ _ e hc▸hi))
  ·by_cases hcc:c'=c
   ·subst hcc;exact⟨_,hc'⟩
   ·obtain⟨w2,z2⟩:=I.cell y c' e
    exact⟨w2,z2.sameBut hs hcc⟩
  ·obtain⟨e,n,ne,nf,d⟩:=I.pin p hp
   refine⟨(hs.2 p.1 ?_).trans e,n,ne,nf,d⟩;intro q;rw[q,hoc]at e;have q':oc=p.2:=KA e;exact d w' (by rw[<-q'];exact hocd)
theorem rT{M:Model}{A:Around}{E:Value->Shared->Prop}{i:Nat}{x:Str}{v:V}{u:Value}{Q:Unit->Shared->Prop}(I:Inv X pins σ H s)(hN:X.N.Nodup)(hi:X.N[i]?=some x)(hx:Loc X.env.scope x)(r:aI v u)
  (h:∀s',Inv X pins (σ.set i (some v)) H s'->Q () s') (hf:X.fn x=true\/X.env.scope.names.lookup x=some .local:=by first|exact .inl rfl|exact .inr rfl|assumption):wpAny M A (storeName X.env x u) Q E s:=
 pj I hN hi hx r (fun s' I' _=>h s' I') hf
theorem Inv.call'{s':Shared}{ch:List Addr}(I:Inv X pins σ H s)(ho:s'.os=s.os)(u:Un (frs X.stack) ch H H' s.heap s'.heap)(hok:HOk X.prog X.w H' s'.heap)(hg:AllBare s'.gens)
  (hch:∀b∈ch,(b∈X.ex\/X.s₀.heap.objs.size<=b)/\b≠X.env.locals/\(∀x c,X.env.cells.lookup x=some c->c≠b)/\∀p∈X.pn++pins,p.1≠b):Inv X pins σ H' s':=by
 obtain⟨h',g',d',t',o'⟩:=s';have e:o'=s.os:=ho;subst e;exact I.call (g':=g') (t':=t') (d':=d') u hok hg hch
end
noncomputable abbrev XK:=Value->Option Addr->Hp->Prop
noncomputable abbrev St:=List (Option V)
noncomputable abbrev VK:=V->Hp->Prop
noncomputable abbrev TE:=St->Hp->VK->Prop
noncomputable abbrev TT:=St->Hp->(Bool->Hp->Prop)->Prop
noncomputable abbrev TA:=St->Hp->(List V->Hp->Prop)->Prop
set_option genInjectivity false in
structure jk where
 nx:St->Hp->Prop
 rt:VK
 bk:St->Hp->Prop:=fun _ _=>False
 ct:St->Hp->Prop:=fun _ _=>False
noncomputable abbrev TS:=jk->St->Hp->Prop
noncomputable def EP(X:Cx)(pins:List (Addr×Obj))(σ:St)(Q:VK)(u:Value)(s':Shared):Prop:=∃v H',Inv X pins σ H' s'/\aI v u/\Q v H'
noncomputable def TP(X:Cx)(pins:List (Addr×Obj))(σ:St)(Q:Bool->Hp->Prop)(b:Bool)(s':Shared):Prop:=∃H',Inv X pins σ H' s'/\Q b H'
noncomputable def AP(X:Cx)(pins:List (Addr×Obj))(σ:St)(Q:List V->Hp->Prop)(us:List Value)(s':Shared):Prop:=∃vs H',Inv X pins σ H' s'/\aG vs us/\Q vs H'
noncomputable def SP(X:Cx)(pins:List (Addr×Obj))(D:jk)(f:Flow)(s':Shared):Prop:=
 match f with
 | .next=>∃σ' H',Inv X pins σ' H' s'/\D.nx σ' H'
 | .brk=>∃σ' H',Inv X pins σ' H' s'/\D.bk σ' H'
 | .cont=>∃σ' H',Inv X pins σ' H' s'/\D.ct σ' H'
 | .ret u=>∃v σ' H',Inv X pins σ' H' s'/\aI v u/\D.rt v H'
noncomputable def PE(X:Cx)(e:Expr)(t:TE):Prop:=
 ∀(pins:List (Addr×Obj))(s:Shared)(σ:St)(H:Hp)(Q:VK),Inv X pins σ H s->t σ H Q->wpAny (model X.prog X.w) X.A (eval e X.env) (EP X pins σ Q) X.xe s
noncomputable def PT(X:Cx)(e:Expr)(t:TT):Prop:=
 ∀(pins:List (Addr×Obj))(s:Shared)(σ:St)(H:Hp)(Q:Bool->Hp->Prop),Inv X pins σ H s->t σ H Q->wpAny (model X.prog X.w) X.A (isTrue e X.env (eval e X.env)) (TP X pins σ Q) X.xe s
noncomputable def PW(X:Cx)(e:Expr)(t:TT):Prop:=
 ∀(whole:Sem Value)(pins:List (Addr×Obj))(s:Shared)(σ:St)(H:Hp)(Q:Bool->Hp->Prop),Inv X pins σ H s->t σ H Q->wpAny (model X.prog X.w) X.A (isTrue e X.env whole) (TP X pins σ Q) X.xe s
theorem PW.pt{X:Cx}{e:Expr}{t:TT}(h:PW X e t):PT X e t:=h _
noncomputable def PA(X:Cx)(es:List Expr)(t:TA):Prop:=
 ∀(pos:Pos)(pins:List (Addr×Obj))(s:Shared)(σ:St)(H:Hp)(Q:List V->Hp->Prop),Inv X pins σ H s->t σ H Q->wpAny (model X.prog X.w) X.A (spliced (backTo pos (KC es X.env))) (AP X pins σ Q) X.xe s
noncomputable def PS(X:Cx)(st:Stmt)(t:TS):Prop:=
 ∀(pins:List (Addr×Obj))(s:Shared)(σ:St)(H:Hp)(D:jk),Inv X pins σ H s->t D σ H->wpAny (model X.prog X.w) X.A (exec st X.env) (SP X pins D) X.xe s
noncomputable def PSs(X:Cx)(st:List Stmt)(t:TS):Prop:=
 ∀(pins:List (Addr×Obj))(s:Shared)(σ:St)(H:Hp)(D:jk),Inv X pins σ H s->t D σ H->wpAny (model X.prog X.w) X.A (execs st X.env) (SP X pins D) X.xe s
theorem thn{α:Type}{t:Sem α}{Q Q':α->Shared->Prop}{M:Model}{A:Around}{E:Value->Shared->Prop}{s:Shared}(h:wpAny M A t Q E s)(hQ:∀a s,Q a s->Q' a s):wpAny M A t Q' E s:=LM h hQ fun _ _ x=>x
end L2
namespace L2
open PySem PySem.Spec PyProof.Rows
section
variable{X:Cx}
noncomputable def ad(i:Nat):TE:=fun σ H Q=>∃v,σ[i]?=some (some v)/\Q v H
noncomputable def tC(v:V):TE:=fun _ H Q=>Q v H
theorem Ig{i:Nat}{x:Str}{pos:Pos}(hN:X.N[i]?=some x)(hv:Vis X.env.scope x)(hd:(x==("__debug__":Str))=false:=by decide)(hcd:(x==("__classdict__":Str))=false:=by decide):PE X (.Name x pos) (ad i):=by
 intro pins s σ H Q I h;obtain⟨v,e,h⟩:=h;obtain⟨m,hn,hl⟩:=I.loc;obtain⟨u,r,l⟩:=hl i x v hN e hv;have fin:EP X pins σ Q u s:=⟨v,H,I,r,h⟩;rcases l with⟨hk,hm⟩|⟨hk,c,hc,hcell⟩
 ·exact SO (wpAny_loadName_local I.ok.kind hk hn hm fin) hd
 ·rcases hk with hk|hk
  ·exact SO (wpAny_loadName_cell I.ok.kind hk hc hcell fin) hd
  ·exact SO (wpAny_loadName_free I.ok.kind hk hc hcell fin hcd) hd
theorem ai{i j pos}:PE X (.Constant (.int i) j pos) (tC (.int i)):=fun _ _ _ H _ I h=>wpAny_Constant_int ⟨.int i,H,I.tok _,⟨_,rfl⟩,h⟩
theorem cu{b j pos}:PE X (.Constant (.bool b) j pos) (tC (.bl b)):=fun _ _ _ H _ I h=>Constant_bool ⟨.bl b,H,I,rfl,h⟩
theorem dg{j pos}:PE X (.Constant .none j pos) (tC .non):=fun _ _ _ H _ I h=>Constant_none ⟨.non,H,I,rfl,h⟩
theorem aH{x j pos}:PE X (.Constant (.str x) j pos) (tC (.str x)):=fun _ _ _ H _ I h=>Calls.Constant_str ⟨.str x,H,I.tok _,⟨_,rfl⟩,h⟩
noncomputable def Gl(X:Cx)(x:Str):Prop:=X.env.kindOf x=some .globalImplicit
theorem qx{E:Value->Shared->Prop}{pins:List (Addr×Obj)}{s:Shared}{σ:St}{H:Hp}{x:Str}{u:Value}{pos:Pos}{Q:Value->Shared->Prop}(I:Inv X pins σ H s)(hg:Gl X x)(hm:X.mg x=some u)(h:Q u s)
  (hd:(x==("__debug__":Str))=false:=by decide):wpAny (model X.prog X.w) X.A (eval (.Name x pos) X.env) Q E s:=
 N3 I.ok.kind hg (Qr (by rw[I.ok.glob];exact I.mod.glob.keeps I.bk) hm h) hd
theorem ip{E:Value->Shared->Prop}{pins:List (Addr×Obj)}{s:Shared}{σ:St}{H:Hp}{x:Str}{u:Value}{pos:Pos}{Q:Value->Shared->Prop}(I:Inv X pins σ H s)(hg:Gl X x)(hm:X.mg x=none)(hv:NR x=some u)(h:Q u s)
  (hn:x≠"__name__":=by decide) (hd:(x==("__debug__":Str))=false:=by decide):wpAny (model X.prog X.w) X.A (eval (.Name x pos) X.env) Q E s:=by
 obtain⟨mb,h1,h2⟩:=I.mod.blt;exact N3 I.ok.kind hg (Calls.loadGlobal_builtin (by rw[I.ok.glob];exact I.mod.glob.keeps I.bk) hm (by rw[I.ok.blt];exact h1.keeps I.bk) ((h2 x hn).trans hv) h) hd
theorem dR{x:Str}{v:V}{u:Value}{pos:Pos}(hg:Gl X x)(hm:X.mg x=some u)(r:aI v u)(hd:(x==("__debug__":Str))=false:=by decide):PE X (.Name x pos) (tC v):=
 fun _ _ _ H _ I h=>qx I hg hm ⟨v,H,I,r,h⟩ hd
theorem je{x:Str}{v:V}{u:Value}{pos:Pos}(hg:Gl X x)(hm:X.mg x=none)(hv:NR x=some u)(r:aI v u)(hn:x≠"__name__":=by decide)(hd:(x==("__debug__":Str))=false:=by decide):PE X (.Name x pos) (tC v):=
 fun _ _ _ H _ I h=>ip I hg hm hv ⟨v,H,I,r,h⟩ hn hd
variable{a b:Expr}{ta tb:TE}{pos:Pos}
noncomputable def tB(t:TE):TT:=fun σ H Q=>t σ H fun x H1=>∃c,x=.bl c/\Q c H1
theorem cK{e:Expr}{t:TE}(h:PE X e t)(he:∀whole,isTrue e X.env whole=(do let v <-whole;standAt e.pos;holding [v] (truthy v)):=by intro _;rfl):PT X e (tB t):=by
 intro pins s σ H Q I hw;refine isTrue_plain (thn (h pins s σ H _ I hw) fun v s1 ⟨x,H1,I1,r1,q1⟩=>?_) (he _);obtain⟨d,rfl,q⟩:=q1;cases r1;exact Mu ⟨H1,I1,q⟩
variable{tA tB':TT}{da:List Expr}
noncomputable def tOr(t u:TT):TT:=fun σ H Q=>t σ H fun c H1=>if c=true then Q true H1 else u σ H1 Q
noncomputable def fY(t:TT):TT:=fun σ H Q=>t σ H fun c H1=>Q (!c) H1
theorem pA(ha:PT X a tA):PW X (.BoolOp .Or [a] pos) tA:=by
 intro wh pins s σ H Q I h;refine isTrue_or (thn (ha pins s σ H Q I h) fun c s1 e=>?_);cases c with
 |false=>exact isTrue_or_nil e
 |true=>exact e
theorem tm(ha:PT X a tA)(hb:PW X (.BoolOp .Or (b::da) pos) tB'):PW X (.BoolOp .Or (a::b::da) pos) (tOr tA tB'):=by
 intro wh pins s σ H Q I h;refine isTrue_or (thn (ha pins s σ H _ I h) fun c s1 ⟨H1,I1,q1⟩=>?_);cases c with
 |true=>exact⟨H1,I1,q1⟩
 |false=>exact hb wh pins s1 σ H1 Q I1 q1
theorem cL(ha:PT X a tA):PT X (.UnaryOp .Not a pos) (fY tA):=by
 intro pins s σ H Q I h;exact isTrue_not (ha pins s σ H (fun c H1=>Q (!c) H1) I h)
noncomputable def mD(ta tb:TE):TE:=fun σ H Q=>ta σ H fun x H1=>∃c,x=.bl c/\if c=true then tb σ H1 Q else Q (.bl false) H1
noncomputable def Ej(ta tb:TE):TE:=fun σ H Q=>ta σ H fun x H1=>∃c,x=.bl c/\if c=true then Q (.bl true) H1 else tb σ H1 Q
noncomputable def xH(ta:TE):TE:=fun σ H Q=>ta σ H fun x H1=>∃c,x=.bl c/\Q (.bl (!c)) H1
theorem lM{op}{t:TE}(h:PE X a t):PE X (.BoolOp op [a] pos) t:=fun pins s σ H Q I hw=>BoolOp_one (h pins s σ H Q I hw)
theorem nv(ha:PE X a ta)(hb:PE X (.BoolOp .And (b::da) pos) tb):PE X (.BoolOp .And (a::b::da) pos) (mD ta tb):=by
 intro pins s σ H Q I h;refine BoolOp_and (thn (ha pins s σ H _ I h) fun v s1 ⟨x,H1,I1,r1,q1⟩=>?_);obtain⟨c,rfl,q1⟩:=q1;cases r1;refine Mu ?_;cases c with
 |true=>exact hb pins s1 σ H1 Q I1 q1
 |false=>exact⟨.bl false,H1,I1,rfl,q1⟩
theorem Jr(ha:PE X a ta)(hb:PE X (.BoolOp .Or (b::da) pos) tb):PE X (.BoolOp .Or (a::b::da) pos) (Ej ta tb):=by
 intro pins s σ H Q I h;refine BoolOp_or (thn (ha pins s σ H _ I h) fun v s1 ⟨x,H1,I1,r1,q1⟩=>?_);obtain⟨c,rfl,q1⟩:=q1;cases r1;refine Mu ?_;cases c with
 |false=>exact hb pins s1 σ H1 Q I1 q1
 |true=>exact⟨.bl true,H1,I1,rfl,q1⟩
theorem CB(ha:PE X a ta):PE X (.UnaryOp .Not a pos) (xH ta):=by
 intro pins s σ H Q I h;refine UnaryOp_ (thn (ha pins s σ H _ I h) fun v s1 ⟨x,H1,I1,r1,q1⟩=>?_);obtain⟨c,rfl,q1⟩:=q1;cases r1;exact not_of (Mu ⟨.bl (!c),H1,I1,rfl,q1⟩)
end
end L2
namespace L2
open PySem PySem.Spec PyProof.Rows
noncomputable def SqL(K:Fg)(H:Hp)(a:Addr)(xs:List V):Prop:=
 Rd H a (.lst xs)\/
  ∃(o:Obj)(its:Array Value)(n:Nat),K.lookup a=some o/\o.cls=.type "list"/\o.dict=none/\o.data=.seq its n/\its.size<=Kw/\aG xs its.toList
noncomputable def SqT(K:Fg)(H:Hp)(a:Addr)(xs:List V):Prop:=
 Rd H a (.tup xs)\/
  ∃(o:Obj)(its:Array Value)(n:Nat),K.lookup a=some o/\o.cls=.type "tuple"/\o.data=.seq its n/\its.size<=Kw/\aG xs its.toList
noncomputable def JV:Value->Option V
 | .none=>some .non
 | .bool b=>some (.bl b)
 | .int i _=>some (.int i)
 | .str x _=>some (.str x)
 | .bytes b _=>some (.byt b)
 | .float b _=>some (.flt b)
 | .ref a=>some (.ref a)
 | .type n=>some (.ty n)
 |_=>none
theorem aI.abs{x:V}{u:Value}(r:aI x u):JV u=some x:=by
 cases x with
 |non=>cases r;rfl
 |bl _=>cases r;rfl
 |int _=>obtain⟨t,rfl⟩:=r;rfl
 |str _=>obtain⟨t,rfl⟩:=r;rfl
 |byt _=>obtain⟨t,rfl⟩:=r;rfl
 |flt _=>obtain⟨t,rfl⟩:=r;rfl
 |ref _=>cases r;rfl
 |ty _=>cases r;rfl
theorem aI.inj{x y:V}{u:Value}(r:aI x u)(q:aI y u):x=y:=KA (r.abs.symm.trans q.abs)
theorem aG.inj{xs ys:List V}{us:List Value}(h:aG xs us):aG ys us->xs=ys:=by
 induction h generalizing ys with
 |nil=>intro h;cases h;rfl
 |cons r t ih=>intro h;cases h with
  |cons r' t'=>rw[r.inj r',ih t']
section
variable{X:Cx}{pins:List (Addr×Obj)}{σ:St}{H:Hp}{s:Shared}{a:Addr}{xs ys:List V}
theorem SqL.of{K:Fg}(h:H a=some (.lst xs)):SqL K H a xs:=.inl (.inl h)
theorem SqT.of{K:Fg}(h:H a=some (.tup xs)):SqT K H a xs:=.inl (.inl h)
theorem Inv.list(I:Inv X pins σ H s)(h:SqL X.K H a xs):∃its:List Value,aG xs its/\PlainL s.heap a its.toArray/\xs.length<=Kw:=by
 rcases h with h|⟨o,its,n,hk,hc,hd,hs,hz,r⟩
 ·obtain⟨z,its,n,r,e⟩:=h.ok I.hok
  exact⟨its,r,⟨_,n,e,rfl,rfl,rfl⟩,z⟩
 ·refine⟨its.toList,r,⟨o,n,I.kIn a o hk,hc,hd,by simpa using hs⟩,?_⟩
  have e:=r.length;simp only[K8]at e;omega
theorem Inv.tuple(I:Inv X pins σ H s)(h:SqT X.K H a xs):∃its:List Value,aG xs its/\IsTup s.heap a its.toArray/\xs.length<=Kw:=by
 rcases h with h|⟨o,its,n,hk,hc,hs,hz,r⟩
 ·obtain⟨z,its,r,p⟩:=h.ok I.hok
  exact⟨its,r,p.tup,z⟩
 ·refine⟨its.toList,r,⟨o,I.kIn a o hk,hc,n,by simpa using hs⟩,?_⟩
  have e:=r.length;simp only[K8]at e;omega
theorem Inv.list_inj(I:Inv X pins σ H s)(h:SqL X.K H a xs)(h':SqL X.K H a ys):xs=ys:=by
 obtain⟨its,r,⟨o,n,e,_,_,d⟩,_⟩:=I.list h;obtain⟨its',r',⟨o',n',e',_,_,d'⟩,_⟩:=I.list h';rw[e]at e';cases e';rw[d]at d';injection d' with d1 _
 have:its=its':=by simpa using congrArg Array.toList d1
 subst this;exact r.inj r'
theorem Inv.tuple_inj(I:Inv X pins σ H s)(h:SqT X.K H a xs)(h':SqT X.K H a ys):xs=ys:=by
 obtain⟨its,r,⟨o,e,_,n,d⟩,_⟩:=I.tuple h;obtain⟨its',r',⟨o',e',_,n',d'⟩,_⟩:=I.tuple h';rw[e]at e';cases e';rw[d]at d';injection d' with d1 _
 have:its=its':=by simpa using congrArg Array.toList d1
 subst this;exact r.inj r'
end
noncomputable abbrev Cx.wish(X:Cx)(E:Value->Shared->Prop):Cx:={ X with xe:=E }
noncomputable abbrev Cx.nox(X:Cx):Cx:=X.wish fun _ _=>False
theorem Cx.Ok.wish{X:Cx}(ok:X.Ok)(E:Value->Shared->Prop):(X.wish E).Ok:=
 ⟨ok.mod,ok.kind,ok.glob,ok.blt,ok.above,ok.inj,ok.has,ok.cab,ok.hd,ok.frames,ok.stk,ok.exf,ok.bs,ok.bsz,ok.noex,ok.exfs,ok.funs,ok.frf⟩
theorem Cx.Ok.unwish{X:Cx}{E:Value->Shared->Prop}(ok:(X.wish E).Ok):X.Ok:=
 ⟨ok.mod,ok.kind,ok.glob,ok.blt,ok.above,ok.inj,ok.has,ok.cab,ok.hd,ok.frames,ok.stk,ok.exf,ok.bs,ok.bsz,ok.noex,ok.exfs,ok.funs,ok.frf⟩
section
variable{X:Cx}{pins:List (Addr×Obj)}{σ:St}{H:Hp}{s:Shared}{E:Value->Shared->Prop}
theorem Inv.wish(I:Inv X pins σ H s)(E:Value->Shared->Prop):Inv (X.wish E) pins σ H s:=⟨I.ok.wish E,I.os,I.bare,I.base,I.loc,I.cell,I.free,I.freeC,I.pin,I.hok,I.len⟩
theorem Inv.unwish(I:Inv (X.wish E) pins σ H s):Inv X pins σ H s:=⟨I.ok.unwish,I.os,I.bare,I.base,I.loc,I.cell,I.free,I.freeC,I.pin,I.hok,I.len⟩
theorem SP.unwish{D:jk}{f:Flow}{s':Shared}(h:SP (X.wish E) pins D f s'):SP X pins D f s':=by
 cases f with
 |next=>obtain⟨σ',H',I,q⟩:=h;exact⟨σ',H',I.unwish,q⟩
 |brk=>obtain⟨σ',H',I,q⟩:=h;exact⟨σ',H',I.unwish,q⟩
 |cont=>obtain⟨σ',H',I,q⟩:=h;exact⟨σ',H',I.unwish,q⟩
 |ret u=>obtain⟨v,σ',H',I,r,q⟩:=h;exact⟨v,σ',H',I.unwish,r,q⟩
theorem PE.nox{e:Expr}{t:TE}(h:PE X.nox e t):PE X e t:=fun pins s σ H Q I hw=>
 LM (h pins s σ H Q (I.wish _) hw) (fun _ _ ⟨v,H',I',r,q⟩=>⟨v,H',I'.unwish,r,q⟩) fun _ _ z=>Mi z
theorem PT.nox{e:Expr}{t:TT}(h:PT X.nox e t):PT X e t:=fun pins s σ H Q I hw=>
 LM (h pins s σ H Q (I.wish _) hw) (fun _ _ ⟨H',I',q⟩=>⟨H',I'.unwish,q⟩) fun _ _ z=>Mi z
theorem PSs.nox{st:List Stmt}{t:TS}(h:PSs X.nox st t):PSs X st t:=fun pins s σ H D I hw=>
 LM (h pins s σ H D (I.wish _) hw) (fun _ _ q=>q.unwish) fun _ _ z=>Mi z
end
section
variable{X:Cx}{st:Stmt}{da:List Stmt}{t u:TS}{e:Expr}{te:TE}{pos:Pos}
noncomputable def bv:TS:=fun D σ H=>D.nx σ H
noncomputable def ar(t u:TS):TS:=fun D σ H=>t { D with nx:=u D } σ H
theorem aU:PSs X [] bv:=fun _ _ σ H _ I h=>Oc ⟨σ,H,I,h⟩
theorem ah(h1:PS X st t)(h2:PSs X da u):PSs X (st::da) (ar t u):=by
 intro pins s σ H D I h;refine Sx (thn (h1 pins s σ H { D with nx:=u D } I h) fun f s1 q=>?_);cases f with
 |next=>
  obtain⟨σ',H',I',q⟩:=q;exact h2 pins s1 σ' H' D I' q
 |ret v=>exact q
 |brk=>exact q
 |cont=>exact q
theorem ak(h1:PS X st t):PSs X [st] t:=by
 intro pins s σ H D I h;refine Sx (thn (h1 pins s σ H D I h) fun f s1 q=>?_);cases f with
 |next=>exact Oc q
 |ret v=>exact q
 |brk=>exact q
 |cont=>exact q
theorem Inv.quiet{pins:List (Addr×Obj)}{σ:St}{H:Hp}{s:Shared}(I:Inv X pins σ H s):interactive X.env=false:=by simp[interactive,I.ok.kind]
noncomputable def bR(te:TE):TS:=fun D σ H=>te σ H fun _ H1=>D.nx σ H1
theorem bc(he:PE X e te)(hs:Qz e none pos.line X.env=pure false:=by rfl):PS X (.Expr e pos) (bR te):=by
 intro pins s σ H D I h;exact wpAny_Expr_any (thn (he pins s σ H _ I h) fun v s1 ⟨x,H1,I1,r1,q1⟩=>⟨σ,H1,I1,q1⟩) I.quiet hs
noncomputable def aN(te:TE):TS:=fun D σ H=>te σ H D.rt
theorem aw(he:PE X e te):PS X (.Return (some e) pos) (aN te):=by
 intro pins s σ H D I h;exact wpAny_Return_some (thn (he pins s σ H _ I h) fun v s1 ⟨x,H1,I1,r1,q1⟩=>⟨x,σ,H1,I1,r1,q1⟩)
noncomputable def bD(c:TT)(t u:TS):TS:=fun D σ H=>c σ H fun b H1=>if b=true then t D σ H1 else u D σ H1
theorem bj{c:Expr}{a b:List Stmt}{tc:TT}(hc:PT X c tc)(ha:PSs X a t)(hb:PSs X b u):PS X (.If c a b pos) (bD tc t u):=by
 intro pins s σ H D I h;refine wpAny_If (thn (hc pins s σ H _ I h) fun d s1 ⟨H1,I1,q1⟩=>?_);cases d with
 |true=>exact ha pins s1 σ H1 D I1 q1
 |false=>exact hb pins s1 σ H1 D I1 q1
noncomputable def dD:TS:=fun _ _ _=>False
theorem jO:PS X st dD:=fun _ _ _ _ _ _ h=>h.elim
end
noncomputable abbrev TG:=V->St->Hp->(St->Hp->Prop)->Prop
noncomputable abbrev TGs:=List V->St->Hp->(St->Hp->Prop)->Prop
noncomputable def PG(X:Cx)(target:Expr)(t:TG):Prop:=
 ∀(pins:List (Addr×Obj))(s:Shared)(σ:St)(H:Hp)(v:V)(u:Value)(Q:St->Hp->Prop),Inv X pins σ H s->aI v u->t v σ H Q->
  wpAny (model X.prog X.w) X.A (assign target X.env u) (fun _ s'=>∃σ' H',Inv X pins σ' H' s'/\Q σ' H') X.xe s
noncomputable def PGs(X:Cx)(ts:List Expr)(t:TGs):Prop:=
 ∀(pins:List (Addr×Obj))(s:Shared)(σ:St)(H:Hp)(vs:List V)(us:List Value)(Q:St->Hp->Prop),Inv X pins σ H s->aG vs us->t vs σ H Q->
  wpAny (model X.prog X.w) X.A (assignInOrder ((OZ ts X.env).map (·.2)) us) (fun _ s'=>∃σ' H',Inv X pins σ' H' s'/\Q σ' H') X.xe s
noncomputable abbrev AR:=V->V->V->Hp->(Hp->Prop)->Prop
noncomputable def Ek(X:Cx)(t:AR):Prop:=
 ∀(pins:List (Addr×Obj))(s:Shared)(σ:St)(H:Hp)(o i v:V)(ov iv u:Value)(Q:Hp->Prop),Inv X pins σ H s->aI o ov->aI i iv->aI v u->t o i v H Q->
  wpAny (model X.prog X.w) X.A (setItem ov iv u) (fun _ s'=>∃H',Inv X pins σ H' s'/\Q H') X.xe s
section
variable{X:Cx}{pos:Pos}
noncomputable def ao(i:Nat):TG:=fun v σ H Q=>Q (σ.set i (some v)) H
theorem vE{i:Nat}{x:Str}(hN:X.N.Nodup)(hi:X.N[i]?=some x)(hx:Loc X.env.scope x)(hf:X.fn x=true\/X.env.scope.names.lookup x=some .local:=by first|exact .inl rfl|exact .inr rfl|assumption):PG X (.Name x pos) (ao i):=by
 intro pins s σ H v u Q I r h;exact R3 (rT I hN hi hx r (fun s' I'=>⟨_,H,I',h⟩) hf)
noncomputable def ij:TGs:=fun vs σ H Q=>vs=[]/\Q σ H
noncomputable def bx(t:TG)(u:TGs):TGs:=fun vs σ H Q=>∃v r,vs=v::r/\t v σ H fun σ' H'=>u r σ' H' Q
theorem cW:PGs X [] ij:=by
 intro pins s σ H vs us Q I r h;obtain⟨e,h⟩:=h;subst e;cases r;exact assignInOrder_nil ⟨σ,H,I,h⟩
theorem aX{e:Expr}{es:List Expr}{t:TG}{u:TGs}(h1:PG X e t)(h2:PGs X es u)
  (hs:(OZ (e::es) X.env).map (·.2)=assign e X.env::(OZ es X.env).map (·.2):=by rfl):PGs X (e::es) (bx t u):=by
 intro pins s σ H vs us Q I r h;obtain⟨v,vr,e1,h⟩:=h;subst e1;cases r with
 |cons r rr=>
  rw[hs];refine assignInOrder_cons (thn (h1 pins s σ H _ _ _ I r h) fun _ s1 ⟨σ1,H1,I1,q1⟩=>?_);exact h2 pins s1 σ1 H1 _ _ Q I1 rr q1
noncomputable def ik(K:Fg)(n:Nat)(t:TGs):TG:=fun v σ H Q=>∃a xs,v=.ref a/\SqT K H a xs/\xs.length=n/\t xs σ H Q
theorem dZ{es:List Expr}{k:Nat}{t:TGs}{n:Nat}(hc:X.calm=true)(h:PGs X es t)
  (hn:(OZ es X.env).length=n:=by rfl) (hst:(OZ es X.env).findIdx? (·.1)=none:=by rfl):PG X (.Tuple es k pos) (ik X.K n t):=by
 intro pins s σ H v u Q I r hw;obtain⟨a,xs,e1,hq,hl,hw⟩:=hw;subst e1;cases r;obtain⟨its,rv,ht,hz⟩:=I.tuple hq;refine assign_Tuple_tuple (I.ok.hd hc) ht (by simp[hn,<-hl,rv.length]) hst fun h' hx=>?_;have I1:Inv X pins σ H { s with heap:=h' }:=I.kept (t':=s.toks) fun b o e=>hx b o (K3 (Ko e)) e;exact h pins _ σ H xs _ Q I1 (by simpa using rv) hw
noncomputable def pB(to ti:TE)(t:AR):TG:=fun v σ H Q=>to σ H fun o H1=>ti σ H1 fun i H2=>t o i v H2 fun H3=>Q σ H3
theorem pD{o i:Expr}{to ti:TE}{t:AR}(ho:PE X o to)(hi:PE X i ti)(hs:Ek X t)
  (ha:∀v,assign (.Subscript o i pos) X.env v=(do
   let ov <-holding [v] (eval o X.env)
   let iv <-holding [v,ov] (eval i X.env)
   standAt pos
   holding [v,ov,iv] (setItem ov iv v)
   release [v,ov,iv] []):=by intro _;rfl):PG X (.Subscript o i pos) (pB to ti t):=by
 intro pins s σ H v u Q I r h;rw[ha];refine Kg (LH (thn (ho pins s σ H _ I h) fun ov s1 ⟨x,H1,I1,r1,q1⟩=>?_));refine Kg (LH (thn (hi pins s1 σ H1 _ I1 q1) fun iv s2 ⟨y,H2,I2,r2,q2⟩=>?_));refine Kg (Rm (Kg (LH (thn (hs pins s2 σ H2 x y v ov iv u _ I2 r1 r2 r q2) fun _ s3 ⟨H3,I3,q3⟩=>?_))));exact wpAny_release ⟨σ,H3,I3,q3⟩
noncomputable def aK(te:TE)(g:TG):TS:=fun D σ H=>te σ H fun x H1=>g x σ H1 D.nx
theorem lO{tg e:Expr}{te:TE}{g:TG}(he:PE X e te)(hg:PG X tg g)(hs:swapsWithSole [tg] e pos.line X.env=pure false:=by rfl)(hw:swappedStores [tg] e X.env=pure none:=by rfl)
  (h1:(OZ [tg] X.env).map (·.2)=[assign tg X.env]:=by rfl):PS X (.Assign [tg] e pos) (aK te g):=by
 intro pins s σ H D I h;refine wpAny_Assign_stores (thn (he pins s σ H _ I h) fun v s1 ⟨x,H1,I1,r1,q1⟩=>?_) hs hw;rw[h1];exact thn (hg pins s1 σ H1 x v _ I1 r1 q1) fun _ s2 q=>q
theorem ny{i:Nat}{x:Str}{e:Expr}{te:TE}{pos':Pos}(hN:X.N.Nodup)(hi:X.N[i]?=some x)(hx:Loc X.env.scope x)(he:PE X e te)(hs:Qz e (some (.Name x pos')) pos.line X.env=pure false:=by rfl)(hf:X.fn x=true\/X.env.scope.names.lookup x=some .local:=by first|exact .inl rfl|exact .inr rfl|assumption):
  PS X (.Assign [.Name x pos'] e pos) (aK te (ao i)):=by
 intro pins s σ H D I h;refine wpAny_Assign_Name (thn (he pins s σ H _ I h) fun v s1 ⟨y,H1,I1,r1,q1⟩=>?_) hs;exact rT I1 hN hi hx r1 (fun s2 I2=>⟨_,H1,I2,q1⟩) hf
end
section
variable{X:Cx}{pos:Pos}
noncomputable def nA(c:TT)(tb:TS):TS:=fun D σ H=>∃W:Nat->St->Hp->Prop,(∃m,W m σ H)/\∀m σ H,W m σ H->
 c σ H fun b H1=>if b=true then∃N:St->Hp->Prop,(∀σ' H',N σ' H'->∃m',m'<m/\W m' σ' H')/\tb { D with nx:=N,ct:=N,bk:=D.nx } σ H1 else D.nx σ H1
theorem rV{c:Expr}{body:List Stmt}{tc:TT}{tb:TS}(hp:LB (model X.prog X.w) X.A X.env X.xe)(hc:PT X c tc)(hb:PSs X body tb):PS X (.While c body [] pos) (nA tc tb):=by
 intro pins s σ H D I h;obtain⟨W,⟨m0,w0⟩,turn⟩:=h;refine wpAny_While (codeAny_whileLoop (fun n s'=>∃σ' H',Inv X pins σ' H' s'/\W n σ' H') ?_ m0 ⟨σ,H,I,w0⟩);rintro n s1 ⟨σ1,H1,I1,w1⟩;refine MY hp (thn (hc pins s1 σ1 H1 _ I1 (turn n σ1 H1 w1)) fun b s2 ⟨H2,I2,q2⟩=>?_);cases b with
 |true=>
  obtain⟨N,hN,q2⟩:=q2;rw[if_pos rfl];refine MY hp (thn (hb pins s2 σ1 H2 _ I2 q2) fun f s3 q3=>?_);cases f with
  |next=>
   obtain⟨σ3,H3,I3,n3⟩:=q3;obtain⟨m',hm,w3⟩:=hN σ3 H3 n3;exact⟨m',hm,σ3,H3,I3,w3⟩
  |cont=>
   obtain⟨σ3,H3,I3,n3⟩:=q3;obtain⟨m',hm,w3⟩:=hN σ3 H3 n3;exact⟨m',hm,σ3,H3,I3,w3⟩
  |brk=>exact q3
  |ret v=>exact q3
 |false=>
  rw[if_neg Kv];exact Oc ⟨σ1,H2,I2,q2⟩
end
set_option genInjectivity false in
structure It where
 go:Nat->Hp->Prop
 yld:Nat->Hp->V->Hp->Prop
 stop:Nat->Hp->Prop
noncomputable def jl(X:Cx)(pins:List (Addr×Obj))(H:Hp)(b:Addr):Prop:=
 H b=none/\b≠X.env.locals/\b∉X.fs/\(b∈X.ex\/X.s₀.heap.objs.size<=b)/\(∀x c,X.env.cells.lookup x=some c->c≠b)/\∀p∈X.pn++pins,p.1≠b
theorem Inv.fpOk{X:Cx}{pins:List (Addr×Obj)}{σ:St}{H H':Hp}{s:Shared}{b:Addr}(I:Inv X pins σ H s)(hb:s.heap.objs.size<=b)(hn:H' b=none):jl X pins H' b:=by
 refine⟨hn,Mz (KI I.lt hb),I.nofs hb,.inr (K4 I.sz hb),fun x c e z=>?_,fun p hp z=>?_⟩
 ·obtain⟨v,q⟩:=I.cell x c e
  exact absurd (KI q.lt (by rw[z];exact hb)) (Lz _)
 ·exact absurd (KI (Ko (I.pin p hp).1) (by rw[z];exact hb)) (Lz _)
structure pE(P:Program)(w:World)(K:Fg)(tg:Expr)(J:It)(fp:List Addr)(it:Addr)(tn:Nat->Heap->Prop):Prop where
 mem:it∈fp
 obj:∀i h,tn i h->∀b∈fp,∃o,h.get? b=some o/\∀v,o.data≠.cell v
 keep:∀i h h',tn i h->(∀b∈fp,∀o,h.get? b=some o->h'.get? b=some o)->tn i h'
 item:∀(X:Cx),X.prog=P->X.w=w->X.K=K->X.calm=true->∀(i:Nat)(pins:List (Addr×Obj))(s:Shared)(σ:St)(H:Hp)(E:Value->Shared->Prop),Inv X pins σ H s->(∀b∈fp,jl X pins H b)->tn i s.heap->J.go i H->
  wpAny (model P w) X.A (pyNext (.ref it)) (fun r s1=>∃u,r=some u/\
   wpAny (model P w) X.A (O0 tg (.ref it) u) (fun _ s2=>∃x H',Inv X pins σ H' s2/\aI x u/\J.yld i H x H'/\tn (i+1) s2.heap/\∀b∈fp,H' b=none) E s1) E s
 done:∀(X:Cx),X.prog=P->X.w=w->X.K=K->X.calm=true->∀(i:Nat)(pins:List (Addr×Obj))(s:Shared)(σ:St)(H:Hp)(E:Value->Shared->Prop),Inv X pins σ H s->(∀b∈fp,jl X pins H b)->tn i s.heap->J.stop i H->
  wpAny (model P w) X.A (pyNext (.ref it)) (fun r s1=>r=none/\Inv X pins σ H s1) E s
 self:∀(A:Around)(i:Nat)(s:Shared)(Q:Value->Shared->Prop)(E:Value->Shared->Prop),tn i s.heap->Q (.ref it) s->wpAny (model P w) A (pyIter (.ref it)) Q E s
noncomputable abbrev TI:=St->Hp->(It->Hp->Prop)->Prop
noncomputable def PIE(X:Cx)(pins:List (Addr×Obj))(σ:St)(tg:Expr)(R:It->Hp->Prop)(itv:Value)(s2:Shared):Prop:=
 ∃(it:Addr)(fp:List Addr)(tn:Nat->Heap->Prop)(J:It)(H':Hp),itv=.ref it/\Inv X pins σ H' s2/\pE X.prog X.w X.K tg J fp it tn/\tn 0 s2.heap/\(∀b∈fp,jl X pins H' b)/\R J H'
noncomputable def PI(X:Cx)(tg iter:Expr)(wi:TI):Prop:=
 ∀(pins:List (Addr×Obj))(s:Shared)(σ:St)(H:Hp)(R:It->Hp->Prop),Inv X pins σ H s->wi σ H R->
  wpAny (model X.prog X.w) X.A (eval iter X.env) (fun v s1=>wpAny (model X.prog X.w) X.A (pyIter v) (PIE X pins σ tg R) X.xe s1) X.xe s
theorem AS{M: Model}{A: Around}{E: Value → Shared → Prop}{s: Shared}{tg: Expr}{it: Addr}{u: Value}{o: Obj}{n: String}{vs: Array Value}{Q: Unit → Shared → Prop}(ho: s.heap.get? it= some o)(hc: o.cls= .type n)(hd: o.data= .fields vs)
    (hn: ["enumerate", "zip", "dict_itemiterator", "dict_reverseitemiterator", "odict_iterator", "itertools.zip_longest", "itertools.pairwise"].contains n= false) (hQ: Q () s): wpAny M A (O0 tg (.ref it) u) Q E s:= by
  unfold O0;cases tg<;>first
    |exact Ki hQ
    | (cases u<;>first
        |exact Ki hQ
        | (refine Kg (SQ ho ?_)
           rw[hc, hd];show wpAny M A (if(["enumerate", "zip", "dict_itemiterator", "dict_reverseitemiterator", "odict_iterator", "itertools.zip_longest", "itertools.pairwise"].contains n&&vs[0]? ==some (rawInt _))= true then _ else _) Q E s;rw[if_neg (by intro h;rw[hn, Nh]at h;cases h)];exact Ki hQ))
noncomputable def Itl(K:Fg)(a:Addr):It:=
 ⟨fun i H=>∃xs x,SqL K H a xs/\xs[i]?=some x,fun i H x H'=>H'=H/\∀xs,SqL K H a xs->xs[i]?=some x,fun i H=>∃xs,SqL K H a xs/\xs.length<=i⟩
noncomputable def Itt(K:Fg)(a:Addr):It:=
 ⟨fun i H=>∃xs x,SqT K H a xs/\xs[i]?=some x,fun i H x H'=>H'=H/\∀xs,SqT K H a xs->xs[i]?=some x,fun i H=>∃xs,SqT K H a xs/\xs.length<=i⟩
noncomputable def Itr(lo:Int)(n:Nat):It:=⟨fun i _=>i<n,fun i H x H'=>H'=H/\x=.int (lo+i),fun i _=>n<=i⟩
theorem CC{P:Program}{w:World}{K:Fg}{tg:Expr}(a it:Addr):pE P w K tg (Itl K a) [it] it (fun i h=>h.IsListIter it a i) where
 mem:=by simp
 obj:=fun i h st b hb=>by
  have e:b=it:=by simpa using hb
  subst e;obtain⟨o,e,c,d⟩:=st;exact⟨o,e,fun v z=>by rw[d]at z;cases z⟩
 keep:=fun i h h' st k=>st.at fun o e=>k it (by simp) o e
 item:=by
  intro X hP hw hK hc i pins s σ H E I hf st hg;subst hP hw hK;obtain⟨xs,x,hq,hx⟩:=hg;obtain⟨its,rv,p,hz⟩:=I.list hq;obtain⟨u,hu,ru⟩:=rv.get hx;obtain⟨f0,f1,f2,f3,f4,f5⟩:=hf it (by simp);refine wpAny_pyNext_list_item st p.isList (x:=u) (by simpa using hu) fun h' st' sb=>?_;have I1:Inv X pins σ H { s with heap:=h' }:=I.turned (t':=s.toks) (fun b o hb e=>(sb.2 b hb).trans e) f0 f1 f3 f4 f5;obtain⟨o,e,c,d⟩:=id st';exact⟨u,rfl,AS (s:={ s with heap:=h' }) e c d (by decide) ⟨x,H,I1,ru,⟨rfl,fun ys hy=>by rw[I.list_inj hy hq];exact hx⟩,st',fun b hb=>(hf b hb).1⟩⟩
 done:=by
  intro X hP hw hK hc i pins s σ H E I hf st hg;subst hP hw hK;obtain⟨xs,hq,hx⟩:=hg;obtain⟨its,rv,p,hz⟩:=I.list hq;obtain⟨f0,f1,f2,f3,f4,f5⟩:=hf it (by simp);have hl:=rv.length;exact wpAny_pyNext_list_end (I.ok.hd hc) st p.isList (by simp;omega) fun h' eb=>⟨rfl,I.turned (t':=s.toks) (fun b o hb e=>eb b o hb e) f0 f1 f3 f4 f5⟩
 self:=fun _ _ _ _ _ st h=>wpAny_pyIter_listiter st h
theorem AT{P:Program}{w:World}{K:Fg}{tg:Expr}(a it:Addr):pE P w K tg (Itt K a) [it] it (fun i h=>h.IsTupleIter it a i) where
 mem:=by simp
 obj:=fun i h st b hb=>by
  have e:b=it:=by simpa using hb
  subst e;obtain⟨o,e,c,d⟩:=st;exact⟨o,e,fun v z=>by rw[d]at z;cases z⟩
 keep:=fun i h h' st k=>st.at fun o e=>k it (by simp) o e
 item:=by
  intro X hP hw hK hc i pins s σ H E I hf st hg;subst hP hw hK;obtain⟨xs,x,hq,hx⟩:=hg;obtain⟨its,rv,p,hz⟩:=I.tuple hq;obtain⟨u,hu,ru⟩:=rv.get hx;obtain⟨f0,f1,f2,f3,f4,f5⟩:=hf it (by simp);refine wpAny_pyNext_tuple_item st (show s.heap.IsTuple a its.toArray from p) (x:=u) (by simpa using hu) fun h' st' sb=>?_;have I1:Inv X pins σ H { s with heap:=h' }:=I.turned (t':=s.toks) (fun b o hb e=>(sb.2 b hb).trans e) f0 f1 f3 f4 f5;obtain⟨o,e,c,d⟩:=id st';exact⟨u,rfl,AS (s:={ s with heap:=h' }) e c d (by decide) ⟨x,H,I1,ru,⟨rfl,fun ys hy=>by rw[I.tuple_inj hy hq];exact hx⟩,st',fun b hb=>(hf b hb).1⟩⟩
 done:=by
  intro X hP hw hK hc i pins s σ H E I hf st hg;subst hP hw hK;obtain⟨xs,hq,hx⟩:=hg;obtain⟨its,rv,p,hz⟩:=I.tuple hq;obtain⟨f0,f1,f2,f3,f4,f5⟩:=hf it (by simp);have hl:=rv.length;exact wpAny_pyNext_tuple_end (I.ok.hd hc) st (show s.heap.IsTuple a its.toArray from p) (by simp;omega) fun h' eb=>⟨rfl,I.turned (t':=s.toks) (fun b o hb e=>eb b o hb e) f0 f1 f3 f4 f5⟩
 self:=fun _ _ _ _ _ st h=>wpAny_pyIter_tupleiter st h
theorem AU{P:Program}{w:World}{K:Fg}{tg:Expr}(it:Addr)(lo:Int)(n:Nat):pE P w K tg (Itr lo n) [it] it (fun i h=>IsRangeIter h it (lo+(i:Nat)*1) ((n:Int)-(i:Nat)) 1) where
 mem:=by simp
 obj:=fun i h st b hb=>by
  have e:b=it:=by simpa using hb
  subst e;exact⟨_,st,fun v z=>by
   have z':Data.fields _=Data.cell v:=z;cases z'⟩
 keep:=fun i h h' st k=>k it (by simp) _ st
 item:=by
  intro X hP hw hK hc i pins s σ H E I hf st hg;subst hP hw hK;obtain⟨f0,f1,f2,f3,f4,f5⟩:=hf it (by simp);have W:=Walks.range (prog:=X.prog) (w:=X.w) (I.ok.hd hc) it lo 1 n;refine W.item i s _ _ hg st fun v h' tk hv st' kk=>?_;obtain⟨t,rfl⟩:=hv;have I1:Inv X pins σ H { s with heap:=h',toks:=tk }:=I.turned (fun b o hb e=>kk b o (by simpa using hb) e) f0 f1 f3 f4 f5;refine⟨_,rfl,AS (s:={ s with heap:=h',toks:=tk }) (n:="range_iterator") st' rfl rfl (by decide) ⟨.int (lo+i),H,I1,⟨t,?_⟩,⟨rfl,rfl⟩,st',fun b hb=>(hf b hb).1⟩⟩;rw[Int.mul_one]
 done:=by
  intro X hP hw hK hc i pins s σ H E I hf st hg;subst hP hw hK;obtain⟨f0,f1,f2,f3,f4,f5⟩:=hf it (by simp);exact wpAny_pyNext_range_end (I.ok.hd hc) st (by have:n<=i:=hg;omega) fun h' eb=>⟨rfl,I.turned (t':=s.toks) (fun b o hb e=>eb b o hb e) f0 f1 f3 f4 f5⟩
 self:=fun _ _ _ _ _ st h=>wpAny_pyIter_rangeiter st h
end L2
namespace L2
open PySem PySem.Spec PyProof.Rows
section
variable{X:Cx}{tg:Expr}
noncomputable def cX(K:Fg)(tl:TE):TI:=fun σ H R=>tl σ H fun x H1=>∃a,x=.ref a/\(∃xs,SqL K H1 a xs)/\R (Itl K a) H1
noncomputable def xZ(K:Fg)(tl:TE):TI:=fun σ H R=>tl σ H fun x H1=>∃a,x=.ref a/\(∃xs,SqT K H1 a xs)/\R (Itt K a) H1
theorem bU{l:Expr}{tl:TE}(hl:PE X l tl):PI X tg l (cX X.K tl):=by
 intro pins s σ H R I h;refine thn (hl pins s σ H _ I h) fun v s1 ⟨x,H1,I1,r1,q1⟩=>?_;obtain⟨a,e,⟨xs,hq⟩,q⟩:=q1;subst e;cases r1;obtain⟨its,rv,p,hz⟩:=I1.list hq;refine NN p.isList ?_;refine⟨s1.heap.objs.size,[s1.heap.objs.size],_,_,H1,rfl,I1.kept (t':=s1.toks) fun b o e=>Kh _ e,CC a _,⟨_,Kt _ rfl,rfl,rfl⟩,fun b hb=>?_,q⟩;have e:b=s1.heap.objs.size:=by simpa using hb
 subst e;exact I1.fpOk (Km _) (I1.hok.fresh (Km _))
theorem ya{l:Expr}{tl:TE}(hl:PE X l tl):PI X tg l (xZ X.K tl):=by
 intro pins s σ H R I h;refine thn (hl pins s σ H _ I h) fun v s1 ⟨x,H1,I1,r1,q1⟩=>?_;obtain⟨a,e,⟨xs,hq⟩,q⟩:=q1;subst e;cases r1;obtain⟨its,rv,p,hz⟩:=I1.tuple hq;refine RF (show s1.heap.IsTuple a its.toArray from p) ?_;refine⟨s1.heap.objs.size,[s1.heap.objs.size],_,_,H1,rfl,I1.kept (t':=s1.toks) fun b o e=>Kh _ e,AT a _,⟨_,Kt _ rfl,rfl,rfl⟩,fun b hb=>?_,q⟩;have e:b=s1.heap.objs.size:=by simpa using hb
 subst e;exact I1.fpOk (Km _) (I1.hok.fresh (Km _))
theorem El{pins:List (Addr×Obj)}{σ:St}{H:Hp}{s:Shared}{R:It->Hp->Prop}{E:Value->Shared->Prop}{lo hi:Int}{t u v:Tok}{tk:Nat}(I:Inv X pins σ H s)(h1:-(2^62)<=lo)(h2:lo<2^62)(h3:-(2^62)<=hi)(h4:hi<2^62)
  (q:R (Itr lo (hi-lo).toNat) H):wpAny (model X.prog X.w) X.A (pyIter (.ref s.heap.objs.size)) (PIE X pins σ tg R) E { s with heap:=s.heap.push { cls:=.type "range",data:=.fields #[.int lo t,.int hi u,.int 1 v] },toks:=tk }:=by
 refine wpAny_pyIter_range (IsRange.new ..) (small_one h1 h2 h3 h4) ?_;have I1:Inv X pins σ H { s with heap:=s.heap.push { cls:=.type "range",data:=.fields #[.int lo t,.int hi u,.int 1 v] },toks:=tk }:=I.kept fun b o e=>Kh _ e;refine⟨(s.heap.push { cls:=.type "range",data:=.fields #[.int lo t,.int hi u,.int 1 v] }).objs.size,[(s.heap.push { cls:=.type "range",data:=.fields #[.int lo t,.int hi u,.int 1 v] }).objs.size],_,_,H,rfl,
  I1.kept (t':=tk) fun b o e=>Kh _ e,AU _ lo (hi-lo).toNat,?_,fun b hb=>?_,q⟩
 ·have e1:lo+((0:Nat):Int)*1=lo:=by simp
  have e2:(((hi-lo).toNat:Nat):Int)-((0:Nat):Int)=Builtin.Range.rangeSize lo hi 1:=by rw[rangeSize_one];split<;>omega
  show IsRangeIter _ _ (lo+((0:Nat):Int)*1) ((((hi-lo).toNat:Nat):Int)-((0:Nat):Int)) 1;rw[e1,e2];exact Kt _ rfl
 ·have e:b=(s.heap.push { cls:=.type "range",data:=.fields #[.int lo t,.int hi u,.int 1 v] }).objs.size:=by simpa using hb
  subst e;exact I1.fpOk (Km _) (I1.hok.fresh (Km _))
noncomputable def iI(ta:TA):TI:=fun σ H R=>ta σ H fun vs H1=>∃j:Int,vs=[.int j]/\-(2^62)<=j/\j<2^62/\R (Itr 0 j.toNat) H1
theorem dw{a:Expr}{ta:TA}{p pos:Pos}(hg:Gl X "range")(hm:X.mg "range"=none)(ha:PA X [a] ta)(hs:KC [a] X.env=[(false,eval a X.env)]:=by rfl):PI X tg (.Call (.Name "range" p) [a] [] pos) (iI ta):=by
 intro pins s σ H R I h;refine Call_ (ip I hg hm SR (LQ (thn (ha pos pins s σ H _ I h) fun us s1 ⟨vs,H1,I1,r1,q1⟩=>?_) hs rfl));obtain⟨j,e,q1,q2,q⟩:=q1;subst e;cases r1 with
 |cons r rr=>
  cases rr;obtain⟨t,rfl⟩:=r;exact call_range_1 (El I1 (by omega) (by omega) q1 q2 (by simpa using q))
noncomputable def eX(wi:TI)(g:TG)(tb:TS):TS:=fun D σ H=>wi σ H fun J H1=>∃W:Nat->Nat->St->Hp->Prop,(∃m,W 0 m σ H1)/\∀i m σ H,W i m σ H->
 (J.stop i H/\D.nx σ H)\/(J.go i H/\∃N:St->Hp->Prop,(∀σ' H',N σ' H'->∃m',m'<m/\W (i+1) m' σ' H')/\∀x H',J.yld i H x H'->g x σ H' fun σ2 H2=>tb { D with nx:=N,ct:=N,bk:=D.nx } σ2 H2)
noncomputable def nB(fp:List Addr)(h:Heap):List (Addr×Obj):=fp.filterMap fun b=>(h.get? b).map fun o=>(b,o)
theorem gK{fp:List Addr}{h:Heap}{b:Addr}{o:Obj}(hb:b∈fp)(e:h.get? b=some o):(b,o)∈nB fp h:=NA.mpr ⟨b,hb,by rw[e];rfl⟩
theorem CD{fp:List Addr}{h:Heap}{p:Addr×Obj}(hp:p∈nB fp h):p.1∈fp/\h.get? p.1=some p.2:=by
 obtain⟨b,hb,e⟩:=NA.mp hp;cases q:h.get? b with
 |none=>rw[q]at e;cases e
 |some o=>
  rw[q]at e;have e':(b,o)=p:=KA e;subst e';exact⟨hb,q⟩
theorem Inv.pinned{pins:List (Addr×Obj)}{σ:St}{H:Hp}{s:Shared}{fp:List Addr}(I:Inv X pins σ H s)(hf:∀b∈fp,jl X pins H b)(ho:∀b∈fp,∃o,s.heap.get? b=some o/\∀v,o.data≠.cell v):Inv X (pins++nB fp s.heap) σ H s:=
 I.pins_of fun p hp=>(Lf.mp hp).elim (fun z=>I.pin p (K5 _ z)) fun z=>by
  obtain⟨hb,e⟩:=CD z;obtain⟨f0,f1,f2,_⟩:=hf p.1 hb;obtain⟨o,e',d⟩:=ho p.1 hb;rw[e]at e';cases e';exact⟨e,f0,f1,f2,d⟩
theorem Inv.unpinned{pins pl:List (Addr×Obj)}{σ:St}{H:Hp}{s:Shared}(I:Inv X (pins++pl) σ H s):Inv X pins σ H s:=I.pins_of fun p hp=>I.pin p (K5 _ (Ll _ hp))
theorem cy{iter:Expr}{body:List Stmt}{wi:TI}{g:TG}{tb:TS}{pos:Pos}(hp:LB (model X.prog X.w) X.A X.env X.xe)(hc:X.calm=true)(hi:PI X tg iter wi)(hg:PG X tg g)(hb:PSs X body tb)
  (hs:∀x,OB iter X.env x=pure x:=by intro _;rfl):PS X (.For tg iter body [] pos) (eX wi g tb):=by
 intro pins s σ H D I h;refine wpAny_For (thn (hi pins s σ H _ I h) fun v s1 h1=>thn h1 fun itv s2 h2=>?_) hs;obtain⟨it,fp,tn,J,H2,e,I2,T,st2,f2,W,⟨m0,w0⟩,turn⟩:=h2;subst e;have stat:∀{H':Hp},(∀b∈fp,H' b=none)->∀b∈fp,jl X pins H' b:=fun hn b hb=>⟨hn b hb,(f2 b hb).2⟩;refine codeAny_forLoop_any (fun n s'=>∃i σ' H',Inv X pins σ' H' s'/\tn i s'.heap/\(∀b∈fp,H' b=none)/\W i n σ' H') ?_ m0 ⟨0,σ,H2,I2,st2,fun b hb=>(f2 b hb).1,w0⟩;rintro n s3 ⟨i,σ3,H3,I3,st3,fr3,w3⟩;rcases turn i n σ3 H3 w3 with⟨stop,qn⟩|⟨go,N,hN,step⟩
 ·refine MY hp (thn (T.done X rfl rfl rfl hc i pins s3 σ3 H3 X.xe I3 (stat fr3) st3 stop) fun r s4 ⟨hr,I4⟩=>?_)
  subst hr;exact Oc ⟨σ3,H3,I4,qn⟩
 ·refine MY hp (thn (T.item X rfl rfl rfl hc i pins s3 σ3 H3 X.xe I3 (stat fr3) st3 go) fun r s4 ⟨u,hr,h4⟩=>?_)
  subst hr;refine MY hp (thn h4 fun _ s5 ⟨x,H5,I5,r5,y5,st5,fr5⟩=>?_);have I5':=I5.pinned (stat fr5) (T.obj _ _ st5);refine MY hp (thn (hg _ s5 σ3 H5 x u _ I5' r5 (step x H5 y5)) fun _ s6 ⟨σ6,H6,I6,q6⟩=>?_);refine MY hp (thn (hb _ s6 σ6 H6 _ I6 q6) fun f s7 q7=>?_);have again:∀{σ7:St} {H7:Hp},Inv X (pins++nB fp s5.heap) σ7 H7 s7->N σ7 H7->∃m,m<n/\∃i σ' H',Inv X pins σ' H' s7/\tn i s7.heap/\(∀b∈fp,H' b=none)/\W i m σ' H':=fun{σ7 H7} I7 n7=>by
   obtain⟨m',hm,w7⟩:=hN σ7 H7 n7;refine⟨m',hm,i+1,σ7,H7,I7.unpinned,T.keep _ _ _ st5 fun b hb o e=>(I7.pin (b,o) (K5 _ (K5 _ (gK hb e)))).1,fun b hb=>?_,w7⟩;obtain⟨o,e,d⟩:=T.obj _ _ st5 b hb;exact(I7.pin (b,o) (K5 _ (K5 _ (gK hb e)))).2.1
  cases f with
  |next=>obtain⟨σ7,H7,I7,n7⟩:=q7;exact again I7 n7
  |cont=>obtain⟨σ7,H7,I7,n7⟩:=q7;exact again I7 n7
  |brk=>obtain⟨σ7,H7,I7,q7⟩:=q7;exact⟨σ7,H7,I7.unpinned,q7⟩
  |ret v=>obtain⟨x7,σ7,H7,I7,r7,q7⟩:=q7;exact⟨x7,σ7,H7,I7.unpinned,r7,q7⟩
end
theorem rW{K:Fg}{a:Addr}{xs:List V}{g:TG}{tb:TS}{D:jk}{σ:St}{H:Hp}(Pv:Nat->St->Hp->Prop)(h0:Pv 0 σ H)(hl:∀i σ H,i<=xs.length->Pv i σ H->SqL K H a xs)
  (hs:∀i x σ H,xs[i]?=some x->Pv i σ H->g x σ H fun σ2 H2=>tb { D with nx:=Pv (i+1),ct:=Pv (i+1),bk:=D.nx } σ2 H2) (hd:∀σ H,Pv xs.length σ H->D.nx σ H):
  ∃W:Nat->Nat->St->Hp->Prop,(∃m,W 0 m σ H)/\∀i m σ H,W i m σ H->
   ((Itl K a).stop i H/\D.nx σ H)\/((Itl K a).go i H/\∃N:St->Hp->Prop,(∀σ' H',N σ' H'->∃m',m'<m/\W (i+1) m' σ' H')/\∀x H',(Itl K a).yld i H x H'->g x σ H' fun σ2 H2=>tb { D with nx:=N,ct:=N,bk:=D.nx } σ2 H2):=by
 refine⟨fun i m σ H=>m=xs.length-i/\i<=xs.length/\Pv i σ H,⟨xs.length,by simp,Lk _,h0⟩,?_⟩;rintro i m σ H ⟨rfl,hi,p⟩;have q:=hl i σ H hi p;by_cases hlt:i<xs.length
 ·refine .inr ⟨⟨xs,xs[i],q,by simp[hlt]⟩,Pv (i+1),fun σ' H' p'=>⟨xs.length-(i+1),by omega,rfl,hlt,p'⟩,fun x H' y=>?_⟩
  obtain⟨e,y⟩:=y;subst e;exact hs i x σ _ (y xs q) p
 ·have e:i=xs.length:=by omega
  subst e;exact .inl ⟨⟨xs,q,Km _⟩,hd σ H p⟩
theorem Gq{K:Fg}{a:Addr}{xs:List V}{g:TG}{tb:TS}{D:jk}{σ:St}{H:Hp}(Pv:Nat->St->Hp->Prop)(h0:Pv 0 σ H)(hl:∀i σ H,i<=xs.length->Pv i σ H->SqT K H a xs)
  (hs:∀i x σ H,xs[i]?=some x->Pv i σ H->g x σ H fun σ2 H2=>tb { D with nx:=Pv (i+1),ct:=Pv (i+1),bk:=D.nx } σ2 H2) (hd:∀σ H,Pv xs.length σ H->D.nx σ H):
  ∃W:Nat->Nat->St->Hp->Prop,(∃m,W 0 m σ H)/\∀i m σ H,W i m σ H->
   ((Itt K a).stop i H/\D.nx σ H)\/((Itt K a).go i H/\∃N:St->Hp->Prop,(∀σ' H',N σ' H'->∃m',m'<m/\W (i+1) m' σ' H')/\∀x H',(Itt K a).yld i H x H'->g x σ H' fun σ2 H2=>tb { D with nx:=N,ct:=N,bk:=D.nx } σ2 H2):=by
 refine⟨fun i m σ H=>m=xs.length-i/\i<=xs.length/\Pv i σ H,⟨xs.length,by simp,Lk _,h0⟩,?_⟩;rintro i m σ H ⟨rfl,hi,p⟩;have q:=hl i σ H hi p;by_cases hlt:i<xs.length
 ·refine .inr ⟨⟨xs,xs[i],q,by simp[hlt]⟩,Pv (i+1),fun σ' H' p'=>⟨xs.length-(i+1),by omega,rfl,hlt,p'⟩,fun x H' y=>?_⟩
  obtain⟨e,y⟩:=y;subst e;exact hs i x σ _ (y xs q) p
 ·have e:i=xs.length:=by omega
  subst e;exact .inl ⟨⟨xs,q,Km _⟩,hd σ H p⟩
theorem pF{lo:Int}{n:Nat}{g:TG}{tb:TS}{D:jk}{σ:St}{H:Hp}(Pv:Nat->St->Hp->Prop)(h0:Pv 0 σ H)
  (hs:∀i σ H,i<n->Pv i σ H->g (.int (lo+i)) σ H fun σ2 H2=>tb { D with nx:=Pv (i+1),ct:=Pv (i+1),bk:=D.nx } σ2 H2) (hd:∀σ H,Pv n σ H->D.nx σ H):
  ∃W:Nat->Nat->St->Hp->Prop,(∃m,W 0 m σ H)/\∀i m σ H,W i m σ H->
   ((Itr lo n).stop i H/\D.nx σ H)\/((Itr lo n).go i H/\∃N:St->Hp->Prop,(∀σ' H',N σ' H'->∃m',m'<m/\W (i+1) m' σ' H')/\∀x H',(Itr lo n).yld i H x H'->g x σ H' fun σ2 H2=>tb { D with nx:=N,ct:=N,bk:=D.nx } σ2 H2):=by
 refine⟨fun i m σ H=>m=n-i/\i<=n/\Pv i σ H,⟨n,by simp,Lk _,h0⟩,?_⟩;rintro i m σ H ⟨rfl,hi,p⟩;by_cases hlt:i<n
 ·refine .inr ⟨hlt,Pv (i+1),fun σ' H' p'=>⟨n-(i+1),by omega,rfl,hlt,p'⟩,fun x H' y=>?_⟩
  obtain⟨e,y⟩:=y;subst e y;exact hs i σ _ hlt p
 ·have e:i=n:=by omega
  subst e;exact .inl ⟨Km _,hd σ H p⟩
end L2
namespace L2
open PySem PySem.Spec PyProof.Rows
noncomputable abbrev R2:=V->V->Hp->VK->Prop
noncomputable def OpR(X:Cx)(f:Value->Value->Sem Value)(r:R2):Prop:=
 ∀(pins:List (Addr×Obj))(s:Shared)(σ:St)(H:Hp)(x y:V)(v u:Value)(Q:VK),Inv X pins σ H s->aI x v->aI y u->r x y H Q->
  wpAny (model X.prog X.w) X.A (f v u) (EP X pins σ Q) X.xe s
noncomputable def UnR(X:Cx)(f:Value->Sem Value)(r:V->Hp->VK->Prop):Prop:=
 ∀(pins:List (Addr×Obj))(s:Shared)(σ:St)(H:Hp)(x:V)(v:Value)(Q:VK),Inv X pins σ H s->aI x v->r x H Q->
  wpAny (model X.prog X.w) X.A (f v) (EP X pins σ Q) X.xe s
noncomputable def dn(X:Cx)(f:Value)(r:List V->Hp->VK->Prop):Prop:=
 ∀(pins:List (Addr×Obj))(s:Shared)(σ:St)(H:Hp)(xs:List V)(us:List Value)(Q:VK),Inv X pins σ H s->aG xs us->r xs H Q->
  wpAny (model X.prog X.w) X.A (call f us) (EP X pins σ Q) X.xe s
noncomputable def tOp(r:R2)(ta tb:TE):TE:=fun σ H Q=>ta σ H fun x H1=>tb σ H1 fun y H2=>r x y H2 Q
noncomputable def tUn(r:V->Hp->VK->Prop)(ta:TE):TE:=fun σ H Q=>ta σ H fun x H1=>r x H1 Q
noncomputable def rI(C:Int->Int->Prop)(g:Int->Int->V):R2:=fun x y H Q=>∃i j,x=.int i/\y=.int j/\C i j/\Q (g i j) H
noncomputable def rI0(g:Int->Int->V):R2:=fun x y H Q=>∃i j,x=.int i/\y=.int j/\Q (g i j) H
noncomputable def rU(g:Int->V):V->Hp->VK->Prop:=fun x H Q=>∃i,x=.int i/\Q (g i) H
section
variable{X:Cx}{a b c:Expr}{ta tb tc:TE}{pos:Pos}
theorem Em(ha:PE X a ta)(hb:PE X b tb){pins:List (Addr×Obj)}{s:Shared}{σ:St}{H:Hp}{R:V->V->Hp->Prop}(I:Inv X pins σ H s)
  (h:ta σ H fun x H1=>tb σ H1 fun y H2=>R x y H2) {Q:Value->Shared->Prop} {f:Value->Value->Sem Value}
  (hf:∀v u s2 x y H2,Inv X pins σ H2 s2->aI x v->aI y u->R x y H2->wpAny (model X.prog X.w) X.A (f v u) Q X.xe s2):
  wpAny (model X.prog X.w) X.A (eval a X.env) (fun v s₁=>wpAny (model X.prog X.w) X.A (eval b X.env) (fun u s₂=>wpAny (model X.prog X.w) X.A (f v u) Q X.xe s₂) X.xe s₁) X.xe s:=by
 refine thn (ha pins s σ H _ I h) fun v s1 ⟨x,H1,I1,r1,q1⟩=>?_;refine thn (hb pins s1 σ H1 _ I1 q1) fun u s2 ⟨y,H2,I2,r2,q2⟩=>?_;exact hf v u s2 x y H2 I2 r1 r2 q2
theorem au{op:Operator}{r:R2}(ho:OpR X (MR op) r)(ha:PE X a ta)(hb:PE X b tb):PE X (.BinOp a op b pos) (tOp r ta tb):=by
 intro pins s σ H Q I h;exact wpAny_BinOp (Em ha hb I h fun v u s2 x y H2 I2 rx ry q=>ho pins s2 σ H2 x y v u Q I2 rx ry q)
theorem tw{op:UnaryOp}{r:V->Hp->VK->Prop}(ho:UnR X (unaryOp op) r)(ha:PE X a ta):PE X (.UnaryOp op a pos) (tUn r ta):=by
 intro pins s σ H Q I h;exact UnaryOp_ (thn (ha pins s σ H _ I h) fun v s1 ⟨x,H1,I1,r1,q1⟩=>ho pins s1 σ H1 x v Q I1 r1 q1)
theorem opI{f:Value->Value->Sem Value}{C:Int->Int->Prop}{g:Int->Int->Int}
  (rule:∀(i j:Int)(t u:Tok)(s:Shared)(Q:Value->Shared->Prop)(E:Value->Shared->Prop),C i j->Q (.int (g i j) s.toks) { s with toks:=s.toks+1 }->wpAny (model X.prog X.w) X.A (f (.int i t) (.int j u)) Q E s):
  OpR X f (rI C fun i j=>.int (g i j)):=by
 intro pins s σ H x y v u Q I rx ry h;obtain⟨i,j,rfl,rfl,hc,q⟩:=h;obtain⟨t,rfl⟩:=rx;obtain⟨t',rfl⟩:=ry;exact rule i j t t' s _ _ hc ⟨.int (g i j),H,I.tok _,⟨_,rfl⟩,q⟩
theorem Ih{f:Value->Value->Sem Value}{g:Int->Int->Int}
  (rule:∀(i j:Int)(t u:Tok)(s:Shared)(Q:Value->Shared->Prop)(E:Value->Shared->Prop),Q (.int (g i j) s.toks) { s with toks:=s.toks+1 }->wpAny (model X.prog X.w) X.A (f (.int i t) (.int j u)) Q E s):
  OpR X f (rI0 fun i j=>.int (g i j)):=by
 intro pins s σ H x y v u Q I rx ry h;obtain⟨i,j,rfl,rfl,q⟩:=h;obtain⟨t,rfl⟩:=rx;obtain⟨t',rfl⟩:=ry;exact rule i j t t' s _ _ ⟨.int (g i j),H,I.tok _,⟨_,rfl⟩,q⟩
theorem En{f:Value->Value->Sem Value}{g:Int->Int->Bool}
  (rule:∀(i j:Int)(t u:Tok)(s:Shared)(Q:Value->Shared->Prop)(E:Value->Shared->Prop),Q (.bool (g i j)) s->wpAny (model X.prog X.w) X.A (f (.int i t) (.int j u)) Q E s):
  OpR X f (rI0 fun i j=>.bl (g i j)):=by
 intro pins s σ H x y v u Q I rx ry h;obtain⟨i,j,rfl,rfl,q⟩:=h;obtain⟨t,rfl⟩:=rx;obtain⟨t',rfl⟩:=ry;exact rule i j t t' s _ _ ⟨.bl (g i j),H,I,rfl,q⟩
noncomputable def kX(i j:Int):Prop:=0<j/\j<1073741824
noncomputable def AV(i j:Int):Prop:=0<=j/\j<=1000000/\i.natAbs<2^64
noncomputable def Ii(i j:Int):Prop:=(-(2^64)<i/\i<2^64)\/(-(2^64)<j/\j<2^64)
theorem Ii.ok{i j:Int}(h:Ii i j):NJ i j:=by
 rcases h with⟨h1,h2⟩|⟨h1,h2⟩
 ·exact .of_left (PH h1 h2)
 ·exact .of_right (PH h1 h2)
theorem bG:OpR X (MR .Add) (rI0 fun i j=>.int (i+j)):=Ih fun _ _ _ _ _ _ _ q=>add_int q
theorem dE:OpR X (MR .Sub) (rI0 fun i j=>.int (i-j)):=Ih fun _ _ _ _ _ _ _ q=>sub_int q
theorem fm:OpR X (MR .FloorDiv) (rI kX fun i j=>.int (i/j)):=opI fun i j _ _ _ _ _ hc q=>by
 have h1:(0:Int)<j:=hc.1;have h2:j<1073741824:=hc.2;exact floordiv_int (by omega) (by rw[Int.fdiv_eq_ediv_of_nonneg i (by omega)];exact q) (.inl (PyProof.noPylong_small (by omega)))
theorem bX:OpR X (MR .Mod) (rI (fun _ j=>0<j) fun i j=>.int (i%j)):=opI fun i j _ _ _ _ _ hc q=>by
 have h1:(0:Int)<j:=hc;exact mod_int' (by omega) (by rw[Int.fmod_eq_emod_of_nonneg i (by omega)];exact q)
theorem yb:OpR X (MR .Pow) (rI AV fun i j=>.int (i^j.toNat)):=opI fun _ _ _ _ _ _ _ hc q=>pow_int_small hc.1 hc.2.1 hc.2.2 q
theorem unI{f:Value->Sem Value}{g:Int->Int}
  (rule:∀(i:Int)(t:Tok)(s:Shared)(Q:Value->Shared->Prop)(E:Value->Shared->Prop),Q (.int (g i) s.toks) { s with toks:=s.toks+1 }->wpAny (model X.prog X.w) X.A (f (.int i t)) Q E s):
  UnR X f (rU fun i=>.int (g i)):=by
 intro pins s σ H x v Q I rx h;obtain⟨i,rfl,q⟩:=h;obtain⟨t,rfl⟩:=rx;exact rule i t s _ _ ⟨.int (g i),H,I.tok _,⟨_,rfl⟩,q⟩
theorem pG:UnR X (unaryOp .USub) (rU fun i=>.int (-i)):=unI fun _ _ _ _ _ q=>neg_int q
end
noncomputable def Ij:V->V->Bool
 | .non,.non=>true | .non,.int _=>true | .int _,.non=>true | .non,.bl _=>true | .bl _,.non=>true | .non,.str _=>true | .str _,.non=>true
 | .int _,.int _=>true | .bl _,.bl _=>true | .str _,.str _=>true | .byt _,.byt _=>true
 | .int _,.str _=>true | .str _,.int _=>true | .bl _,.str _=>true | .str _,.bl _=>true
 |_,_=>false
noncomputable def rEq:R2:=fun x y H Q=>Ij x y=true/\Q (.bl (decide (x=y))) H
noncomputable def rNe:R2:=fun x y H Q=>Ij x y=true/\Q (.bl (!decide (x=y))) H
theorem Aj{i j:Int}:decide (V.int i=V.int j)=(i==j):=by
 rw[O1];simp
theorem CG{i j:Bool}:decide (V.bl i=V.bl j)=(i==j):=by
 rw[O1];simp
theorem Ak{i j:Str}:decide (V.str i=V.str j)=(i==j):=by
 rw[O1];simp
theorem Al{i j:Array UInt8}:decide (V.byt i=V.byt j)=(i.toList==j.toList):=by
 rw[O1];cases i;cases j;simp
section
variable{X:Cx}{a b c:Expr}{ta tb tc:TE}{pos:Pos}
theorem bA{pins:List (Addr×Obj)}{σ:St}{H:Hp}{s:Shared}{Q:VK}{k k':Bool}(I:Inv X pins σ H s)(q:Q (.bl k) H)(e:k=k'):EP X pins σ Q (.bool k') s:=by
 subst e;exact⟨.bl k,H,I,rfl,q⟩
theorem cn:OpR X (MD .Eq) rEq:=by
 intro pins s σ H x y v u Q I rx ry h;obtain⟨hs,q⟩:=h;cases x with
 |non=>
  cases rx;cases y with
  |non=>cases ry;exact PySem.EqNone.eq_none_none (bA I q (by simp))
  |bl j=>cases ry;exact PySem.EqNone.eq_none_bool (bA I q (by simp))
  |int j=>obtain⟨t',rfl⟩:=ry;exact PySem.EqNone.eq_none_int (bA I q (by simp))
  |str j=>obtain⟨t',rfl⟩:=ry;exact PySem.EqNone.eq_none_str (bA I q (by simp))
  |_=>exact absurd (show false=true from hs) Kv
 |bl i=>
  cases rx;cases y with
  |non=>cases ry;exact PySem.EqNone.eq_bool_none (bA I q (by simp))
  |bl j=>cases ry;exact eq_bool (bA I q CG)
  |str j=>obtain⟨t',rfl⟩:=ry;exact PySem.EqMixed.eq_bool_str (bA I q (by simp))
  |_=>exact absurd (show false=true from hs) Kv
 |int i=>
  obtain⟨t,rfl⟩:=rx;cases y with
  |non=>cases ry;exact PySem.EqNone.eq_int_none (bA I q (by simp))
  |int j=>obtain⟨t',rfl⟩:=ry;exact eq_int (bA I q Aj)
  |str j=>obtain⟨t',rfl⟩:=ry;exact PySem.EqMixed.eq_int_str (bA I q (by simp))
  |_=>exact absurd (show false=true from hs) Kv
 |str i=>
  obtain⟨t,rfl⟩:=rx;cases y with
  |non=>cases ry;exact PySem.EqNone.eq_str_none (bA I q (by simp))
  |bl j=>cases ry;exact PySem.EqMixed.eq_str_bool (bA I q (by simp))
  |int j=>obtain⟨t',rfl⟩:=ry;exact PySem.EqMixed.eq_str_int (bA I q (by simp))
  |str j=>obtain⟨t',rfl⟩:=ry;exact eq_str (bA I q Ak)
  |_=>exact absurd (show false=true from hs) Kv
 |byt i=>
  obtain⟨t,rfl⟩:=rx;cases y with
  |byt j=>obtain⟨t',rfl⟩:=ry;exact PySem.W.eq_bytes (bA I q Al)
  |_=>exact absurd (show false=true from hs) Kv
 |_=>cases y<;>exact absurd (show false=true from hs) Kv
theorem FX:OpR X (MD .NotEq) rNe:=by
 intro pins s σ H x y v u Q I rx ry h;obtain⟨hs,q⟩:=h;cases x with
 |non=>
  cases rx;cases y with
  |non=>cases ry;exact PySem.EqNone.ne_none_none (bA I q (by simp))
  |bl j=>cases ry;exact PySem.EqNone.ne_none_bool (bA I q (by simp))
  |int j=>obtain⟨t',rfl⟩:=ry;exact PySem.EqNone.ne_none_int (bA I q (by simp))
  |str j=>obtain⟨t',rfl⟩:=ry;exact PySem.EqNone.ne_none_str (bA I q (by simp))
  |_=>exact absurd (show false=true from hs) Kv
 |bl i=>
  cases rx;cases y with
  |non=>cases ry;exact PySem.EqNone.ne_bool_none (bA I q (by simp))
  |bl j=>cases ry;exact ne_bool (bA I q (congrArg not CG))
  |str j=>obtain⟨t',rfl⟩:=ry;exact PySem.EqMixed.ne_bool_str (bA I q (by simp))
  |_=>exact absurd (show false=true from hs) Kv
 |int i=>
  obtain⟨t,rfl⟩:=rx;cases y with
  |non=>cases ry;exact PySem.EqNone.ne_int_none (bA I q (by simp))
  |int j=>obtain⟨t',rfl⟩:=ry;exact ne_int (bA I q (congrArg not Aj))
  |str j=>obtain⟨t',rfl⟩:=ry;exact PySem.EqMixed.ne_int_str (bA I q (by simp))
  |_=>exact absurd (show false=true from hs) Kv
 |str i=>
  obtain⟨t,rfl⟩:=rx;cases y with
  |non=>cases ry;exact PySem.EqNone.ne_str_none (bA I q (by simp))
  |bl j=>cases ry;exact PySem.EqMixed.ne_str_bool (bA I q (by simp))
  |int j=>obtain⟨t',rfl⟩:=ry;exact PySem.EqMixed.ne_str_int (bA I q (by simp))
  |str j=>obtain⟨t',rfl⟩:=ry;exact ne_str (bA I q (congrArg not Ak))
  |_=>exact absurd (show false=true from hs) Kv
 |byt i=>
  obtain⟨t,rfl⟩:=rx;cases y with
  |byt j=>obtain⟨t',rfl⟩:=ry;exact PySem.W.ne_bytes (bA I q (congrArg not Al))
  |_=>exact absurd (show false=true from hs) Kv
 |_=>cases y<;>exact absurd (show false=true from hs) Kv
theorem FY:OpR X (MD .Lt) (rI0 fun i j=>.bl (decide (i<j))):=En fun _ _ _ _ _ _ _ q=>lt_int q
theorem AW:OpR X (MD .LtE) (rI0 fun i j=>.bl (decide (i<=j))):=En fun _ _ _ _ _ _ _ q=>le_int q
theorem qy:OpR X (MD .Gt) (rI0 fun i j=>.bl (decide (j<i))):=En fun _ _ _ _ _ _ _ q=>gt_int q
theorem ba(b:Expr){op:CmpOp}(h:op≠.In:=by decide)(h2:op≠.NotIn:=by decide):PJ op b=false:=by
 have e1:(op==CmpOp.In)=false:=by cases op<;>first|rfl|exact absurd rfl h
 have e2:(op==CmpOp.NotIn)=false:=by cases op<;>first|rfl|exact absurd rfl h2
 cases b<;>simp[PJ,e1,e2]
theorem jP{op:CmpOp}{r:R2}(ho:OpR X (MD op) r)(ha:PE X a ta)(hb:PE X b tb)(hm:PJ op b=false):PE X (.Compare a [op] [b] pos) (tOp r ta tb):=by
 intro pins s σ H Q I h;exact wpAny_Compare1 (Em ha hb I h fun v u s2 x y H2 I2 rx ry q=>ho pins s2 σ H2 x y v u Q I2 rx ry q) hm
noncomputable def br(t:TE):TT:=fun σ H Q=>t σ H fun x H'=>∃k,x=.bl k/\Q k H'
theorem aW{op:CmpOp}{r:R2}(ho:OpR X (MD op) r)(ha:PE X a ta)(hb:PE X b tb)(hm:PJ op b=false):PT X (.Compare a [op] [b] pos) (br (tOp r ta tb)):=by
 intro pins s σ H Q I h;refine wpAny_isTrue_Compare1 (thn (ha pins s σ H _ I h) fun v s1 ⟨x,H1,I1,r1,q1⟩=>thn (hb pins s1 σ H1 _ I1 q1) fun u s2 ⟨y,H2,I2,r2,q2⟩=>
  thn (ho pins s2 σ H2 x y v u _ I2 r1 r2 q2) fun c s3 ⟨z,H3,I3,r3,k,e,q3⟩=>?_) hm
 subst e;cases r3;exact Mu ⟨H3,I3,q3⟩
noncomputable def CH(r r':R2)(ta tb tc:TE):TE:=fun σ H Q=>ta σ H fun x H1=>tb σ H1 fun y H2=>r x y H2 fun z H3=>∃k,z=.bl k/\
 (if k=true then tc σ H3 fun w' H4=>r' y w' H4 Q else Q (.bl false) H3)
theorem Eo{op op':CmpOp}{r r':R2}(ho:OpR X (MD op) r)(ho':OpR X (MD op') r')(ha:PE X a ta)(hb:PE X b tb)(hc:PE X c tc)
  (hm:lastMarks [op,op'] [b,c]=false:=by with_unfolding_all rfl):PE X (.Compare a [op,op'] [b,c] pos) (CH r r' ta tb tc):=by
 intro pins s σ H Q I h;refine Compare_chain (thn (ha pins s σ H _ I h) fun v s1 ⟨x,H1,I1,r1,q1⟩=>chain_link (thn (hb pins s1 σ H1 _ I1 q1) fun u s2 ⟨y,H2,I2,r2,q2⟩=>
  thn (ho pins s2 σ H2 x y v u _ I2 r1 r2 q2) fun d s3 ⟨z,H3,I3,r3,k,e,q3⟩=>?_)) hm
 subst e;cases r3;refine Mu ?_;cases k with
 |false=>exact ite_ff ⟨.bl false,H3,I3,rfl,q3⟩
 |true=>exact ite_tt (chain_last (thn (hc pins s3 σ H3 _ I3 q3) fun w' s4 ⟨z',H4,I4,r4,q4⟩=>ho' pins s4 σ H4 y z' u w' Q I4 r2 r4 q4))
theorem tz:(Kw:Nat)<2^63:=by rw[Kl];decide
theorem tE{x:V}{us:List Value}(r:aG [x] us):∃u,us=[u]/\aI x u:=by
 cases r with
 |cons r1 r2=>cases r2;exact⟨_,rfl,r1⟩
theorem FZ{x y:V}{us:List Value}(r:aG [x,y] us):∃u w',us=[u,w']/\aI x u/\aI y w':=by
 cases r with
 |cons r1 r2=>
  cases r2 with
  |cons r3 r4=>cases r4;exact⟨_,_,rfl,r1,r3⟩
theorem CI(hc:X.calm=true):dn X (.builtin "max") (fun xs H Q=>∃i j,xs=[.int i,.int j]/\Q (.int (if j>i then j else i)) H):=by
 intro pins s σ H xs us Q I r h;obtain⟨i,j,rfl,q⟩:=h;obtain⟨u,w',rfl,⟨t,rfl⟩,⟨t',rfl⟩⟩:=FZ r;refine max_two_ints (I.ok.hd hc) fun h' tk k=>⟨_,H,I.kept k,?_,q⟩;by_cases hj:j>i
 ·rw[if_pos hj,if_pos hj];exact⟨_,rfl⟩
 ·rw[if_neg hj,if_neg hj];exact⟨_,rfl⟩
theorem wp(hc:X.calm=true):dn X (.builtin "min") (fun xs H Q=>∃i j,xs=[.int i,.int j]/\Q (.int (if j<i then j else i)) H):=by
 intro pins s σ H xs us Q I r h;obtain⟨i,j,rfl,q⟩:=h;obtain⟨u,w',rfl,⟨t,rfl⟩,⟨t',rfl⟩⟩:=FZ r;refine min_two_ints (I.ok.hd hc) fun h' tk k=>⟨_,H,I.kept k,?_,q⟩;by_cases hj:j<i
 ·rw[if_pos hj,if_pos hj];exact⟨_,rfl⟩
 ·rw[if_neg hj,if_neg hj];exact⟨_,rfl⟩
end
end L2
namespace L2
open PySem PySem.Spec PyProof.Rows
structure rX(h:Heap)(x dx C:Addr)(mA:Str->Option Value):Prop where
 obj:h.get? x=some (MH C dx)
 ns:h.Ns1 dx mA
 ne:dx≠x
theorem CJ{h:Heap}{dx:Addr}{mA:Str->Option Value}(n:h.Ns1 dx mA):∃od,h.get? dx=some od/\∀name,Pi name od=some (mA name):=by
 obtain⟨o,es,ep,ho,hd,hk,_,hm⟩:=n;refine⟨o,ho,fun name=>?_⟩;have e:=hm name;unfold nsFind findBy at e;rw[<-Array.find?_toList]at e;unfold Pi;rw[hd];dsimp only
 split
 ·rename_i y q
  rw[q]at e;exact congrArg some e
 ·rename_i q
  rw[q]at e;have a:es.toList.any (·.refKey)=false:=by
   rw[R4];intro y hy;obtain⟨z,t,hkey⟩:=hk y (Array.mem_toList_iff.mp hy);simp[RG.refKey,hkey]
  have a':¬es.toList.any (·.refKey)=true:=by rw[a];exact Kv
  rw[if_neg a'];exact congrArg some e
theorem rX.look{h:Heap}{x dx C:Addr}{mA:Str->Option Value}(I:rX h x dx C mA):∃od,PySem.W.InstAt h x (MH C dx) C (some od)/\∀name,Pi name od=some (mA name):=
 let⟨od,ho,hl⟩:=CJ I.ns
 ⟨od,⟨I.obj,rfl,rfl,ho⟩,hl⟩
section
variable{prog:Program}{w:World}{A:Around}{E:Value->Shared->Prop}{s:Shared}{K:Fg}{x dx C f:Addr}{mA:Str->Option Value}{name:Str}{v:Value}
theorem Gr{expr:Bool}{Q:Value->Shared->Prop}(X:K.In s.heap)(I:rX s.heap x dx C mA)(hg:OP K C name=true)(hh:PU K C=true)
  (ha:Mr K (.ref C) name=some none) (hv:mA name=some v) (hv':Sz v=true) (h:Q v { s with toks:=s.toks+1 }):
  wpAny (model prog w) A (getAttr (.ref x) name expr) Q E s:=by
 obtain⟨od,J,hl⟩:=I.look;exact PySem.W.get_value X J (Pg hg).1 (PySem.W.findObj_own hh ha rfl (by rw[hl,hv])) hv' h
theorem Ep{pl:Sem Bool}{Q:Value×List Value->Shared->Prop}(X:K.In s.heap)(I:rX s.heap x dx C mA)(hg:OP K C name=true)
  (hf:Mr K (.ref C) name=some (some (.ref f))) (ht:RH K (.ref f)=true) (hv:mA name=none) (h:Q (.ref f,[.ref x]) s):
  wpAny (model prog w) A (QA (.ref x) name pl) Q E s:=by
 obtain⟨od,J,hl⟩:=I.look;exact PySem.W.method_fn X J (Pg hg).1 (Pg hg).2 hf (beq_iff_eq.mp ht) (by show(Pi name od).map (·.isSome)=some false;rw[hl,hv];rfl) h
theorem Gs{ns:List Str}{Q:Unit->Shared->Prop}(X:K.In s.heap)(I:rX s.heap x dx C mA)
  (hs:Mr K (.ref C) "__setattr__"=some (some (.builtin "object.__setattr__"))) (hp:R5 K C=true) (ht:QB K C name=some none) (hh:PU K C=true)
  (hw:Qb mA ns) (hsz:ns.length<=Kw)
  (h:∀h',rX h' x dx C (fun y=>if y=name then some v else mA y)->KJ dx s.heap h'->Q () { s with heap:=h',toks:=s.toks+2 }):
  wpAny (model prog w) A (setAttr (.ref x) name v) Q E s:=by
 obtain⟨od,J,hl⟩:=I.look;refine PySem.W.set_plain X J hs (PySem.W.osa_open (s:={ s with toks:=s.toks+1 }) (r:=none) X J hp ht fun b=>?_);obtain⟨cd,hc,hd'⟩:=PySem.W.any_some hh;have hx:s.heap.get? x=some ⟨.ref C,some dx,.plain,#[]⟩:=I.obj;refine Kg (Ki (Kg (Kg (wpAny_loadPart hx (Kg (Rn.here (s:={ s with toks:=s.toks+1 }) (PySem.W.looks_clsIn X hc) ?_))))));rw[hd'];refine Ki (a:=some dx) (Kg (Ki (Kg ?_)));refine wpAny_nsSet1 (s:={ s with toks:=s.toks+1 }) I.ns fun h' hn2 hs2=>?_;obtain⟨oD,esD,epD,hoD,hdD,hcD⟩:=hn2.count (Qb.cons name v hw);refine Kg (wpAny_lookBehind hoD (by rw[hdD];exact pastItsLine_dict (K4 hcD (by rw[KQ];omega))) ?_);exact Ki (h _ ⟨(hs2.2 _ (LK I.ne)).trans I.obj,hn2,I.ne⟩ hs2)
theorem Er{R:Result->Shared->Prop}{vs:List Value}{kw:List (Str×Value)}(X:K.In s.heap)(hm:SS K C=true)
  (hi:Mr K (.ref C) "__init__"=some (some (.ref f))) (hf:PySem.W.typeIn K (.ref f)=some (.type "function"))
  (h:codeAny (model prog w) (A.under (.builtin "type.__call__" ⟨.ref C::vs,kw⟩)) (.call (.ref f) ⟨.ref (s.heap.objs.size+1)::vs,kw⟩) (PySem.W.InitBack (s.heap.objs.size+1) R)
   { s with heap:=(s.heap.push Mf).push (MH C s.heap.objs.size) }):
  codeAny (model prog w) A (.call (.ref C) ⟨vs,kw⟩) R s:=by
 obtain⟨hh,g,d,t,os⟩:=s;exact PySem.W.make_core (PySem.W.makes_of X hm) (PySem.W.looks_findIn X hi) (fun self=>PySem.W.bind_fn X self hf) (.inl rfl) h
end
noncomputable def gp(f:Str)(v:V):List (Str×V)->List (Str×V)
 | []=>[(f,v)]
 | (g,x)::r=>if g=f then(g,v)::r else(g,x)::gp f v r
theorem rC(f g:Str)(v:V):∀fs:List (Str×V),(gp f v fs).lookup g=if g=f then some v else fs.lookup g
 | []=>by
  show NK g [(f,v)]=_;by_cases h:g=f
  ·have hb:(g==f)=true:=beq_iff_eq.mpr h
   simp only[NK,hb,if_pos h]
  ·have hb:(g==f)=false:=beq_eq_false_iff_ne.mpr h
   simp only[NK,hb,if_neg h]
 | (k,x)::r=>by
  have ih:=rC f g v r;rw[show gp f v ((k,x)::r)=(if k=f then(k,v)::r else(k,x)::gp f v r)from rfl];by_cases hk:k=f
  ·rw[if_pos hk]
   by_cases h:g=k
   ·have hb:(g==k)=true:=beq_iff_eq.mpr h
    simp only[NK,hb,if_pos (h.trans hk)]
   ·have hb:(g==k)=false:=beq_eq_false_iff_ne.mpr h
    simp only[NK,hb,if_neg (fun e:g=f=>h (e.trans hk.symm))]
  ·rw[if_neg hk]
   by_cases h:g=k
   ·have hb:(g==k)=true:=beq_iff_eq.mpr h
    simp only[NK,hb,if_neg (fun e:g=f=>hk (h.symm.trans e))]
   ·have hb:(g==k)=false:=beq_eq_false_iff_ne.mpr h
    simp only[NK,hb];exact ih
theorem pH(f:Str)(v:V):∀fs:List (Str×V),f∈(gp f v fs).map (·.1)/\∀g,g∈fs.map (·.1)->g∈(gp f v fs).map (·.1)
 | []=>⟨by simp[gp],fun g h=>by simp at h⟩
 | (k,x)::r=>by
  obtain⟨i1,i2⟩:=pH f v r;rw[show gp f v ((k,x)::r)=(if k=f then(k,v)::r else(k,x)::gp f v r)from rfl];by_cases hk:k=f
  ·rw[if_pos hk]
   subst hk;exact⟨by simp,fun g h=>by simpa using h⟩
  ·rw[if_neg hk]
   refine⟨?_,fun g h=>?_⟩
   ·rw[KL]
    exact Ku _ i1
   ·rw[KL]at h ⊢
    rcases Kq.mp h with e|e
    ·exact Kq.mpr (.inl e)
    ·exact Ku _ (i2 g e)
theorem rD(f:Str)(v:V):∀fs:List (Str×V),(gp f v fs).length<=fs.length+1
 | []=>by simp[gp]
 | (k,x)::r=>by
  have ih:=rD f v r;rw[show gp f v ((k,x)::r)=(if k=f then(k,v)::r else(k,x)::gp f v r)from rfl];by_cases hk:k=f
  ·rw[if_pos hk,KQ,KQ];omega
  ·rw[if_neg hk,KQ,KQ];omega
theorem fX.some_of{v:V}{o:Option Value}(r:fX (some v) o):∃u,o=some u/\aI v u:=by
 cases o with
 |none=>exact(show False from r).elim
 |some u=>exact⟨u,rfl,r⟩
theorem fX.none_of{o:Option Value}(r:fX none o):o=none:=by
 cases o with
 |none=>rfl
 |some u=>exact(show False from r).elim
theorem CK{v:V}{u:Value}(r:aI v u):Sz u=true:=by
 cases v with
 |non=>cases (show u=LL from r);rfl
 |bl b=>cases (show u=L5 b from r);rfl
 |int i=>obtain⟨t,e⟩:=(show∃t,u=Nf i t from r);cases e;rfl
 |str x=>obtain⟨t,e⟩:=(show∃t,u=Qy x t from r);cases e;rfl
 |byt b=>obtain⟨t,e⟩:=(show∃t,u=Value.bytes b t from r);cases e;rfl
 |flt b=>obtain⟨t,e⟩:=(show∃t,u=Sl b t from r);cases e;rfl
 |ref a=>cases (show u=KY a from r);rfl
 |ty n=>cases (show u=LF n from r);rfl
section
variable{P:Program}{w:World}{H H':Hp}{h h':Heap}{a C dx:Addr}{fs fs':List (Str×V)}
theorem qz(hok:HOk P w H h)(e:H a=some (.ins C dx fs)):∃mA,rX h a dx C mA/\(∀f,fX (fs.lookup f) (mA f))/\Qb mA (fs.map (·.1))/\fs.length<=1000/\H dx=some (.own a):=by
 obtain⟨d,z,ne,ob,mA,n,r,q⟩:=(show bE P w H h a (.ins C dx fs)from hok a _ e);exact⟨mA,⟨ob,n,ne⟩,r,q,z,d⟩
end
structure Cls(K:Fg)(C:Addr):Prop where
 pg:OP K C Ti=true
 hd:PU K C=true
 po:R5 K C=true
 sa:Mr K (.ref C) "__setattr__"=some (some (.builtin "object.__setattr__"))
theorem Cls.get{K:Fg}{C:Addr}(c:Cls K C)(f:Str):OP K C f=true:=c.pg
noncomputable def d9(K:Fg)(C:Addr)(f:Str):Prop:=Mr K (.ref C) f=some none
theorem d9.taker{K:Fg}{C:Addr}{f:Str}(n:d9 K C f):QB K C f=some none:=by
 unfold QB;rw[show Mr K (.ref C) f=some none from n];rfl
structure yc(K:Fg)(C:Addr)(m:Str)(f:Addr):Prop where
 at_:Mr K (.ref C) m=some (some (.ref f))
 fn:RH K (.ref f)=true
 kp:NS K (.ref f)=true
section
variable{X:Cx}{pins:List (Addr×Obj)}{σ:St}{H:Hp}{s:Shared}{a C dx:Addr}{fs:List (Str×V)}{f:Str}{v:V}{A:Around}{E:Value->Shared->Prop}
theorem AX{b:Bool}{Q:Value->Shared->Prop}(I:Inv X pins σ H s)(e:H a=some (.ins C dx fs))(c:Cls X.K C)(n:d9 X.K C f)(l:fs.lookup f=some v)
  (h:∀u s',Inv X pins σ H s'->aI v u->Q u s'):wpAny (model X.prog X.w) A (getAttr (.ref a) f b) Q E s:=by
 obtain⟨mA,O,r,_,_,_⟩:=qz I.hok e;obtain⟨u,hu,ru⟩:=fX.some_of (v:=v) (o:=mA f) (by rw[<-l];exact r f);exact Gr I.kIn O (c.get f) c.hd n hu (CK ru) (h u _ (I.tok _) ru)
theorem AY{m:Str}{g:Addr}{pl:Sem Bool}{Q:Value×List Value->Shared->Prop}(I:Inv X pins σ H s)(e:H a=some (.ins C dx fs))(c:Cls X.K C)(k:yc X.K C m g)(l:fs.lookup m=none)
  (h:Q (.ref g,[.ref a]) s):wpAny (model X.prog X.w) A (QA (.ref a) m pl) Q E s:=by
 obtain⟨mA,O,r,_,_,_⟩:=qz I.hok e;have hn:mA m=none:=fX.none_of (by rw[<-l];exact r m);exact Ep I.kIn O (c.get m) k.at_ k.fn hn h
theorem AZ{y:V}{u:Value}{Q:Unit->Shared->Prop}(I:Inv X pins σ H s)(e:H a=some (.ins C dx fs))(c:Cls X.K C)(n:d9 X.K C f)(hl:fs.length<1000)(ry:aI y u)
  (h:∀s',Inv X pins σ (upd H a (.ins C dx (gp f y fs))) s'->Q () s'):wpAny (model X.prog X.w) A (setAttr (.ref a) f u) Q E s:=by
 obtain⟨mA,O,r,wi,_,ho⟩:=qz I.hok e;have hz:(fs.map (·.1)).length<=Kw:=by rw[Kk,Kl];omega
 refine Gs I.kIn O c.sa c.po n.taker c.hd wi hz fun h' O' sb=>h _ ?_;have hd:∃o,h'.get? dx=some o:=let⟨o,_,_,e',_⟩:=O'.ns;⟨o,e'⟩;refine I.write (x:=a) (e:=dx) (by rw[e];exact MT) (.inr ho) (fun b q hb z=>(sb.2 b hb).trans z) hd ?_;refine⟨by rw[aM O.ne];exact ho,?_,O.ne,O'.obj,_,O'.ns,fun g=>?_,fun g hg=>?_⟩
 ·have:=rD f y fs;omega
 ·show fX ((gp f y fs).lookup g) (if g=f then some u else mA g)
  rw[rC];by_cases q:g=f
  ·rw[if_pos q,if_pos q];exact ry
  ·rw[if_neg q,if_neg q];exact r g
 ·by_cases q:g=f
  ·rw[q];exact(pH f y fs).1
  ·refine(pH f y fs).2 g (wi g fun z=>hg ?_)
   show(if g=f then some u else mA g)=none;rw[if_neg q];exact z
theorem Inv.made(I:Inv X pins σ H s):Inv X pins σ (upd (upd H s.heap.objs.size (.own (s.heap.objs.size+1))) (s.heap.objs.size+1) (.ins C s.heap.objs.size []))
  { s with heap:=(s.heap.push Mf).push (MH C s.heap.objs.size) }:=by
 have e1:(s.heap.push Mf).get? s.heap.objs.size=some Mf:=Kt s.heap rfl;have e2:((s.heap.push Mf).push (MH C s.heap.objs.size)).get? (s.heap.objs.size+1)=some (MH C s.heap.objs.size):=by
  have:=Kt (s.heap.push Mf) (o:=MH C s.heap.objs.size) rfl
  rwa [K9]at this
 have e3:(s.heap.push Mf).Ns s.heap.objs.size (fun _=>none):=⟨Mf,#[],_,e1,rfl,(fun e he=>absurd he (by simp)),fun _=>rfl⟩;have I1:=I.laid (a:=s.heap.objs.size) (o:=.own (s.heap.objs.size+1)) (h':=s.heap.push Mf) (t':=s.toks) (fun b u q=>Kh _ q) (Km _) ⟨_,e1⟩;refine I1.laid (a:=s.heap.objs.size+1) (o:=.ins C s.heap.objs.size []) (t':=s.toks) (fun b u q=>Kh _ q) (Nk (K9 _ _)) ?_;have ne:s.heap.objs.size≠s.heap.objs.size+1:=K3 (L0 _);refine⟨by rw[aM ne,ay],Lk _,ne,e2,fun _=>none,(Heap.Ns1.of_empty e3).at fun o q=>Kh _ q,fun _=>MT,fun y hy=>absurd rfl hy⟩
theorem Gu{prog:Program}{w:World}{env:Env}{e:Expr}{f:Str}{pos:Pos}{s:Shared}{Q:Value->Shared->Prop}(hb:N4 e f env (eval e env)=eval e env)
  (h:wpAny (model prog w) A (eval e env) (fun o s₁=>wpAny (model prog w) A (getAttr o f true) Q E s₁) E s):wpAny (model prog w) A (eval (.Attribute e f pos) env) Q E s:=
 Attribute_any_ h (by rw[arm_eval_Attribute,hb])
end
noncomputable def cp(K:Fg)(ta:TE)(f:Str):TE:=fun σ H Q=>ta σ H fun x H1=>∃a C dx fs v,x=.ref a/\H1 a=some (.ins C dx fs)/\Cls K C/\d9 K C f/\fs.lookup f=some v/\Q v H1
noncomputable def pI(K:Fg)(ta tv:TE)(f:Str):TS:=fun D σ H=>tv σ H fun y H1=>ta σ H1 fun x H2=>∃a C dx fs,x=.ref a/\H2 a=some (.ins C dx fs)/\Cls K C/\d9 K C f/\fs.length<1000/\
 D.nx σ (upd H2 a (.ins C dx (gp f y fs)))
section
variable{X:Cx}{o e value:Expr}{f:Str}{pos pos' tpos:Pos}{ta tv:TE}
theorem aR(he:PE X e ta)(hb:N4 e f X.env (eval e X.env)=eval e X.env):PE X (.Attribute e f pos) (cp X.K ta f):=by
 intro pins s σ H Q I h;refine Gu hb (thn (he pins s σ H _ I h) fun u s1 ⟨x,H1,I1,rx,a,C,dx,fs,v,ex,ea,c,n,l,q⟩=>?_);subst ex;obtain rfl:u=KY a:=rx;exact AX I1 ea c n l fun u' s2 I2 ru=>⟨v,H1,I2,ru,q⟩
theorem nC(ha:PE X o ta)(hv:PE X value tv)(hs:Qz value (some (.Attribute o f pos')) pos.line X.env=pure false):PS X (.Assign [.Attribute o f pos'] value pos) (pI X.K ta tv f):=by
 intro pins s σ H D I h;refine plainObj_wpAny_Assign_Attribute (thn (hv pins s σ H _ I h) fun u s1 ⟨y,H1,I1,ry,q⟩=>thn (ha pins s1 σ H1 _ I1 q) fun ov s2 ⟨x,H2,I2,rx,a,C,dx,fs,ex,ea,c,n,l,q2⟩=>?_) hs;subst ex;obtain rfl:ov=KY a:=rx;exact AZ I2 ea c n l ry fun s3 I3=>⟨σ,_,I3,q2⟩
end
section
variable{X:Cx}{pins:List (Addr×Obj)}{σ:St}{H:Hp}{s:Shared}{A:Around}{E:Value->Shared->Prop}{Q:Value->Shared->Prop}{c:Value}{b:Bool}
inductive fo(K:Fg)(H:Hp):V->Value->Prop where
 |non:fo K H .non (.type "NoneType")
 |bl (x:Bool):fo K H (.bl x) (.type "bool")
 |int (i:Int):fo K H (.int i) (.type "int")
 |str (x:Str):fo K H (.str x) (.type "str")
 |flt (x:UInt64):fo K H (.flt x) (.type "float")
 |lst {a:Addr} {xs:List V} (e:H a=some (.lst xs)):fo K H (.ref a) (.type "list")
 |frz {a:Addr} {o:Obj} {xs:List V} (e:H a=some (.frz o (.lst xs))):fo K H (.ref a) (.type "list")
 |tup {a:Addr} {xs:List V} (e:H a=some (.tup xs)):fo K H (.ref a) (.type "tuple")
 |dK {a:Addr} {kvs:List (Key×V)} (e:H a=some (.dK kvs)):fo K H (.ref a) (.type "dict")
 |dT {a:Addr} {kvs:List (List Key×V)} (e:H a=some (.dT kvs)):fo K H (.ref a) (.type "dict")
 |ins {a C dx:Addr} {fs:List (Str×V)} (e:H a=some (.ins C dx fs)) (cl:Cls K C) (ha:Mr K (.ref C) "__class__"=some (some (.builtin "object.__class__")))
   (hn:PySem.W.specialIn K (.builtin "object.__class__") "__get__"=some (some (.builtin "getset_descriptor.__get__"))) (htk:PySem.W.takesIn K (.builtin "object.__class__")=some true)
   (hm:PySem.W.mroIn K C (.type "object")=some true):fo K H (.ref a) (.ref C)
theorem CL{x:V}{u t:Value}(I:Inv X pins σ H s)(rx:aI x u)(ty:fo X.K H x t)(e:LW X.K t c=some b)(h:∀tk,Q (.bool b) { s with toks:=tk }):
  wpAny (model X.prog X.w) A (call (.builtin "isinstance") [u,c]) Q E s:=by
 cases ty with
 |non=>cases (show u=LL from rx);exact L8 PySem.W.kitx_none I.kIn MT e (fun z=>nomatch z) h
 |bl y=>cases (show u=L5 y from rx);exact L8 PySem.W.kitx_bool I.kIn MT e (fun z=>nomatch z) h
 |int i=>obtain⟨t,q⟩:=(show∃t,u=Nf i t from rx);cases q;exact L8 PySem.W.kitx_int I.kIn MT e (fun z=>nomatch z) h
 |str y=>obtain⟨t,q⟩:=(show∃t,u=Qy y t from rx);cases q;exact L8 PySem.W.kitx_str I.kIn MT e (fun z=>nomatch z) h
 |flt y=>obtain⟨t,q⟩:=(show∃t,u=Sl y t from rx);cases q;exact L8 PySem.W.kitx_float I.kIn MT e (fun z=>nomatch z) h
 | @lst a xs ea=>
  cases (show u=KY a from rx);obtain⟨_,_,n,_,h1⟩:=(show bE X.prog X.w H s.heap a (.lst xs)from I.hok a _ ea);exact L8 R6 I.kIn ⟨_,h1,rfl⟩ e (fun z=>nomatch z) h
 | @frz a ob xs ea=>
  cases (show u=KY a from rx);obtain⟨_,_,_,n,_,h1⟩:=(show bE X.prog X.w H s.heap a (.frz ob (.lst xs))from I.hok a _ ea);exact L8 R6 I.kIn ⟨_,h1,rfl⟩ e (fun z=>nomatch z) h
 | @tup a xs ea=>
  cases (show u=KY a from rx);obtain⟨_,_,_,p⟩:=(show bE X.prog X.w H s.heap a (.tup xs)from I.hok a _ ea);obtain⟨o,h1,h2,_⟩:=p;exact L8 PySem.W.kitx_tuple I.kIn ⟨o,h1,h2⟩ e (fun z=>nomatch z) h
 | @dK a kvs ea=>
  cases (show u=KY a from rx);obtain⟨_,_,vs,_,p⟩:=(show bE X.prog X.w H s.heap a (.dK kvs)from I.hok a _ ea);obtain⟨o,es,ep,h1,h2,_⟩:=p;exact L8 R7 I.kIn ⟨o,h1,h2.1⟩ e (fun z=>nomatch z) h
 | @dT a kvs ea=>
  cases (show u=KY a from rx);obtain⟨_,_,xs,_,o,es,ep,h1,h2,_⟩:=(show bE X.prog X.w H s.heap a (.dT kvs)from I.hok a _ ea);exact L8 R7 I.kIn ⟨o,h1,h2.1⟩ e (fun z=>nomatch z) h
 | @ins a C dx fs ea cl ha hn htk hm=>
  cases (show u=KY a from rx);obtain⟨mA,O,_⟩:=qz I.hok ea;obtain⟨od,J,_⟩:=O.look;exact L8 (PySem.W.kitx_own (cl.get _) cl.hd ha hn htk hm) I.kIn J e (fun z=>nomatch z) h
end
end L2
namespace L2
open PySem PySem.Spec PyProof.Rows
structure bO(k:Nat)(A:Around):Prop where
 hd:A.handled=none
 dp:A.depth+3*k+5<recursionLimit
 un:A.units+16*k+200<cLine
theorem bO.mono{j k:Nat}{A:Around}(r:bO k A)(h:j<=k):bO j A:=⟨r.hd,by have:=r.dp;omega,by have:=r.un;omega⟩
theorem bO.deeper{k:Nat}{A:Around}(r:bO (k+1) A)(env:Env):bO k (A.deeper env):=
 ⟨r.hd,by have:=r.dp;show A.depth+1+3*k+5<_;omega,by have:=r.un;show A.units+3+16*k+200<_;omega⟩
theorem A0{A:Around}{C:Addr}{us:List Value}{kw:List (Str×Value)}:(A.under (.builtin "type.__call__" ⟨.ref C::us,kw⟩)).depth=A.depth+1:=by
 first|rfl|simp[RI,Code.weight,Code.isCreation,Code.isGuard,Code.isCaller,Code.frames,RJ,guardIds]
theorem A1{A:Around}{C:Addr}{us:List Value}{kw:List (Str×Value)}:(A.under (.builtin "type.__call__" ⟨.ref C::us,kw⟩)).units=A.units+1:=by
 first|rfl|simp[RI,Code.cUnits,Code.frames,RJ]
theorem bO.make{k:Nat}{A:Around}(r:bO (k+1) A)(C:Addr)(us:List Value)(kw:List (Str×Value)):bO k (A.under (.builtin "type.__call__" ⟨.ref C::us,kw⟩)):=
 ⟨r.hd,by have:=r.dp;rw[A0];omega,by have:=r.un;rw[A1];omega⟩
theorem bO.depth{k:Nat}{A:Around}(r:bO k A):A.depth<recursionLimit:=by have:=r.dp;omega
theorem bO.units0{k:Nat}{A:Around}(r:bO k A):A.units<cLine:=by have:=r.un;omega
noncomputable def ag:TA:=fun _ H Q=>Q [] H
noncomputable def aa(ta:TE)(tr:TA):TA:=fun σ H Q=>ta σ H fun x H1=>tr σ H1 fun xs H2=>Q (x::xs) H2
section
variable{X:Cx}{e:Expr}{es:List Expr}{te:TE}{t:TA}{pos:Pos}
theorem ae:PA X [] ag:=fun _ _ _ _ H Q I h=>PV ⟨[],H,I,.nil,h⟩
theorem dS(ha:PE X e te)(hr:PA X es t)(hs:KC (e::es) X.env=(false,eval e X.env)::KC es X.env:=by rfl):PA X (e::es) (aa te t):=by
 intro pos pins s σ H Q I h;rw[hs];show wpAny _ _ (spliced ((false,eval e X.env)::backTo pos (KC es X.env))) _ _ s;refine Pt (thn (ha pins s σ H _ I h) fun u s1 ⟨x,H1,I1,r1,q1⟩=>?_);exact thn (hr pos pins s1 σ H1 _ I1 q1) fun us s2 ⟨xs,H2,I2,r2,q2⟩=>⟨x::xs,H2,I2,.cons r1 r2,q2⟩
noncomputable def Es(t:TA):TE:=fun σ H Q=>t σ H fun xs H1=>xs.length<=Kw/\∀p,H1 p=none->Q (.ref p) (upd H1 p (.tup xs))
noncomputable def A2(t:TA):TE:=fun σ H Q=>t σ H fun xs H1=>xs.length<=Kw/\∀p,H1 p=none->Q (.ref p) (upd H1 p (.lst xs))
theorem CM{x1}(h:PA X es t):PE X (.Tuple es x1 pos) (Es t):=by
 intro pins s σ H Q I hq;refine Rv (thn (h pos pins s σ H _ I hq) fun us s1 ⟨xs,H1,I1,r,z,q⟩=>⟨by rw[<-r.length];exact z,?_⟩);have hf:H1 s1.heap.objs.size=none:=I1.hok.fresh (Km _);refine⟨.ref s1.heap.objs.size,upd H1 s1.heap.objs.size (.tup xs),I1.laid (t':=s1.toks) (fun b u e=>Kh _ e) (Km _) ?_,rfl,q _ hf⟩;exact⟨z,us,r,fQ.new _ _⟩
theorem yd(h:PA X es t):PE X (.List es pos) (A2 t):=by
 intro pins s σ H Q I hq;refine RK (thn (h pos pins s σ H _ I hq) fun us s1 ⟨xs,H1,I1,r,z,q⟩=>⟨by rw[<-r.length];exact z,?_⟩);have hf:H1 s1.heap.objs.size=none:=I1.hok.fresh (Km _);refine⟨.ref s1.heap.objs.size,upd H1 s1.heap.objs.size (.lst xs),I1.laid (t':=s1.toks) (fun b u e=>Kh _ e) (Km _) ?_,rfl,q _ hf⟩;exact⟨z,us,0,r,Kt _ rfl⟩
end
noncomputable abbrev Sp:=List V->Hp->VK->XK->Prop
noncomputable abbrev CXT:=List Env->Hp->Shared->XK->Value->Shared->Prop
structure rY(P:Program)(w:World)(K:Fg)(mg:Str->Option Value)(base:Heap)(A:Around)(outer:List Env)(s:Shared)(H:Hp):Prop where
 frames:A.frames=some outer
 mod:Mod K mg base
 bs:∀b o,base.get? b=some o->s.heap.get? b=some o/\H b=none
 bsz:base.objs.size<=s.heap.objs.size
 funs:s.heap.FunFrames base outer
 frf:∀b∈frs outer,H b=none
 hok:HOk P w H s.heap
 bare:AllBare s.gens
noncomputable def CE(outer:List Env)(P:Program)(w:World)(H:Hp)(s:Shared)(Q:VK)(u:Value)(s':Shared):Prop:=
 ∃v H',s'.os=s.os/\AllBare s'.gens/\Un (frs outer) [] H H' s.heap s'.heap/\HOk P w H' s'.heap/\aI v u/\Q v H'
noncomputable def CR(CX:CXT)(outer:List Env)(P:Program)(w:World)(H:Hp)(s:Shared)(Q:VK)(E:XK)(r:Result)(s':Shared):Prop:=
 match r with
 | .ok (.ret u)=>CE outer P w H s Q u s'
 | .ok _=>False
 | .error e=>CX outer H s E e s'
structure bg(P:Program)(w:World)(K:Fg)(mg:Str->Option Value)(base:Heap)(CX:CXT)(k:Nat)(f:Addr)(fd:KD)(ps:List Str)(sp:Sp):Prop where
 len:∀vs H Q E,sp vs H Q E->vs.length=ps.length
 run:∀(A:Around)(outer:List Env)(s:Shared)(H:Hp)(args:Args)(us:List Value)(vs:List V)(Q:VK)(E:XK),bO k A->rY P w K mg base A outer s H->BindsTo s fd args (ps.zip us)->aG vs us->sp vs H Q E->
  codeAny (model P w) A (.call (.ref f) args) (CR CX outer P w H s Q E) s
theorem rY.make{P:Program}{w:World}{K:Fg}{mg:Str->Option Value}{base:Heap}{A:Around}{outer:List Env}{s:Shared}{H:Hp}(e:rY P w K mg base A outer s H)(C:Addr)(us:List Value)(kw:List (Str×Value)):
  rY P w K mg base (A.under (.builtin "type.__call__" ⟨.ref C::us,kw⟩)) outer s H:=⟨by first|exact e.frames| (simpa[RI,Code.envs,RJ,pushEnvs]using e.frames),e.mod,e.bs,e.bsz,e.funs,e.frf,e.hok,e.bare⟩
section
variable{X:Cx}{pins:List (Addr×Obj)}{σ:St}{H:Hp}{s s':Shared}
theorem Inv.env0(I:Inv X pins σ H s):rY X.prog X.w X.K X.mg X.base X.A X.stack s H:=
 ⟨I.ok.frames,I.ok.mod,I.bs,K4 I.ok.bsz I.sz,I.stack,I.stkFree,I.hok,I.bare⟩
theorem Inv.after{Q:VK}{u:Value}(I:Inv X pins σ H s)(h:CE X.stack X.prog X.w H s Q u s'):EP X pins σ Q u s':=by
 obtain⟨v,H',os,bare,un,hok,r,q⟩:=h;obtain⟨hh,g,d,t,os'⟩:=s';obtain rfl:os'=s.os:=os;exact⟨v,H',I.call (h':=hh) (g':=g) (d':=d) (t':=t) (ch:=[]) un hok bare (fun b z=>absurd z (by simp)),r,q⟩
end
noncomputable def aq(sp:Sp)(dvs:List V)(E:XK)(t:TA):TE:=fun σ H Q=>t σ H fun vs H1=>sp (vs++dvs) H1 Q E
noncomputable def dq(C:Addr)(m:Str)(sp:Sp)(dvs:List V)(E:XK)(ta:TE)(t:TA):TE:=fun σ H Q=>ta σ H fun x H1=>∃a dx fs,x=.ref a/\H1 a=some (.ins C dx fs)/\fs.lookup m=none/\
 t σ H1 fun vs H2=>sp (x::(vs++dvs)) H2 Q E
noncomputable def xI(C:Addr)(sp:Sp)(dvs:List V)(E:XK)(t:TA):TE:=fun σ H Q=>t σ H fun vs H1=>∀x dx,H1 x=none->H1 dx=none->dx≠x->
 sp (.ref x::(vs++dvs)) (upd (upd H1 dx (.own x)) x (.ins C dx [])) (fun v H2=>v=.non/\Q (.ref x) H2) E
noncomputable def fi(K:Fg)(fd:KD)(ps:List Str)(ds:List Value):Prop:=
 ∀(s:Shared)(us:List Value),K.In s.heap->(us++ds).length=ps.length->BindsTo s fd ⟨us,[]⟩ (ps.zip (us++ds))
theorem fi.all{K:Fg}{fd:KD}{ps:List Str}(h:∀us:List Value,us.length=ps.length->bindArgs fd ⟨us,[]⟩=pure (ps.zip us)):fi K fd ps []:=fun s us _ hl=>by
 rw[MI]at hl ⊢;exact .of_eq (h us hl)
noncomputable def fR(CX:CXT)(X:Cx)(E:XK):Prop:=∀(pins:List (Addr×Obj))(σ:St)(H:Hp)(s:Shared)(e:Value)(s':Shared),Inv X pins σ H s->CX X.stack H s E e s'->X.xe e s'
section
variable{X:Cx}{CX:CXT}{k:Nat}{f C:Addr}{fd:KD}{ps:List Str}{sp:Sp}{dvs:List V}{ds:List Value}{E:XK}{x m:Str}{p pos apos:Pos}{e o:Expr}{es:List Expr}{ta:TE}{t:TA}
theorem CN{pins:List (Addr×Obj)}{σ:St}{H:Hp}{s:Shared}{Q:VK}{us:List Value}{vs:List V}(F:bg X.prog X.w X.K X.mg X.base CX k f fd ps sp)(hr:bO k X.A)(hb:fi X.K fd ps ds)(hd:aG dvs ds)(hx:fR CX X E)
  (I:Inv X pins σ H s) (r:aG vs us) (h:sp (vs++dvs) H Q E):wpAny (model X.prog X.w) X.A (call (.ref f) us) (EP X pins σ Q) X.xe s:=by
 have r2:aG (vs++dvs) (us++ds):=r.append hd;have hl:(us++ds).length=ps.length:=by rw[<-r2.length];exact F.len _ _ _ _ h
 refine SU (Nl (F.run X.A X.stack s H ⟨us,[]⟩ (us++ds) (vs++dvs) Q E hr I.env0 (hb s us I.kIn hl) r2 h) fun r s' hq=>?_);cases r with
 |error e=>exact hx pins σ H s e s' I hq
 |ok fl=>
  cases fl with
  |ret u=>exact I.after hq
  |next=>exact Mi hq
  |brk=>exact Mi hq
  |cont=>exact Mi hq
theorem Am(F:bg X.prog X.w X.K X.mg X.base CX k f fd ps sp)(hr:bO k X.A)(hg:Gl X x)(hm:X.mg x=some (.ref f))(hk:NS X.K (.ref f)=true)(hb:fi X.K fd ps ds)(hd:aG dvs ds)(hx:fR CX X E)
  (ha:PA X (e::es) t) (hdb:(x==("__debug__":Str))=false:=by decide) (he:KC (e::es) X.env=(false,eval e X.env)::KC es X.env:=by rfl) (hpl:(backTo pos (KC es X.env)).any (·.1)=false:=by rfl):
  PE X (.Call (.Name x p) (e::es) [] pos) (aq sp dvs E t):=by
 intro pins s σ H Q I h;refine ME (qx I hg hm ?_ hdb);refine Pu (h₀:=X.base) I.ok.mod.kin hk (thn (ha pos pins s σ H _ I h) fun us s1 ⟨vs,H1,I1,r,q⟩=>⟨I1.kIn,?_⟩) he hpl;exact CN F hr hb hd hx I1 r q
theorem An{pl:Sem Bool}(he:PE X o ta)(c:Cls X.K C)(hm:yc X.K C m f)(F:bg X.prog X.w X.K X.mg X.base CX k f fd ps sp)(hr:bO k X.A)(hb:fi X.K fd ps ds)(hd:aG dvs ds)(hx:fR CX X E)(ha:PA X (e::es) t)
  (hst:KC (e::es) X.env=(false,eval e X.env)::KC es X.env:=by rfl) (hpl:(backTo pos (KC es X.env)).any (·.1)=false:=by rfl)
  (ht:eval (.Call (.Attribute o m apos) (e::es) [] pos) X.env=(do
   let ov <-eval o X.env
   standAt apos.atName
   let(f,first) <-holding [ov] (QA ov m pl)
   callWith pos f first (backTo pos (KC (e::es) X.env)) (Pj pos (N8 [] X.env))):=by rfl):
  PE X (.Call (.Attribute o m apos) (e::es) [] pos) (dq C m sp dvs E ta t):=by
 intro pins s σ H Q I h;refine PySem.W.methodCall_KW (pl:=pl) (thn (he pins s σ H _ I h) fun u s1 ⟨x,H1,I1,rx,a,dx,fs,ex,ea,l,q⟩=>?_) ht;subst ex;obtain rfl:u=KY a:=rx;refine AY I1 ea c hm l ?_;refine Pu (first:=[.ref a]) (h₀:=X.base) I.ok.mod.kin hm.kp (thn (ha pos pins s1 σ H1 _ I1 q) fun us s2 ⟨vs,H2,I2,r,q2⟩=>⟨I2.kIn,?_⟩) hst hpl;exact CN (us:=.ref a::us) (vs:=.ref a::vs) F hr hb hd hx I2 (.cons rfl r) q2
structure Mk(K:Fg)(C f:Addr):Prop where
 makes:SS K C=true
 init:Mr K (.ref C) "__init__"=some (some (.ref f))
 fn:RH K (.ref f)=true
 kp:NS K (.ref C)=true
theorem Et{pins:List (Addr×Obj)}{σ:St}{H:Hp}{s:Shared}{Q:VK}{us:List Value}{vs:List V}(M:Mk X.K C f)(F:bg X.prog X.w X.K X.mg X.base CX k f fd ps sp)(hr:bO (k+1) X.A)(hb:fi X.K fd ps ds)(hd:aG dvs ds)
  (hx:fR CX X E) (I:Inv X pins σ H s) (r:aG vs us)
  (h:∀x dx,H x=none->H dx=none->dx≠x->sp (.ref x::(vs++dvs)) (upd (upd H dx (.own x)) x (.ins C dx [])) (fun v H2=>v=.non/\Q (.ref x) H2) E):
  wpAny (model X.prog X.w) X.A (call (.ref C) us) (EP X pins σ Q) X.xe s:=by
 have hq:=h (s.heap.objs.size+1) s.heap.objs.size (I.hok.fresh (Ng _)) (I.hok.fresh (Km _)) (K3 (L0 _));have I2:=Inv.made (C:=C) I;have r2:aG (V.ref (s.heap.objs.size+1)::(vs++dvs)) (KY (s.heap.objs.size+1)::(us++ds)):=.cons rfl (r.append hd);have hl:(KY (s.heap.objs.size+1)::us++ds).length=ps.length:=by
  have e:=r2.length;rw[F.len _ _ _ _ hq]at e;exact e.symm
 refine SU (Er (f:=f) I.kIn M.makes M.init (beq_iff_eq.mp M.fn) (Nl (F.run _ X.stack _ _ ⟨KY (s.heap.objs.size+1)::us,[]⟩ (KY (s.heap.objs.size+1)::(us++ds)) _ _ E (hr.make C us [])
  (I2.env0.make C us []) (hb _ (KY (s.heap.objs.size+1)::us) I2.kIn hl) r2 hq) fun r s' hq'=>?_))
 cases r with
 |error e=>exact hx pins σ _ _ e s' I2 hq'
 |ok fl=>
  cases fl with
  |ret u=>
   obtain⟨v,H',I3,rv,ev,q3⟩:=I2.after hq';subst ev;exact⟨rv,⟨V.ref (s.heap.objs.size+1),H',I3,rfl,q3⟩⟩
  |next=>exact Mi hq'
  |brk=>exact Mi hq'
  |cont=>exact Mi hq'
theorem Gv(M:Mk X.K C f)(F:bg X.prog X.w X.K X.mg X.base CX k f fd ps sp)(hr:bO (k+1) X.A)(hg:Gl X x)(hm:X.mg x=some (.ref C))(hb:fi X.K fd ps ds)(hd:aG dvs ds)(hx:fR CX X E)
  (ha:PA X (e::es) t) (hdb:(x==("__debug__":Str))=false:=by decide) (he:KC (e::es) X.env=(false,eval e X.env)::KC es X.env:=by rfl) (hpl:(backTo pos (KC es X.env)).any (·.1)=false:=by rfl):
  PE X (.Call (.Name x p) (e::es) [] pos) (xI C sp dvs E t):=by
 intro pins s σ H Q I h;refine ME (qx I hg hm ?_ hdb);refine Pu (h₀:=X.base) I.ok.mod.kin M.kp (thn (ha pos pins s σ H _ I h) fun us s1 ⟨vs,H1,I1,r,q⟩=>⟨I1.kIn,?_⟩) he hpl;exact Et M F hr hb hd hx I1 r q
end
section
variable{X:Cx}{CX:CXT}{k:Nat}{f C:Addr}{fd:KD}{ps ks:List Str}{sp:Sp}{E:XK}{x m:Str}{p pos apos kpos:Pos}{e o:Expr}{es:List Expr}{kws:List Keyword}{te ta:TE}{t tk:TA}{nm:Option Str}
variable{g:List Value->List Value->List Value}{gV:List V->List V->List V}
end
structure az(N P:List Str)(sc:Scope):Prop where
 kind:sc.kind=.function
 co:sc.isCoroutine=false
 gen:sc.isGenerator=false
 nd:N.Nodup
 pre:N.take P.length=P
 par:∀x∈P,sc.names.lookup x=some .local\/sc.names.lookup x=some .cell
 nofree:∀y∈sc.names,y.2≠.free
theorem wq{kindOf:Str->Option Lh}{x:Str}:∀{binds:List (Str×Value)} {m:Str->Option Value},(∀v,(x,v)∉binds)->bindL kindOf binds m x=m x
 | [],_,_=>rfl
 | (n,v)::r,m,h=>by
  unfold bindL;rw[wq fun w hw=>h w (Ku _ hw)]
  split
  ·have:x≠n:=by rintro rfl;exact h v Ks
   simp[this]
  ·rfl
theorem wt{kindOf:Str->Option Lh}{x:Str}:∀{binds:List (Str×Value)} {m:Str->Option Value},(∀v,(x,v)∉binds)->bindC kindOf binds m x=m x
 | [],_,_=>rfl
 | (n,v)::r,m,h=>by
  unfold bindC;rw[wt fun w hw=>h w (Ku _ hw)]
  split
  ·rfl
  ·have:x≠n:=by rintro rfl;exact h v Ks
   simp[this]
theorem wu{kindOf:Str->Option Lh}{x:Str}{v:Value}:∀{P:List Str} {vs:List Value} {i:Nat} {m:Str->Option Value},P.Nodup->P[i]?=some x->vs[i]?=some v->kindOf x=some .local->
  bindL kindOf (P.zip vs) m x=some v
 | [],_,_,_,_,h,_,_=>by simp at h
 |_::_,[],_,_,_,_,h,_=>by simp at h
 |p::P,w::vs,0,m,nd,h1,h2,hk=>by
  simp at h1 h2;subst h1;subst h2;show bindL kindOf ((p,w)::P.zip vs) m p=_;unfold bindL;rw[wq fun v hv=>(MZ.mp nd).1 (QC hv).1,if_pos hk];simp
 |p::P,w::vs,i+1,m,nd,h1,h2,hk=>by
  show bindL kindOf ((p,w)::P.zip vs) m x=_;unfold bindL;exact wu (i:=i) (MZ.mp nd).2 (by simpa using h1) (by simpa using h2) hk
theorem wv{kindOf:Str->Option Lh}{x:Str}{v:Value}:∀{P:List Str} {vs:List Value} {i:Nat} {m:Str->Option Value},P.Nodup->P[i]?=some x->vs[i]?=some v->kindOf x≠some .local->
  bindC kindOf (P.zip vs) m x=some v
 | [],_,_,_,_,h,_,_=>by simp at h
 |_::_,[],_,_,_,_,h,_=>by simp at h
 |p::P,w::vs,0,m,nd,h1,h2,hk=>by
  simp at h1 h2;subst h1;subst h2;show bindC kindOf ((p,w)::P.zip vs) m p=_;unfold bindC;rw[wt fun v hv=>(MZ.mp nd).1 (QC hv).1,if_neg hk];simp
 |p::P,w::vs,i+1,m,nd,h1,h2,hk=>by
  show bindC kindOf ((p,w)::P.zip vs) m x=_;unfold bindC;exact wv (i:=i) (MZ.mp nd).2 (by simpa using h1) (by simpa using h2) hk
noncomputable def start(N:List Str)(vs:List V):St:=vs.map some++Ls (N.length-vs.length) none
noncomputable def db(CX:CXT)(P:Program)(w:World)(K:Fg)(mg:Str->Option Value)(base:Heap)(N:List Str)(qual:Str)(scope:Scope)(f:Addr)(cd:Value)(A:Around)(outer:List Env)(s:Shared)(H:Hp)(E:XK):Cx where
 prog:=P
 w:=w
 K:=K
 mg:=mg
 base:=base
 A:=A.deeper (envOfC qual scope s.heap.objs.size f cd)
 N:=N
 s₀:=s
 H₀:=H
 env:=envOfC qual scope s.heap.objs.size f cd
 outer:=outer
 stack:=envOfC qual scope s.heap.objs.size f cd::outer
 ex:=[]
 calm:=true
 fn:=fun _=>true
 pn:=[]
 xe:=fun e s'=>wpAny (model P w) (A.deeper (envOfC qual scope s.heap.objs.size f cd)) («leaving» (envOfC qual scope s.heap.objs.size f cd) e) (fun _ s''=>CX outer H s E e s'') (fun e' s''=>CX outer H s E e' s'') s'
theorem ye{sc:Scope}{n:Nat}{x:Str}(h:sc.names.lookup x=some .cell):∃c,(QD n sc.names []).lookup x=some c:=by
 have q:=QK sc.names n [] (.inl h);exact Qc.mp q
theorem CO{CX:CXT}{P:Program}{w:World}{K:Fg}{mg:Str->Option Value}{base:Heap}{N ps:List Str}{qual:Str}{scope:Scope}{f:Addr}{cd:Value}{A:Around}{outer:List Env}{s s1:Shared}{H:Hp}{E:XK}{us:List Value}{vs:List V}
  (S:az N ps scope) (hd:A.handled=none) (e0:rY P w K mg base A outer s H) (hl:vs.length=ps.length) (r:aG vs us)
  (x:InCallC s s.heap.objs.size (bindL (envOfC qual scope s.heap.objs.size f cd).kindOf (ps.zip us) fun _=>none) (QD (s.heap.objs.size+1) scope.names []) (bindC (envOfC qual scope s.heap.objs.size f cd).kindOf (ps.zip us) fun _=>none) s1):
  Inv (db CX P w K mg base N qual scope f cd A outer s H E) [] (start N vs) H s1:=by
 have hpl:ps.length<=N.length:=by have:=congrArg List.length S.pre;rw[Mn]at this;omega
 obtain⟨h1,tk,rfl,hk⟩:=x.done;have noA:∀b:Addr,b∉(db CX P w K mg base N qual scope f cd A outer s H E).ex:=fun b z=>absurd (show b∈([]:List Addr)from z) (by simp);refine⟨⟨e0.mod,S.kind,rfl,rfl,Km _,fun y z c h1 h2=>?_,fun y hy=>?_,fun y c _ h=>?_,fun _=>hd,Around.frames_deeper e0.frames,.inr ⟨rfl,rfl⟩,fun b z=>absurd z (noA b),e0.bs,e0.bsz,fun b _ _=>noA b,fun b z=>absurd z (noA b),e0.funs,e0.frf⟩,
  rfl,e0.bare,Un.kept hk,⟨_,x.toInCall.ns,fun i y v h1 h2 h3=>?_⟩,fun y c h=>⟨_,x.cell y c h⟩,e0.hok.fresh (Km _),fun y c h=>?_,fun p hp=>absurd (show p∈([]:List (Addr×Obj))from hp) (by simp),e0.hok.kept hk,?_⟩
 ·exact name_of_addr x.apart (Lb h1) (Lb h2)
 ·have hy:scope.names.lookup y=some .cell\/scope.names.lookup y=some .free:=hy
  rcases hy with hy|hy
  ·exact ye hy
  ·exact absurd rfl (S.nofree _ (Lb hy))
 ·exact Lp (x.above y c (Lb h))
 ·have hi:i<vs.length:=by
   unfold start at h2;by_cases hi:i<vs.length
   ·exact hi
   ·rw[M4 (by simpa using hi)]at h2
    rw[Qs]at h2
    split at h2<;>cases h2
  have ha:vs[i]?=some v:=by
   unfold start at h2;rw[MG (by simpa using hi),Kz]at h2;cases e:vs[i]? with
   |none=>rw[e]at h2;cases h2
   |some a=>rw[e]at h2;cases h2;rfl
  obtain⟨u,hu,rv⟩:=r.get ha;have hp:ps[i]?=some y:=by
   rw[<-S.pre,Qd (by omega)];exact h1
  have ndP:ps.Nodup:=by rw[<-S.pre];exact S.nd.sublist (List.take_sublist _ _)
  refine⟨u,rv,?_⟩;rcases S.par y (Ky hp)with k|k
  ·exact .inl ⟨k,wu ndP hp hu k⟩
  ·obtain⟨c,e⟩:=ye (n:=s.heap.objs.size+1) k
   refine .inr ⟨.inl k,c,e,?_⟩;have q:=x.cell y c e;rw[wv ndP hp hu (by show scope.names.lookup y≠_;rw[k];decide)]at q;exact q
 ·exact e0.hok.fresh (Lp (x.above y c (Lb h)))
 ·unfold start
  show _=N.length;rw[KP,Kk,List.length_replicate];omega
theorem A3{CX:CXT}{P:Program}{w:World}{K:Fg}{mg:Str->Option Value}{base:Heap}{k:Nat}{f:Addr}{name qual:Str}{params:Arguments}{body:List Stmt}{scope:Scope}{dV kV doc pm cdv ct oc:Value}{an od:Option Addr}
  {osl:Array (Option Value)} {N ps:List Str} {sp:Sp} (lk:K.lookup f=some ⟨oc,od,.func (Oh name qual params body scope dV kV doc pm an cdv ct),osl⟩) (hcd:QU K cdv qual=true) (S:az N ps scope)
  (len:∀vs H Q E,sp vs H Q E->vs.length=ps.length)
  (hbody:∀(A:Around)(outer:List Env)(s:Shared)(H:Hp)(vs:List V)(Q:VK)(E:XK),bO k (A.deeper (envOfC qual scope s.heap.objs.size f cdv))->sp vs H Q E->
   ∃t,PSs (db CX P w K mg base N qual scope f cdv A outer s H E) body t/\t { nx:=fun _ H'=>Q .non H',rt:=Q } (start N vs) H):
  bg P w K mg base CX (k+1) f (Oh name qual params body scope dV kV doc pm an cdv ct) ps sp:=by
 refine⟨len,fun A outer s H args us vs Q E hr e0 hb r hsp=>?_⟩;have hl:=len _ _ _ _ hsp;have KX:K.In s.heap:=e0.mod.kin.keeps fun b o e=>(e0.bs b o e).1;have lim:s.heap.NoLimit:=e0.mod.nolimit.keeps fun b o e=>(e0.bs b o e).1;have hkind:∀y∈ps.zip us,scope.names.lookup y.1=some .local\/(scope.names.lookup y.1=some .cell/\((QD (s.heap.objs.size+1) scope.names []).lookup y.1).isSome=true):=fun⟨n,v⟩ hy=>by
  rcases S.par n (QC hy).1 with q|q
  ·exact .inl q
  ·exact .inr ⟨q,QK _ _ _ (.inl q)⟩
 refine codeAny_call_function hr.depth (KX _ _ lk) rfl S.co S.gen rfl (PySem.W.codeRec_of KX hcd) (hb _ _ _ _ ?_);refine wpAny_newFunctionEnv_cells S.kind hkind fun env he s1 x=>?_;subst he;refine⟨lim.keeps x.toInCall.keep,codeAny_func ?_⟩;obtain⟨t,ht,hq⟩:=hbody A outer s H vs Q E (hr.deeper _) hsp;have I:Inv (db CX P w K mg base N qual scope f cdv A outer s H E) [] (start N vs) H s1:=CO S hr.hd e0 hl r x;refine LM (ht [] s1 (start N vs) H _ I hq) (fun fl s' hs=>?_) fun e s' hs=>hs;have fin:∀{σ':St} {H':Hp} {v:V} {u:Value},Inv (db CX P w K mg base N qual scope f cdv A outer s H E) [] σ' H' s'->aI v u->Q v H'->CE outer P w H s Q u s':=
  fun{σ' H' v u} J rv q=>⟨v,H',J.os,J.bare,J.base,J.hok,rv,q⟩
 cases fl with
 |ret u=>
  obtain⟨v,σ',H',J,rv,q⟩:=hs;exact fin J rv q
 |next=>
  obtain⟨σ',H',J,q⟩:=hs;exact fin (v:=V.non) (u:=LL) J rfl q
 |brk=>
  obtain⟨_,_,_,q⟩:=hs;exact Mi q
 |cont=>
  obtain⟨_,_,_,q⟩:=hs;exact Mi q
end L2
namespace L2
open PySem PySem.Spec PyProof.Rows
section
variable{X:Cx}{x:Str}{p pos:Pos}{e:Expr}{es:List Expr}{t:TA}{id T:String}{r:List V->Hp->VK->Prop}
noncomputable def tCB(r:List V->Hp->VK->Prop)(t:TA):TE:=fun σ H Q=>t σ H fun vs H1=>r vs H1 Q
theorem aD(hc:dn X (.builtin id) r)(hg:Gl X x)(hm:X.mg x=none)(hv:NR x=some (.builtin id))(ha:PA X (e::es) t)(hn:x≠"__name__":=by decide)(hdb:(x==("__debug__":Str))=false:=by decide)
  (he:KC (e::es) X.env=(false,eval e X.env)::KC es X.env:=by rfl) (hpl:(backTo pos (KC es X.env)).any (·.1)=false:=by rfl):PE X (.Call (.Name x p) (e::es) [] pos) (tCB r t):=by
 intro pins s σ H Q I h;refine ME (ip I hg hm hv ?_ hn hdb);exact O2 (thn (ha pos pins s σ H _ I h) fun us s1 ⟨vs,H1,I1,r1,q1⟩=>hc pins s1 σ H1 vs us Q I1 r1 q1) he hpl
theorem ee(hc:dn X (.type T) r)(hg:Gl X x)(hm:X.mg x=none)(hv:NR x=some (.type T))(ha:PA X (e::es) t)(hn:x≠"__name__":=by decide)(hdb:(x==("__debug__":Str))=false:=by decide)
  (he:KC (e::es) X.env=(false,eval e X.env)::KC es X.env:=by rfl) (hpl:(backTo pos (KC es X.env)).any (·.1)=false:=by rfl):PE X (.Call (.Name x p) (e::es) [] pos) (tCB r t):=by
 intro pins s σ H Q I h;refine ME (ip I hg hm hv ?_ hn hdb);exact LQ (thn (ha pos pins s σ H _ I h) fun us s1 ⟨vs,H1,I1,r1,q1⟩=>hc pins s1 σ H1 vs us Q I1 r1 q1) he hpl
end
end L2
namespace HT
open PySem PyProof.Rows
section
open PySem.SeqAt
open PySem.AutoSeq1 (wpAny_loadPart')
open PySem.MeetsSeq PySem.MeetsSeq2 PySem.MeetsSeq3
end
section
variable{prog:Program}{w:World}{A:Around}{E:Value->Shared->Prop}{s:Shared}
theorem Gw{t b:Addr}{vs ws:List Value}{Q:Value->Shared->Prop}(ht:IsTup s.heap t vs.toArray)(hb:IsTup s.heap b ws.toArray)(hv:vs≠[])
  (h1:ws=[]->Q (.ref t) s) (h2:ws≠[]->Q (.ref s.heap.objs.size) { s with heap:=s.heap.push { cls:=.type "tuple",data:=.seq (vs++ws).toArray } })
  (hsz:vs.length+ws.length<=Kw):wpAny (model prog w) A (MR .Add (.ref t) (.ref b)) Q E s:=by
 obtain⟨⟨cls,dd,data,sl⟩,ho,hc,n,hd⟩:=id ht;obtain⟨⟨cls2,dd2,data2,sl2⟩,ho2,hc2,n2,hd2⟩:=id hb;simp only at hc hd hc2 hd2;subst hc hd hc2 hd2;have e:vs.toArray++ws.toArray=(vs++ws).toArray:=by simp
 by_cases hw:ws=[]
 ·exact RL ⟨_,ho,rfl⟩ ⟨_,ho2,rfl⟩ Qe Ro OI Oy (Oi _ _)
   (tuple_addW1 t b vs.toArray ws.toArray n n2 dd dd2 sl sl2 (by simpa using hv) (by simp[hw])) ⟨ho,ho2,h1 hw⟩
 ·refine RL ⟨_,ho,rfl⟩ ⟨_,ho2,rfl⟩ Qe Ro OI Oy (Oi _ _)
   (tuple_addW2 t b vs.toArray ws.toArray n n2 dd dd2 sl sl2 (by simpa using hv) (by simpa using hw) (by rw[KH,KH];exact hsz)) ⟨ho,ho2,?_⟩
  rw[e];exact h2 hw
noncomputable def sIx(n d:Nat):Option Int->Nat
 |none=>d
 |some v=>if v<0 then(v+(n:Int)).toNat else min v.toNat n
theorem Ik(n d:Nat)(hd:d<=n)(o:Option Int):sIx n d o<=n:=by
 cases o with
 |none=>exact hd
 |some v=>
  show(if v<0 then(v+(n:Int)).toNat else min v.toNat n)<=n;by_cases hv:v<0
  ·rw[if_pos hv];omega
  ·rw[if_neg hv];exact Nat.min_le_right _ _
theorem Ao(v:Int)(n d:Nat):(if v<0 then max (v+(n:Int)) 0 else min v (n:Int))=((sIx n d (some v):Nat):Int):=by
 show(if v<0 then max (v+(n:Int)) 0 else min v (n:Int))=(((if v<0 then(v+(n:Int)).toNat else min v.toNat n):Nat):Int);by_cases hv:v<0
 ·simp only[if_pos hv];omega
 ·simp only[if_neg hv];omega
theorem A4(lo hi:Option Int)(n:Nat):Od lo hi 1 (n:Int)=(((sIx n 0 lo:Nat):Int),((sIx n n hi:Nat):Int)):=by
 have h1:¬((1:Int)<0):=by omega
 unfold Od;simp only[h1,if_false];refine Prod.ext ?_ ?_
 ·cases lo with
  |none=>rfl
  |some v=>exact Ao v n 0
 ·cases hi with
  |none=>rfl
  |some v=>exact Ao v n n
theorem A5(i j:Nat):Nb (i:Int) (j:Int) 1=j-i:=by
 unfold Nb;have h1:(1:Int)>0:=by omega
 simp only[h1,if_true,Int.ediv_one]
 split<;>omega
theorem tG{v:Value}{o:Option Int}{Q:Option Int->Shared->Prop}(p:IsPart v o)(h:Q o s):wpAny (model prog w) A (Builtin.Slice.slicePartIndex v) Q E s:=by
 cases p with
 |none=>exact slicePart_none h
 |int i t=>exact slicePart_int h
theorem rZ{sl:Addr}{vl vu:Value}{lo hi:Option Int}{n:Nat}{Q:Int×Int×Nat->Shared->Prop}(hs:s.heap.IsSliceOf sl vl vu .none)(pl:IsPart vl lo)(pu:IsPart vu hi)
  (h:Q (((sIx n 0 lo:Nat):Int),1,sIx n n hi-sIx n 0 lo) s):wpAny (model prog w) A (PK (.ref sl) (pure (n:Int))) Q E s:=by
 obtain⟨os,hos,hcs,hds⟩:=id hs;unfold PK Builtin.Slice.sliceFields;refine Kg (Kg (Lx hos hds (x:=vl) rfl (Kg (Lx hos hds (x:=vu) rfl (Kg (Lx hos hds (x:=.none) rfl (Ki ?_)))))));refine Kg (slicePart_none ?_);show wpAny _ _ (if((1:Int)==0)=true then _ else _) _ _ s;rw[if_neg (by decide)];refine Kg (tG pl (Kg (tG pu (Kg (Ki ?_)))));show wpAny _ _ (match Od lo hi 1 (n:Int)with| (lo,hi)=>pure (lo,(1:Int),Nb lo hi 1)) _ _ s;rw[A4 lo hi n];show wpAny _ _ (pure (((sIx n 0 lo:Nat):Int),(1:Int),Nb ((sIx n 0 lo:Nat):Int) ((sIx n n hi:Nat):Int) 1)) _ _ s;rw[A5];exact Ki h
theorem Eu(xs:Array Value)(i k:Nat):((KS k).filterMap fun(m:Nat)=>xs[((i:Int)+(m:Int)*1).toNat]?).toArray=((xs.toList.drop i).take k).toArray:=by
 have e:(fun(m:Nat)=>xs[((i:Int)+(m:Int)*1).toNat]?)=fun m=>xs[i+m]?:=by
  funext m
  have:((i:Int)+(m:Int)*1).toNat=i+m:=by omega
  rw[this]
 rw[e];have:=pick_run xs i k;rw[List.filterMap_map]at this;have e2:((fun x=>xs[x]?)∘fun x=>i+x)=fun m=>xs[i+m]?:=rfl;rw[e2]at this;rw[this]
theorem rf{t sl:Addr}{items:Array Value}{vl vu:Value}{lo hi:Option Int}{Q:Value->Shared->Prop}(ht:IsTup s.heap t items)(hs:s.heap.IsSliceOf sl vl vu .none)(pl:IsPart vl lo)(pu:IsPart vu hi)
  (hw:¬(sIx items.size 0 lo=0/\sIx items.size items.size hi=items.size))
  (h:Q (.ref s.heap.objs.size) { s with heap:=s.heap.push { cls:=.type "tuple",data:=.seq ((items.toList.drop (sIx items.size 0 lo)).take (sIx items.size items.size hi-sIx items.size 0 lo)).toArray } })
  (hsz:items.size<=Kw):wpAny (model prog w) A (getItem (.ref t) (.ref sl)) Q E s:=by
 have htake:sizeOk (.seq ((items.toList.drop (sIx items.size 0 lo)).take (sIx items.size items.size hi-sIx items.size 0 lo)).toArray):=by
  show((items.toList.drop (sIx items.size 0 lo)).take (sIx items.size items.size hi-sIx items.size 0 lo)).toArray.size<=Kw;rw[KH,Mn,SA,K8];omega
 have hj:sIx items.size items.size hi<=items.size:=Ik _ _ (Km _) hi;obtain⟨os,hos,hcs,hds⟩:=id hs;have hTs:s.TypeIs (.ref sl) "slice":=⟨os,hos,hcs⟩;unfold getItem
 try with_reducible refine LH ?_
 first|refine Kg (Ki ?_)|skip
 refine Kg (wpAny_sequenceKey ht.typeIs (by decide) ?_);refine Kg (Lm (name:=Mo "__getitem__") ht.typeIs Nv
  (Lc Nv ht.typeIs entry_tuple_getitem ?_ (args_tuple_getitem _ _)))
 show wpAny _ _ (PL (.ref t)>>=_) _ _ s;refine Kg (tupleItemsOf_ ht ?_);refine Kg (Qf hTs ?_);rw[if_pos (by decide)];refine Kg (rZ hs pl pu ?_);have hno:¬((((sIx items.size 0 lo:Nat):Int)==0&&(1:Int)==1&&(sIx items.size items.size hi-sIx items.size 0 lo)==items.size)=true):=by
  intro q;rw[LI,LI]at q;have q1:((sIx items.size 0 lo:Nat):Int)=0:=eq_of_beq q.1.1;have q2:sIx items.size items.size hi-sIx items.size 0 lo=items.size:=eq_of_beq q.2;exact hw ⟨by omega,by omega⟩
 show wpAny _ _ (if(((sIx items.size 0 lo:Nat):Int)==0&&(1:Int)==1&&(sIx items.size items.size hi-sIx items.size 0 lo)==items.size)=true then _ else _) _ _ s;rw[if_neg hno,Eu]
 first
  |exact Kg (m:=Nm _) (Lu (Ki ⟨_,rfl,Ki h⟩) htake)
  |exact Kg (m:=Nm _) (Lu (Kg (Ki (Ki ⟨_,rfl,Ki h⟩))) htake)
  |exact Kg (Kg (m:=Nm _) (Lu (Ki (Ki ⟨_,rfl,Ki h⟩)) htake))
  |exact Kg (Kg (m:=Nm _) (Lu (Ki ⟨_,rfl,Ki h⟩) htake))
end
end HT
namespace L2
open PySem PySem.Spec PyProof.Rows
noncomputable abbrev TO:=St->Hp->(Option Int->Hp->Prop)->Prop
noncomputable def PO(X:Cx)(e:Option Expr)(t:TO):Prop:=
 ∀(pins:List (Addr×Obj))(s:Shared)(σ:St)(H:Hp)(Q:Option Int->Hp->Prop),Inv X pins σ H s->t σ H Q->
  wpAny (model X.prog X.w) X.A (evalPart e X.env) (fun u s'=>∃o H',Inv X pins σ H' s'/\IsPart u o/\Q o H') X.xe s
noncomputable def qA:TO:=fun _ H Q=>Q none H
noncomputable def xJ(t:TE):TO:=fun σ H Q=>t σ H fun x H1=>∃i,x=.int i/\Q (some i) H1
theorem nU{ns:List Int}:∀{us:List Value},aG (ns.map V.int) us->IntsAre us ns:=by
 induction ns with
 |nil=>intro us r;rw[NT]at r;cases r;exact .nil
 |cons n ns ih=>
  intro us r;rw[KL]at r;cases r with
  |cons r1 r2=>
   obtain⟨t,e⟩:=r1;subst e;exact .cons n t (ih r2)
section
variable{X:Cx}{e:Expr}{te:TE}{lo hi:Option Expr}{tl th:TO}{pos p2:Pos}
theorem Ap:PO X none qA:=by
 intro pins s σ H Q I h;rw[evalPart_none];exact Ki ⟨none,H,I,.none,h⟩
theorem Aq(h:PE X e te):PO X (some e) (xJ te):=by
 intro pins s σ H Q I hw;rw[evalPart_some];refine thn (h pins s σ H _ I hw) fun u s1 ⟨x,H1,I1,r1,q1⟩=>?_;obtain⟨i,rfl,q⟩:=q1;obtain⟨t,rfl⟩:=r1;exact⟨some i,H1,I1,.int i t,q⟩
noncomputable def SlR(X:Cx)(r:V->Option Int->Option Int->Hp->VK->Prop):Prop:=
 ∀(pins:List (Addr×Obj))(s:Shared)(σ:St)(H:Hp)(x:V)(v vl vu:Value)(lo hi:Option Int)(sl:Addr)(Q:VK),Inv X pins σ H s->aI x v->s.heap.IsSliceOf sl vl vu .none->IsPart vl lo->IsPart vu hi->r x lo hi H Q->
  ∃T id,Q6 (.type T) "__getitem__"=pure (some (.builtin id))/\s.TypeIs v T/\wpAny (model X.prog X.w) X.A (getItem v (.ref sl)) (EP X pins σ Q) X.xe s
noncomputable def tSl(r:V->Option Int->Option Int->Hp->VK->Prop)(te:TE)(tl th:TO):TE:=fun σ H Q=>te σ H fun x H1=>tl σ H1 fun l H2=>th σ H2 fun u H3=>r x l u H3 Q
theorem yf{r:V->Option Int->Option Int->Hp->VK->Prop}(hr:SlR X r)(he:PE X e te)(hl:PO X lo tl)(hu:PO X hi th):PE X (.Subscript e (.Slice lo hi none p2) pos) (tSl r te tl th):=by
 intro pins s σ H Q I h;refine SV (thn (he pins s σ H _ I h) fun v s1 ⟨x,H1,I1,r1,q1⟩=>?_);refine wpAny_Slice (thn (hl pins s1 σ H1 _ I1 q1) fun vl s2 ⟨l,H2,I2,pl,q2⟩=>thn (hu pins s2 σ H2 _ I2 q2) fun vu s3 ⟨u,H3,I3,pu,q3⟩=>?_);rw[evalPart_none];refine Ki ?_;have I4:Inv X pins σ H3 { s3 with heap:=s3.heap.push { cls:=.type "slice",data:=.fields #[vl,vu,.none] } }:=I3.kept (t':=s3.toks) fun b ob q=>Kh _ q;obtain⟨T,id,hT,ht,hg⟩:=hr pins { s3 with heap:=s3.heap.push { cls:=.type "slice",data:=.fields #[vl,vu,.none] } } σ H3 x v vl vu l u s3.heap.objs.size Q I4 r1 (Heap.IsSliceOf.new ..) pl pu q3;show wpAny (model X.prog X.w) X.A (Rp e (.Slice lo hi none p2) v (.ref s3.heap.objs.size)) (EP X pins σ Q) X.xe { s3 with heap:=s3.heap.push { cls:=.type "slice",data:=.fields #[vl,vu,.none] } };exact tail_any (ops:=[.ref s3.heap.objs.size,v]) ht hT hg (by with_unfolding_all rfl)
noncomputable def pJ(xs:List V)(lo hi:Option Int):List V:=(xs.drop (HT.sIx xs.length 0 lo)).take (HT.sIx xs.length xs.length hi-HT.sIx xs.length 0 lo)
theorem zB(xs:List V)(lo hi:Option Int):(pJ xs lo hi).length<=xs.length:=by
 unfold pJ;rw[Mn,SA];omega
noncomputable def JW(K:Fg):V->Option Int->Option Int->Hp->VK->Prop:=fun x lo hi H Q=>∃a xs,x=.ref a/\SqT K H a xs/\
 ¬(HT.sIx xs.length 0 lo=0/\HT.sIx xs.length xs.length hi=xs.length)/\∀p,H p=none->Q (.ref p) (upd H p (.tup (pJ xs lo hi)))
theorem Il:SlR X (JW X.K):=by
 intro pins s σ H x v vl vu lo hi sl Q I rx hs pl pu h;obtain⟨a,xs,rfl,hx,hw,q⟩:=h;cases rx;obtain⟨its,r,ht,hz⟩:=I.tuple hx;have hlen:its.toArray.size=xs.length:=by rw[KH];exact r.length.symm
 refine⟨"tuple",_,Nv.lookup,ht.typeIs,?_⟩;refine HT.rf ht hs pl pu (by rw[hlen];exact hw) ?_ (by rw[hlen];exact hz);rw[hlen];refine⟨.ref s.heap.objs.size,_,I.laid (t':=s.toks) (o:=.tup (pJ xs lo hi)) (fun b ob q=>Kh _ q) (Km _) ?_,rfl,q _ (I.hok.fresh (Km _))⟩;exact⟨K4 (zB xs lo hi) hz,_,(r.drop (HT.sIx xs.length 0 lo)).take (HT.sIx xs.length xs.length hi-HT.sIx xs.length 0 lo),fQ.new _ _⟩
noncomputable def Js(K:Fg):R2:=fun x y H Q=>∃a b xs ys,x=.ref a/\y=.ref b/\SqT K H a xs/\SqT K H b ys/\xs≠[]/\xs.length+ys.length<=Kw/\
 (ys=[]->Q (.ref a) H)/\(ys≠[]->∀p,H p=none->Q (.ref p) (upd H p (.tup (xs++ys))))
theorem aG.nil_iff{xs:List V}{us:List Value}(r:aG xs us):us=[]↔xs=[]:=by
 cases r with
 |nil=>simp
 |cons _ _=>simp
theorem Gx:OpR X (MR .Add) (Js X.K):=by
 intro pins s σ H x y v u Q I rx ry h;obtain⟨a,b,xs,ys,rfl,rfl,ha,hb,hx,hz,q1,q2⟩:=h;cases rx;cases ry;obtain⟨its,r1,p1,_⟩:=I.tuple ha;obtain⟨its2,r2,p2,_⟩:=I.tuple hb;refine HT.Gw p1 p2 (fun z=>hx (r1.nil_iff.mp z)) (fun z=>⟨.ref a,H,I,rfl,q1 (r2.nil_iff.mp z)⟩) (fun z=>?_) (by rw[<-r1.length,<-r2.length];exact hz);refine⟨.ref s.heap.objs.size,_,I.laid (t':=s.toks) (o:=.tup (xs++ys)) (fun b ob q=>Kh _ q) (Km _) ?_,rfl,q2 (fun w=>z (r2.nil_iff.mpr w)) _ (I.hok.fresh (Km _))⟩;exact⟨by rw[KP];exact hz,_,r1.append r2,fQ.new _ _⟩
end
end L2
namespace L2
open PySem PySem.Spec PyProof.Rows
noncomputable def ixN(n:Nat)(i:Int):Option Nat:=if 0<=i then(if i<n then some i.toNat else none)else if -(n:Int)<=i then some (i+n).toNat else none
noncomputable def atI{α:Type}(xs:List α)(i:Int):Option α:=(ixN xs.length i).bind fun j=>xs[j]?
theorem Ar{n:Nat}{i:Int}{j:Nat}(h:ixN n i=some j):seqIndex? i n=some j/\j<n/\-(n:Int)<=i/\i<n:=by
 unfold ixN at h;by_cases h0:0<=i
 ·rw[if_pos h0]at h
  by_cases h1:i<n
  ·rw[if_pos h1]at h
   have e:i.toNat=j:=KA h;exact⟨by rw[Sm h0 h1,e],by omega,by omega,h1⟩
  ·rw[if_neg h1]at h;cases h
 ·rw[if_neg h0]at h
  by_cases h1:-(n:Int)<=i
  ·rw[if_pos h1]at h
   have e:(i+n).toNat=j:=KA h;exact⟨by rw[RM (by omega) h1,e],by omega,h1,by omega⟩
  ·rw[if_neg h1]at h;cases h
theorem As{α:Type}{xs:List α}{i:Int}{v:α}(h:atI xs i=some v):∃j,seqIndex? i xs.length=some j/\xs[j]?=some v/\j<xs.length/\-(xs.length:Int)<=i/\i<xs.length:=by
 unfold atI at h;cases e:ixN xs.length i with
 |none=>rw[e]at h;cases h
 |some j=>
  rw[e]at h;obtain⟨h1,h2,h3,h4⟩:=Ar e;exact⟨j,h1,h,h2,h3,h4⟩
theorem cN{α:Type}{xs:List α}{j:Nat}{v:α}(h:xs[j]?=some v):atI xs (j:Int)=some v:=by
 have hj:j<xs.length:=(Kn.mp h).1;have e:ixN xs.length (j:Int)=some j:=by
  unfold ixN;rw[if_pos (by omega),if_pos (by omega)];simp
 unfold atI;rw[e];exact h
noncomputable def Gy(b:Expr):Prop:=∀o i,QL b false o i=operate [o,i] (getItem o i)
noncomputable def IxR(X:Cx)(r:R2):Prop:=
 ∀(value slice:Expr)(pins:List (Addr×Obj))(s:Shared)(σ:St)(H:Hp)(x y:V)(v u:Value)(Q:VK),Inv X pins σ H s->aI x v->aI y u->r x y H Q->
  QL slice false v u=operate [v,u] (getItem v u)->wpAny (model X.prog X.w) X.A (Rp value slice v u) (EP X pins σ Q) X.xe s
noncomputable def MtR(X:Cx)(id:String)(r:V->List V->Hp->VK->Prop):Prop:=
 ∀(pins:List (Addr×Obj))(s:Shared)(σ:St)(H:Hp)(x:V)(xs:List V)(v:Value)(us:List Value)(Q:VK),Inv X pins σ H s->aI x v->aG xs us->r x xs H Q->
  wpAny (model X.prog X.w) X.A (call (.builtin id) (v::us)) (EP X pins σ Q) X.xe s
section
variable{X:Cx}{a b:Expr}{ta tb:TE}{pos:Pos}
theorem aZ{r:R2}(hr:IxR X r)(ha:PE X a ta)(hb:PE X b tb)(hs:Gy b):PE X (.Subscript a b pos) (tOp r ta tb):=by
 intro pins s σ H Q I h;exact SV (Em ha hb I h fun v u s2 x y H2 I2 rx ry q=>hr a b pins s2 σ H2 x y v u Q I2 rx ry q (hs _ _))
noncomputable def cz(K:Fg):R2:=fun x y H Q=>∃p xs i v,x=.ref p/\y=.int i/\SqL K H p xs/\atI xs i=some v/\Q v H
noncomputable def eY(K:Fg):R2:=fun x y H Q=>∃p xs i v,x=.ref p/\y=.int i/\SqT K H p xs/\atI xs i=some v/\Q v H
theorem bh:IxR X (cz X.K):=by
 intro value slice pins s σ H x y v u Q I rx ry h hs;obtain⟨p,xs,i,z,rfl,rfl,hq,he,q⟩:=h;cases rx;obtain⟨t,rfl⟩:=ry;obtain⟨its,r,pl,hz⟩:=I.list hq;obtain⟨j,h1,h2,h3,h4,h5⟩:=As he;obtain⟨w,ew,rw'⟩:=r.get h2;have hl:=r.length;have hn:=tz;have fin:EP X pins σ Q w s:=⟨z,H,I,rw',q⟩;by_cases h0:0<=i
 ·have hj:i.toNat=j:=by
   rw[Sm h0 h5]at h1;exact KA h1
  exact item_listR pl.isList h0 (by omega) (by rw[hj];simpa using ew) fin hs
 ·have hj:(i+(its.toArray.size:Int)).toNat=j:=by
   rw[RM (by omega) h4]at h1;rw[KH,<-hl];exact KA h1
  exact QM (x:=w) pl.isList.typeIs slot_list_getitem.lookup
   (wpAny_getItem_list_neg (Q:=fun r s'=>r=w/\EP X pins σ Q r s') pl.isList (by omega) (by rw[KH]<;>omega) (by omega) (by rw[hj];simpa using ew) ⟨rfl,fin⟩) hs
theorem cA:IxR X (eY X.K):=by
 intro value slice pins s σ H x y v u Q I rx ry h hs;obtain⟨p,xs,i,z,rfl,rfl,hq,he,q⟩:=h;cases rx;obtain⟨t,rfl⟩:=ry;obtain⟨its,r,pl,hz⟩:=I.tuple hq;obtain⟨j,h1,h2,h3,h4,h5⟩:=As he;obtain⟨w,ew,rw'⟩:=r.get h2;have hl:=r.length;have hn:=tz;have fin:EP X pins σ Q w s:=⟨z,H,I,rw',q⟩;exact QM (x:=w) pl.typeIs slot_tuple_getitem.lookup
  (getItem_tuple (j:=j) (Q:=fun r s'=>r=w/\EP X pins σ Q r s') pl (by omega) (by omega) (by rw[KH,<-hl];exact h1) (by simpa using ew) ⟨rfl,fin⟩) hs
theorem A6(its:List Value)(n j:Nat)(u:Value):LN (·.setIfInBounds j u) { cls:=.type "list",data:=.seq its.toArray n }={ cls:=.type "list",data:=.seq (its.set j u).toArray n }:=by
 simp[LN]
theorem Inv.lst{pins:List (Addr×Obj)}{σ:St}{H:Hp}{s:Shared}{p:Addr}{xs:List V}(I:Inv X pins σ H s)(h:H p=some (.lst xs)):
  ∃(its:List Value)(n:Nat),aG xs its/\s.heap.get? p=some { cls:=.type "list",data:=.seq its.toArray n }/\xs.length<=Kw:=by
 obtain⟨z,its,n,r,e⟩:=I.hok p _ h;exact⟨its,n,r,e,z⟩
theorem Inv.lstUpd{pins:List (Addr×Obj)}{σ:St}{H:Hp}{s:Shared}{p:Addr}{xs ys:List V}{its its':List Value}{n n':Nat}{f:Obj->Obj}(I:Inv X pins σ H s)(h:H p=some (.lst xs))
  (ho:s.heap.get? p=some { cls:=.type "list",data:=.seq its.toArray n }) (hf:f { cls:=.type "list",data:=.seq its.toArray n }={ cls:=.type "list",data:=.seq its'.toArray n' }) (r:aG ys its') (hz:ys.length<=Kw) (t:Nat):
  Inv X pins σ (upd H p (.lst ys)) { s with heap:=s.heap.update p f,toks:=t }:=by
 have e:(s.heap.update p f).get? p=some { cls:=.type "list",data:=.seq its'.toArray n' }:=by
  rw[Ln f ho (by rw[hf]<;>rfl),hf]
 refine I.write (x:=p) (e:=p) (by rw[h];trivial) (.inl rfl) (fun b u hb q=>(L3 _ _ (LK hb)).trans q) ⟨_,e⟩ ?_;exact⟨hz,its',n',r,e⟩
noncomputable def mE:V->V->V->Hp->(Hp->Prop)->Prop:=fun o i v H Q=>∃p xs k j,o=.ref p/\i=.int k/\H p=some (.lst xs)/\ixN xs.length k=some j/\Q (upd H p (.lst (xs.set j v)))
theorem lP:Ek X mE:=by
 intro pins s σ H o i v ov iv u Q I ro ri rv h;obtain⟨p,xs,k,j,rfl,rfl,hp,hj,q⟩:=h;cases ro;obtain⟨t,rfl⟩:=ri;obtain⟨its,n,r,ho,hz⟩:=I.lst hp;obtain⟨h1,h2,h3,h4⟩:=Ar hj;have hl:=r.length;have hn:=tz;have I':Inv X pins σ (upd H p (.lst (xs.set j v))) { s with heap:=s.heap.update p (LN (·.setIfInBounds j u)) }:=
  I.lstUpd hp ho (A6 its n j u) (r.set rv j) (by rw[Mw];exact hz) s.toks
 by_cases h0:0<=k
 ·have hk:k.toNat=j:=by
   rw[Sm h0 h4]at h1;exact KA h1
  exact PySem.W.ki_setAt ho h0 (by omega) (by rw[KH,<-hl];exact h4) (by rw[hk];exact⟨_,I',q⟩)
 ·have hk:(k+(its.toArray.size:Int)).toNat=j:=by
   rw[RM (by omega) h3]at h1;rw[KH,<-hl];exact KA h1
  exact PySem.W.ki_setBack ho (by omega) (by rw[KH,<-hl];exact h3) (by omega) (by rw[hk];exact⟨_,I',q⟩)
noncomputable def dt:V->Bool
 | .non=>true
 | .bl _=>true
 | .int _=>true
 | .str _=>true
 |_=>false
noncomputable def eqV:V->V->Bool
 | .non,.non=>true
 | .bl a,.bl b=>a==b
 | .bl a,.int b=>(if a then 1 else 0)==b
 | .int a,.bl b=>a==(if b then 1 else 0)
 | .int a,.int b=>a==b
 | .str a,.str b=>a==b
 |_,_=>false
theorem CP{A:Around}{s:Shared}{y x:V}{u v:Value}(ry:aI y u)(rx:aI x v)(fy:dt y=true)(fx:dt x=true):K1 A s u v (eqV y x):=by
 cases y with
 |non=>
  cases ry;cases x with
  |non=>cases rx;exact QE _
  |bl b=>cases rx;exact Q7 b
  |int b=>obtain⟨t,rfl⟩:=rx;exact Rw b t
  |str b=>obtain⟨t,rfl⟩:=rx;exact K1.none_str b t
  |_=>exact absurd (show false=true from fx) Kv
 |bl a=>
  cases ry;cases x with
  |non=>cases rx;exact Q8 a
  |bl b=>cases rx;exact Q9 a b
  |int b=>obtain⟨t,rfl⟩:=rx;exact Rx a b t
  |str b=>obtain⟨t,rfl⟩:=rx;exact K1.bool_str a b t
  |_=>exact absurd (show false=true from fx) Kv
 |int a=>
  obtain⟨t',rfl⟩:=ry;cases x with
  |non=>cases rx;exact Ry a t'
  |bl b=>cases rx;exact RA a t' b
  |int b=>obtain⟨t,rfl⟩:=rx;exact RN a t' b t
  |str b=>obtain⟨t,rfl⟩:=rx;exact RC a t' b t
  |_=>exact absurd (show false=true from fx) Kv
 |str a=>
  obtain⟨t',rfl⟩:=ry;cases x with
  |non=>cases rx;exact K1.str_none a t'
  |bl b=>cases rx;exact K1.str_bool a t' b
  |int b=>obtain⟨t,rfl⟩:=rx;exact RD a t' b t
  |str b=>obtain⟨t,rfl⟩:=rx;exact K1.str_str a t' b t
  |_=>exact absurd (show false=true from fx) Kv
 |_=>exact absurd (show false=true from fy) Kv
noncomputable def eqU(x:V)(u:Value):Bool:=match u with
 | .none=>eqV .non x
 | .bool b=>eqV (.bl b) x
 | .int i _=>eqV (.int i) x
 | .str z _=>eqV (.str z) x
 |_=>false
theorem yg{x y:V}{u:Value}(r:aI y u)(f:dt y=true):eqU x u=eqV y x:=by
 cases y with
 |non=>cases r;rfl
 |bl b=>cases r;rfl
 |int i=>obtain⟨t,rfl⟩:=r;rfl
 |str z=>obtain⟨t,rfl⟩:=r;rfl
 |_=>exact absurd (show false=true from f) Kv
theorem vF{x:V}:∀{xs:List V} {us:List Value},aG xs us->xs.all dt=true->us.any (eqU x)=xs.any fun y=>eqV y x
 |_,_,.nil,_=>rfl
 |y::xs,u::us,.cons r t,f=>by
  rw[Lw,LI]at f;rw[ON,ON,yg r f.1,vF t f.2]
theorem lT{A:Around}{s:Shared}{x:V}{v:Value}(rx:aI x v)(fx:dt x=true):∀{xs:List V} {us:List Value},aG xs us->xs.all dt=true->∀u∈us,K1 A s u v (eqU x u)
 |_,_,.nil,_=>fun u hu=>by cases hu
 |y::xs,u::us,.cons r t,f=>fun u' hu=>by
  rw[Lw,LI]at f;rcases Kq.mp hu with rfl|hu
  ·rw[yg r f.1];exact CP r rx f.1 fx
  ·exact lT rx fx t f.2 u' hu
noncomputable def inV(x:V)(xs:List V):Bool:=xs.any fun y=>eqV y x
noncomputable def rIn(K:Fg)(neg:Bool):R2:=fun x y H Q=>∃p xs,y=.ref p/\(SqL K H p xs\/SqT K H p xs)/\dt x=true/\xs.all dt=true/\Q (.bl (if neg then !inV x xs else inV x xs)) H
theorem wy:OpR X (MD .In) (rIn X.K false):=by
 intro pins s σ H x y v u Q I rx ry h;obtain⟨p,xs,rfl,hq,fx,fs,q⟩:=h;cases ry;rcases hq with hq|hq
 ·obtain⟨its,r,pl,hz⟩:=I.list hq
  refine SeqAt.in_listAt (eqU x) pl.isList (fun w hw=>lT rx fx r fs w (by simpa using hw)) ⟨.bl _,H,I,rfl,?_⟩;rw[show its.toArray.any (eqU x)=its.any (eqU x) by simp,vF r fs];exact q
 ·obtain⟨its,r,pl,hz⟩:=I.tuple hq
  refine SeqAt.in_tupleAt (eqU x) pl (fun w hw=>lT rx fx r fs w (by simpa using hw)) ⟨.bl _,H,I,rfl,?_⟩;rw[show its.toArray.any (eqU x)=its.any (eqU x) by simp,vF r fs];exact q
theorem aV:dn X (.builtin "len") (fun xs H Q=>∃p ys,xs=[.ref p]/\(SqL X.K H p ys\/SqT X.K H p ys)/\Q (.int ys.length) H):=by
 intro pins s σ H xs us Q I r h;obtain⟨p,ys,rfl,hq,q⟩:=h;obtain⟨u,rfl,rx⟩:=tE r;cases rx;have hn:=tz;rcases hq with hq|hq
 ·obtain⟨its,r',pl,hz⟩:=I.list hq
  have hlen:=r'.length;exact Calls.call_len_list pl.isList (by simp only[KH]<;>omega) ⟨.int ys.length,H,I.tok _,⟨s.toks+1,by rw[KH,hlen]⟩,q⟩
 ·obtain⟨its,r',pl,hz⟩:=I.tuple hq
  have hlen:=r'.length;exact len_tuple pl (by simp only[KH]<;>omega) ⟨.int ys.length,H,I.tok _,⟨s.toks+1,by rw[KH,hlen]⟩,q⟩
theorem yh:dn X (.type "list") (fun xs H Q=>∃p ys,xs=[.ref p]/\(SqL X.K H p ys\/SqT X.K H p ys)/\∀l,H l=none->Q (.ref l) (upd H l (.lst ys))):=by
 intro pins s σ H xs us Q I r h;obtain⟨p,ys,rfl,hq,q⟩:=h;obtain⟨u,rfl,rx⟩:=tE r;cases rx;have fin:∀(its:List Value),aG ys its->ys.length<=Kw->∀(h':Heap)(c':Nat),(∀b o',s.heap.get? b=some o'->h'.get? b=some o')->
   h'.get? s.heap.objs.size=some { cls:=.type "list",dict:=none,data:=.seq its.toArray c',slots:=#[] }->EP X pins σ Q (.ref s.heap.objs.size) { s with heap:=h' }:=fun its r' hz h' c' kp e=>
  ⟨.ref s.heap.objs.size,_,I.laid (t':=s.toks) kp (Km _) (show bE X.prog X.w _ h' _ (.lst ys)from⟨hz,its,c',r',e⟩),rfl,q _ (I.hok.fresh (Km _))⟩
 rcases hq with hq|hq
 ·obtain⟨its,r',pl,hz⟩:=I.list hq
  have hlen:=r'.length;obtain⟨o,ho,hc,n,hd⟩:=pl.isList;exact call_list_seq p (.inl rfl) ho hc hd (fun h' c' kp e=>fin its r' hz h' c' kp e) (by simp only[KH]<;>omega)
 ·obtain⟨its,r',pl,hz⟩:=I.tuple hq
  have hlen:=r'.length;obtain⟨o,ho,hc,n,hd⟩:=pl;exact call_list_seq p (.inr rfl) ho hc hd (fun h' c' kp e=>fin its r' hz h' c' kp e) (by simp only[KH]<;>omega)
theorem wZ:dn X (.type "tuple") (fun xs H Q=>∃p ys,xs=[.ref p]/\((SqL X.K H p ys/\∀l,H l=none->Q (.ref l) (upd H l (.tup ys)))\/(SqT X.K H p ys/\Q (.ref p) H))):=by
 intro pins s σ H xs us Q I r h;obtain⟨p,ys,rfl,h⟩:=h;obtain⟨u,rfl,rx⟩:=tE r;cases rx;rcases h with⟨hq,q⟩|⟨hq,q⟩
 ·obtain⟨its,r',pl,hz⟩:=I.list hq
  have hlen:=r'.length;refine call_tuple_list pl.isList (fun h' kp=>?_) (by simp only[KH]<;>omega);have I1:Inv X pins σ H { s with heap:=h' }:=I.kept (t':=s.toks) kp;have I2:Inv X pins σ (upd H h'.objs.size (.tup ys)) { s with heap:=h'.push { cls:=.type "tuple",data:=.seq its.toArray } }:=
   I1.laid (t':=s.toks) (fun b o e=>Kh _ e) (Km _) (show bE X.prog X.w _ _ _ (.tup ys)from⟨hz,its,r',fQ.new _ _⟩)
  exact⟨.ref h'.objs.size,_,I2,rfl,q _ (I1.hok.fresh (Km _))⟩
 ·obtain⟨its,r',pl,hz⟩:=I.tuple hq
  exact call_tuple_same pl ⟨.ref p,H,I,rfl,q⟩
noncomputable def tyV(K:Fg)(T:String)(x:V)(H:Hp):Prop:=match x with
 | .str _=>T="str"
 | .int _=>T="int"
 | .ref p=>(T="list"/\∃xs,SqL K H p xs)\/(T="tuple"/\∃o,K.lookup p=some o/\o.cls=.type "tuple"/\o.dict=none)\/
   (T="dict"/\((∃kvs,H p=some (.dK kvs))\/∃kvs,H p=some (.dT kvs)))\/(T="set"/\∃S n,H p=some (.set S n))
 |_=>False
theorem Im{pins:List (Addr×Obj)}{σ:St}{H:Hp}{s:Shared}{T:String}{x:V}{v:Value}(I:Inv X pins σ H s)(r:aI x v)(ty:tyV X.K T x H):
  s.TypeIs v T/\∀a,v=.ref a->∃ob,s.heap.get? a=some ob/\ob.dict=none:=by
 cases x with
 |str z=>
  obtain⟨t,rfl⟩:=r;cases (show T="str" from ty);exact⟨typeIs_str s z t,fun _ e=>nomatch e⟩
 |int i=>
  obtain⟨t,rfl⟩:=r;cases (show T="int" from ty);exact⟨SW s i t,fun _ e=>nomatch e⟩
 |ref p=>
  cases r;rcases ty with⟨rfl,xs,hq⟩|⟨rfl,o,hk,hc,hd⟩|⟨rfl,hk⟩|⟨rfl,S,n,hk⟩
  ·obtain⟨its,_,pl,_⟩:=I.list hq
   refine⟨pl.isList.typeIs,fun a e=>?_⟩;cases e;obtain⟨o,n,e,c,hd,_⟩:=pl;exact⟨o,e,hd⟩
  ·refine⟨⟨o,I.kIn p o hk,hc⟩,fun a e=>?_⟩
   cases e;exact⟨o,I.kIn _ o hk,hd⟩
  ·have z:∃o,s.heap.get? p=some o/\o.ExactDict:=by
    rcases hk with⟨kvs,hk⟩|⟨kvs,hk⟩
    ·obtain⟨_,_,_,_,o,_,_,e,ex,_⟩:=I.hok p _ hk
     exact⟨o,e,ex⟩
    ·obtain⟨_,_,_,_,o,_,_,e,ex,_⟩:=I.hok p _ hk
     exact⟨o,e,ex⟩
   obtain⟨o,e,ex⟩:=z;refine⟨⟨o,e,ex.1⟩,fun a e2=>?_⟩;cases e2;exact⟨o,e,ex.2.1⟩
  ·obtain⟨o,_,_,_,e,ex,_⟩:=I.hok p _ hk
   refine⟨⟨o,e,ex.1⟩,fun a e2=>?_⟩;cases e2;exact⟨o,e,ex.2.1⟩
 |_=>exact Mi ty
noncomputable def tBM(K:Fg)(T:String)(r:V->List V->Hp->VK->Prop)(to:TE)(t:TA):TE:=fun σ H Q=>to σ H fun x H1=>tyV K T x H1/\t σ H1 fun xs H2=>r x xs H2 Q
variable{o e:Expr}{es:List Expr}{to:TE}{t:TA}{name:Str}{apos cpos:Pos}{T id:String}{r:V->List V->Hp->VK->Prop}
theorem tH(pa:PlainAttrs T)(slot:Slot T name id)(hty:typeOf (.builtin id)=pure (.type "method_descriptor"))(hm:MtR X id r)(ho:PE X o to)(ha:PA X (e::es) t)
  (hbase:N4 o name X.env (eval o X.env)=eval o X.env:=by rfl)
  (hfew:((backTo cpos (KC (e::es) X.env)).all (fun x=>!x.1)&&(Pj cpos (N8 [] X.env)).all (fun x=>x.1.isSome)
   &&decide ((e::es).length+([]:List Keyword).length+(if([]:List Keyword).isEmpty then 0 else 1)<30))=true:=by rfl)
  (hline:(apos.endLine==cpos.line)=true:=by rfl) (hs:KC (e::es) X.env=(false,eval e X.env)::KC es X.env:=by rfl) (hplain:(backTo cpos (KC es X.env)).any (·.1)=false:=by rfl):
  PE X (.Call (.Attribute o name apos) (e::es) [] cpos) (tBM X.K T r to t):=by
 intro pins s σ H Q I h;refine OJ hbase hfew hline rfl (thn (ho pins s σ H _ I h) fun v s1 ⟨x,H1,I1,r1,ty,q1⟩=>?_);obtain⟨h1,h2⟩:=Im I1 r1 ty;refine⟨T,id,pa,slot,hty,h1,h2,?_⟩;have hA:=ha cpos pins s1 σ H1 _ I1 q1;rw[hs]at hA ⊢;refine OK (by show(false||(backTo cpos (KC es X.env)).any (·.1))=false;rw[hplain]<;>rfl) (N1 ?_);exact thn hA fun us s2 ⟨vs,H2,I2,r2,q2⟩=>hm pins s2 σ H2 x vs v us Q I2 r1 r2 q2
end
end L2
namespace L2
open PySem PySem.Spec PyProof.Rows
noncomputable def MtM(X:Cx)(id:String)(r:V->List V->Hp->VK->Prop):Prop:=
 ∀(pins:List (Addr×Obj))(s:Shared)(σ:St)(H:Hp)(x:V)(xs:List V)(v:Value)(us:List Value)(Q:VK),Inv X pins σ H s->aI x v->aG xs us->r x xs H Q->
  wpAny (model X.prog X.w) X.A (call (.builtin id) (v::us)) (EP X pins σ Q) X.xe s
theorem aG.one{x:V}{us:List Value}(h:aG [x] us):∃u,us=[u]/\aI x u:=by
 cases h with
 |cons r t=>cases t;exact⟨_,rfl,r⟩
theorem aG.two{x y:V}{us:List Value}(h:aG [x,y] us):∃u v,us=[u,v]/\aI x u/\aI y v:=by
 cases h with
 |cons r t=>cases t with
  |cons q z=>cases z;exact⟨_,_,rfl,r,q⟩
theorem aG.rep{xs:List V}{us:List Value}(h:aG xs us):∀k:Nat,aG (Ls k xs).flatten (Ls k us).flatten
 |0=>.nil
 |k+1=>by
  rw[Nu,Nu,OC,OC];exact aG.append h (aG.rep h k)
theorem wz(its:List Value):∀(k:Nat)(acc:List Value),
  SX (fun x1 x2=>x1++x2) acc.toArray (Ls k its.toArray)=(acc++(Ls k its).flatten).toArray
 |0,acc=>by simp
 |k+1,acc=>by
  have e:acc.toArray++its.toArray=(acc++its).toArray:=by simp
  have e2:(acc++its)++(Ls k its).flatten=acc++(Ls (k+1) its).flatten:=by
   rw[Nu,OC,PX]
  rw[<-e2,<-wz its k (acc++its),<-e,Nu,SY]
section
variable{X:Cx}{pins:List (Addr×Obj)}{σ:St}{H:Hp}{s:Shared}{l b:Addr}{xs ys zs:List V}
theorem Inv.lset{its its':List Value}{n:Nat}{f:Array Value->Array Value}{t':Nat}(I:Inv X pins σ H s)(hH:H l=some (.lst xs))
  (e:s.heap.get? l=some { cls:=.type "list",data:=.seq its.toArray n }) (hf:f its.toArray=its'.toArray) (hv:aG ys its') (hz:ys.length<=Kw):
  Inv X pins σ (upd H l (.lst ys)) { s with heap:=s.heap.update l (LN f),toks:=t' }:=by
 have q:=PySem.IsL.update e f;rw[hf]at q;refine I.write (x:=l) (e:=l) (by rw[hH];exact trivial) (.inl rfl) (fun b' u hb hu=>(L3 s.heap (LN f) (LK hb)).trans hu) ⟨_,q⟩ ?_;exact⟨hz,its',_,hv,q⟩
theorem Inv.lnew{its:List Value}{t':Nat}(I:Inv X pins σ H s)(hv:aG ys its)(hz:ys.length<=Kw):
  Inv X pins σ (upd H s.heap.objs.size (.lst ys)) { s with heap:=s.heap.push { cls:=.type "list",data:=.seq its.toArray },toks:=t' }:=
 I.laid (fun _ _ q=>Kh _ q) (Km _) ⟨hz,its,0,hv,Kt _ rfl⟩
theorem Inv.fresh(I:Inv X pins σ H s):H s.heap.objs.size=none:=I.hok.fresh (Km _)
theorem Inv.lstM(I:Inv X pins σ H s)(hH:H l=some (.lst xs)):xs.length<=Kw/\∃(its:List Value)(n:Nat),aG xs its/\xs.length=its.length/\s.heap.get? l=some { cls:=.type "list",data:=.seq its.toArray n }:=by
 obtain⟨z,its,n,r,e⟩:=I.hok l _ hH;exact⟨z,its,n,r,r.length,e⟩
theorem yi{n:Nat}(h:n<=Kw):Nn n=false:=by
 unfold Nn;exact decide_eq_false (by omega)
end
section
variable{X:Cx}
noncomputable def nD:V->List V->Hp->VK->Prop:=fun x vs H Q=>∃l xs y,x=.ref l/\vs=[y]/\H l=some (.lst xs)/\xs.length<Kw/\Q .non (upd H l (.lst (xs++[y])))
theorem kJ:MtM X "list.append" nD:=by
 intro pins s σ H x vs v us Q I rx rv h;obtain⟨l,xs,y,rfl,rfl,hH,hz,q⟩:=h;cases rx;obtain⟨u,rfl,ru⟩:=rv.one;obtain⟨z,its,n,r,hl,e⟩:=I.lstM hH;refine O3 F.slot_list_append ⟨_,e,rfl⟩ F.entry_list_append (F.args_list_append_2 _ _) (PySem.list_append l its.toArray n u (by rw[KH];omega)) ⟨e,?_⟩;refine⟨.non,_,I.lset (its':=its++[u]) hH e (by simp) (r.append (.cons ru .nil)) ?_,rfl,q⟩;rw[KP,QV];omega
noncomputable def vG:V->List V->Hp->VK->Prop:=fun x vs H Q=>∃l b xs zs,x=.ref l/\vs=[.ref b]/\H l=some (.lst xs)/\H b=some (.lst zs)/\xs.length+zs.length<=Kw/\Q .non (upd H l (.lst (xs++zs)))
theorem CQ:MtM X "list.extend" vG:=by
 intro pins s σ H x vs v us Q I rx rv h;obtain⟨l,b,xs,zs,rfl,rfl,hH,hB,hz,q⟩:=h;cases rx;obtain⟨u,rfl,ru⟩:=rv.one;cases ru;obtain⟨z,its,n,r,hl,e⟩:=I.lstM hH;obtain⟨z2,its2,n2,r2,hl2,e2⟩:=I.lstM hB;have hsz:its.toArray.size+its2.toArray.size<=Kw:=by rw[KH,KH];omega
 have hlong:¬(!its.toArray.isEmpty&&Nn (its.toArray.size+its2.toArray.size))=true:=by
  rw[yi hsz,Ni];exact Kv
 refine O3 F.slot_list_extend ⟨_,e,rfl⟩ F.entry_list_extend (F.args_list_extend_2 _ _)
  (AutoSeq1.list_extend_list_list_0 l its.toArray n b its2.toArray n2 hlong (by rw[KH];omega) (by omega)) ⟨e,e2,?_⟩
 refine⟨.non,_,I.lset (its':=its++its2) hH e (by simp) (r.append r2) ?_,rfl,q⟩;rw[KP];omega
noncomputable def Io:R2:=fun x y H Q=>∃l b xs zs,x=.ref l/\y=.ref b/\H l=some (.lst xs)/\H b=some (.lst zs)/\xs.length+zs.length<=Kw/\∀p,H p=none->Q (.ref p) (upd H p (.lst (xs++zs)))
theorem CS:OpR X (MR .Add) Io:=by
 intro pins s σ H x y v u Q I rx ry h;obtain⟨l,b,xs,zs,rfl,rfl,hH,hB,hz,q⟩:=h;cases rx;cases ry;obtain⟨z,its,n,r,hl,e⟩:=I.lstM hH;obtain⟨z2,its2,n2,r2,hl2,e2⟩:=I.lstM hB;refine PySem.P.add_list e e2 ?_ (by rw[KH,KH];omega);have ea:its.toArray++its2.toArray=(its++its2).toArray:=by simp
 rw[ea];exact⟨.ref _,_,I.lnew (t':=s.toks) (r.append r2) (by rw[KP];omega),rfl,q _ I.fresh⟩
noncomputable def JX:R2:=fun x y H Q=>∃l k xs,x=.ref l/\y=.int k/\H l=some (.lst xs)/\-(2^63)<=k/\k<2^63/\xs.length*k.toNat<=Kw/\
 ∀p,H p=none->Q (.ref p) (upd H p (.lst (Ls k.toNat xs).flatten))
theorem Gz{α:Type}(xs:List α)(k:Nat):(Ls k xs).flatten.length=k*xs.length:=by
 induction k with
 |zero=>simp
 |succ k ih=>rw[Nu,OC,KP,ih,Nat.succ_mul,Nat.add_comm]
theorem Ip:OpR X (MR .Mult) JX:=by
 intro pins s σ H x y v u Q I rx ry h;obtain⟨l,k,xs,rfl,rfl,hH,h1,h2,hz,q⟩:=h;cases rx;obtain⟨t,rfl⟩:=ry;obtain⟨z,its,n,r,hl,e⟩:=I.lstM hH;have hlen:its.toArray.size*k.toNat<=Kw:=by rw[KH,<-hl];exact hz
 have hcap:¬its.toArray.size*k.toNat>(2^63-1)/8:=by
  have:(Kw:Nat)<=(2^63-1)/8:=by decide
  omega
 have hfit:¬(!Builtin.List.listFitsIndex k)=true:=by
  rw[fitsIndex_both h1 h2];exact Kv
 have hlong:¬Nn (its.toArray.size*k.toNat)=true:=by
  rw[yi hlen];exact Kv
 have hnew:SX (fun x1 x2=>x1++x2) #[] (Ls (if its.toArray.isEmpty=true then 0 else k.toNat) its.toArray)=(Ls k.toNat its).flatten.toArray:=by
  have f0:∀m:Nat,SX (fun x1 x2=>x1++x2) #[] (Ls m its.toArray)=(Ls m its).flatten.toArray:=fun m=>by
   have:=wz its m [];rw[List.nil_append]at this;exact this
  rw[f0];cases its with
  |nil=>simp
  |cons a r'=>rw[if_neg (by simp)]
 refine wpAny_binaryOp_repeat_ref (T:="list") (U:="int") (by decide) ⟨_,e,rfl⟩ (fun s'=>SW s' k t) noFill_list_mul F.fills_int_mul SZ repeat_list F.slot_int_index.lookup
  (O3 SZ (SW s k t) F.entry_int_rmul (F.args_int_rmul_2 _ _) (int___rmul___int_list k t l its.toArray n)
   ⟨e,rfl,⟨_,e,rfl⟩,O3 F.slot_list_mul ⟨_,e,rfl⟩ F.entry_list_mul (F.args_list_mul_2 _ _) (AutoListH.list___mul___list_int_3 l its.toArray n k t hfit hcap hlong) ⟨e,?_⟩⟩)
 rw[hnew];exact⟨.ref _,_,I.lnew (t':=s.toks) (r.rep k.toNat) (by rw[Gz,Mp];exact hz),rfl,q _ I.fresh⟩
end
section
variable{prog:Program}{w:World}{A:Around}{E:Value->Shared->Prop}{s:Shared}
end
section
variable{X:Cx}
end
end L2
namespace Att
open PySem PySem.W PySem.Calls PyProof.Rows
theorem tI{P:Params}{h:Heap}:∀(ns:List Int)(vs:List Value),WellAll P h vs (ns.map WData.int)->IntsAre vs ns:=by
 intro ns
 induction ns with
 |nil=>
  intro vs w;rw[NT]at w;cases w;exact .nil
 |cons n ns ih=>
  intro vs w;rw[KL]at w;cases w with
  |cons a b=>
   cases a;exact .cons _ _ (ih _ b)
theorem CT{l:OpenLaw}{n:Nat}(hn:l.most=some n){P:Params}{h:Heap}{args:List WData}{vals:List Value}
  (hpre:l.row.toRowW.claim.pre args=true) (hwl:WellAll P h vals args):
  ∃a vs ns,vals=[KY a]/\args=[WData.list (ns.map WData.int)]/\h.get? a=some { cls:=.type "list",data:=.seq vs.toArray }/\IntsAre vs ns/\ns.length<=n:=by
 have hsh:WShape.hasAll [] args [.list .int]=true:=(pre_splitW hpre).1;have hc:l.pre.holds [] { args:=args }=true:=(pre_splitW hpre).2;obtain⟨d,r,rfl,h1,h2⟩:=hasAllW_cons hsh;obtain rfl:=hasAllW_nil h2;obtain⟨xs,rfl,h3⟩:=hasW_list h1;obtain⟨ns,rfl⟩:=items_int h3;have hlen:ns.length<=n:=by
  unfold OpenLaw.pre at hc;have h4:(WTm.not (.lt (.lit (.int (n:Int))) (.len (.arg 0)))).holds [] { args:=[.list (ns.map .int)] }=true:=by
   have h4:=(holds_andW hc).1;rw[hn]at h4;exact h4
  have h5:=condW_of h4 (w_not (w_lt w_lit (w_len_list (w_arg rfl))));rw[Kk]at h5;refine SB fun q=>?_;have q':(n:Int)<((ns.length:Nat):Int):=by omega
  first
   | (rw[decide_eq_true q']at h5;exact absurd h5 (by decide))
   | (simp at h5;omega)
 cases hwl with
 |cons w1 w2=>
  cases w2;cases w1 with
  |list ho hall=>exact⟨_,_,ns,rfl,rfl,ho,tI ns _ hall,hlen⟩
theorem CU(l:OpenLaw)(args:List WData):l.row.toRowW.claim.post args (.bool true) args=true:=
 postW_of (r:=l.row.toRowW) (X:=(true==true))
  (show WShape.has [] (.bool true) .bool=true by first|rfl|decide|simp[WShape.has,WShape.arms,WShape.armsAll])
  (show(WTm.eq .res (.lit (.bool true))).value [] { args:=args,res:=some (.bool true),after:=args }=some (.bool (true==true))from w_eq_bool (w_res rfl) w_lit) rfl
section
variable{prog:Program}{w:World}{A:Around}{E:Value->Shared->Prop}{s:Shared}{K:Frag}
end
end Att
namespace L2
open PySem PySem.Spec PyProof.Rows
theorem pK:∀{vs:List Value} {ns:List Int},IntsAre vs ns->aG (ns.map V.int) vs
 |_,_,.nil=>.nil
 |_,_,.cons n t h=>.cons ⟨t,rfl⟩ (pK h)
noncomputable def Iq(H:Hp):Prop:=∀b,H b=none\/∃o xs,H b=some (.frz o (.lst xs))
theorem Ev{P:Program}{w:World}{K:Fg}{mg mb:Str->Option Value}{CX:CXT}{k:Nat}{fa a:Addr}{fd:KD}{x:Str}{sp:Sp}{s₁:Shared}{vs:List Value}{ns:List Int}
  (KX:K.In s₁.heap) (hns:s₁.heap.Ns KW mg) (hb:s₁.heap.Ns SN mb) (hbb:∀x:Str,x≠"__name__"->mb x=NR x) (hlim:s₁.heap.NoLimit) (hg:s₁.gens=#[])
  (ha:s₁.heap.get? a=some { cls:=.type "list",data:=.seq vs.toArray }) (hi:IntsAre vs ns) (hl:ns.length<=Kw) (hr:bO k callerA)
  (F:∀base:Heap,K.In base->base.Ns KW mg->bg P w K mg base CX k fa fd [x] sp) (hbind:∀(s:Shared)(u:Value),BindsTo s fd ⟨[u],[]⟩ [(x,u)])
  (hsp:∀H:Hp,Iq H->SqL K H a (ns.map V.int)->sp [.ref a] H (fun v _=>v=.bl true) fun _ _ _=>False)
  (hCX:∀H e s',CX [] H s₁ (fun _ _ _=>False) e s'->False):
  codeAny (model P w) callerA (.call (.ref fa) ⟨[.ref a],[]⟩) (fun r s'=>r=.ok (.ret (.bool true))/\OldK s₁.heap s'.heap/\s'.os=s₁.os/\AllBare s'.gens) s₁:=by
 have rv:=pK hi;have lenV:=hi.length;have core:∀H:Hp,Iq H->SqL K H a (ns.map V.int)->HOk P w H s₁.heap->(∀b,H b≠none->b=a)->(H a≠none->K.lookup a=none)->
   codeAny (model P w) callerA (.call (.ref fa) ⟨[.ref a],[]⟩) (fun r s'=>r=.ok (.ret (.bool true))/\OldK s₁.heap s'.heap/\s'.os=s₁.os/\AllBare s'.gens) s₁:=by
  intro H hO hS hok hA hK;have base_of:∀{b:Addr} {o:Obj},s₁.heap.get? b=some o->H b=none->(nR s₁.heap H).get? b=some o:=fun e n=>Eh e n;have noA:∀{b:Addr} {o:Obj} {es:Array RG} {ep:Nat},s₁.heap.get? b=some o->o.data=.dict es ep->H b=none:=fun{b o es ep} e d=>by
   cases q:H b with
   |none=>rfl
   |some u=>
    have e':b=a:=hA b (by rw[q];simp);subst e';rw[ha]at e;cases e;have d':Data.seq vs.toArray _=Data.dict es ep:=d;cases d'
  have nsK:∀{b:Addr} {m:Str->Option Value},s₁.heap.Ns b m->(nR s₁.heap H).Ns b m:=fun{b m} ⟨o,es,ep,e,d,r⟩=>⟨o,es,ep,base_of e (noA e d),d,r⟩;have hKb:K.In (nR s₁.heap H):=fun b o e=>base_of (KX b o e) (by
   cases q:H b with
   |none=>rfl
   |some u=>
    have e':b=a:=hA b (by rw[q];simp);subst e';rw[hK (by rw[q];simp)]at e;cases e)
  have hM:Mod K mg (nR s₁.heap H):=⟨hKb,nsK hns,⟨mb,nsK hb,hbb⟩,let⟨mc,h1,h2⟩:=hlim;⟨mc,nsK h1,h2⟩⟩;have e0:rY P w K mg (nR s₁.heap H) callerA [] s₁ H:=⟨rfl,hM,fun b o e=>Go e,Nk (CA _ _),trivial,fun b hb=>absurd (show b∈([]:List Addr)from hb) (by simp),hok,.of_eq hg⟩;refine Nl ((F _ hKb (nsK hns)).run callerA [] s₁ H ⟨[.ref a],[]⟩ [.ref a] [.ref a] _ _ hr e0 (hbind s₁ (.ref a)) (.cons rfl .nil) (hsp H hO hS)) fun r s' h=>?_;cases r with
  |error e=>exact(hCX H e s' h).elim
  |ok fl=>
   cases fl with
   |next=>exact Mi h
   |brk=>exact Mi h
   |cont=>exact Mi h
   |ret u=>
    obtain⟨v,H',os,bare,un,hok',r',q⟩:=h;have q':v=.bl true:=q;subst q';obtain rfl:u=L5 true:=r';refine⟨rfl,OldK.of_keep fun b o e=>?_,os,bare⟩;cases q:H b with
    |none=>exact un.keep b o e q (by intro z;exact absurd (show b∈([]:List Addr)from z) (by simp)) (by simp)
    |some u=>
     rcases hO b with z|⟨ob,xs,z⟩
     ·rw[q]at z;cases z
     ·have z2:=un.frzs b ob _ z
      obtain⟨e1,_⟩:=hok b _ z;obtain⟨e2,_⟩:=hok' b _ z2;rw[e]at e1;cases e1;exact e2
 cases hk:K.lookup a with
 |some o=>
  have e:=KX a o hk;rw[ha]at e;cases e;refine core (fun _=>none) (fun _=>.inl rfl) (.inr ⟨_,vs.toArray,_,hk,rfl,rfl,rfl,by rw[KH,lenV];exact hl,by simpa using rv⟩) (fun b u z=>by have z':(none:Option HO)=some u:=z;cases z') (fun b z=>absurd rfl z) fun z=>absurd rfl z
 |none=>
  refine core (fun b=>if b=a then some (.frz { cls:=.type "list",data:=.seq vs.toArray } (.lst (ns.map V.int)))else none) (fun b=>?_) (.inl (.inr ⟨{ cls:=.type "list",data:=.seq vs.toArray },if_pos rfl⟩)) (fun b u z=>?_) (fun b z=>?_) fun _=>hk
  ·by_cases hb:b=a
   ·exact .inr ⟨_,_,if_pos hb⟩
   ·exact .inl (if_neg hb)
  ·by_cases hb:b=a
   ·have z':=(if_pos hb).symm.trans z
    cases z';subst hb;exact⟨ha,by rw[Kk];exact hl,vs,_,rv,ha⟩
   ·have z':=(if_neg hb).symm.trans z
    cases z'
  ·by_cases hb:b=a
   ·exact hb
   ·exact absurd (if_neg hb) z
end L2
namespace L2
open PySem PySem.Spec PyProof.Rows
end L2
namespace L2
open PySem PySem.Spec PyProof.Rows
noncomputable def jQ(s:Stmt)(j:Nat):Stmt:=match s with
 | .ClassDef _ _ _ body _ _ _ _ _ _ _=>body.getD j (.Pass ⟨0,0,0,0⟩)
 |_=>.Pass ⟨0,0,0,0⟩
noncomputable def jR(s:Stmt):Arguments:=match s with
 | .FunctionDef _ a _ _ _ _ _ _ _ _=>a
 |_=>{ posonlyargs:=[],args:=[],vararg:=none,kwonlyargs:=[],kw_defaults:=[],kwarg:=none,defaults:=[] }
noncomputable def dz(s:Stmt):List Stmt:=match s with
 | .FunctionDef _ _ b _ _ _ _ _ _ _=>b
 |_=>[]
noncomputable def am(s:Stmt):Scope:=match s with
 | .FunctionDef _ _ _ _ _ _ sc _ _ _=>sc
 |_=>{ kind:=.function,names:=[],isGenerator:=false,isCoroutine:=false }
noncomputable abbrev CX0:CXT:=fun _ _ _ _ _ _=>False
noncomputable abbrev E0:XK:=fun _ _ _=>False
theorem A7{X:Cx}:fR CX0 X E0:=fun _ _ _ _ _ _ _ h=>h.elim
structure Fun(K:Fg)(x qual:Str)(st:Stmt)(f:Addr)(fd:KD):Prop where
 ex:∃(oc:Value)(od:Option Addr)(kV doc pm:Value)(an:Option Addr)(cdv ct:Value)(osl:Array (Option Value)),
  fd=Oh x qual (jR st) (dz st) (am st) .none kV doc pm an cdv ct/\K.lookup f=some ⟨oc,od,.func fd,osl⟩/\QU K cdv qual=true
 kp:NS K (.ref f)=true
section
variable{P:Program}{w:World}{K:Fg}{mg:Str->Option Value}{base:Heap}
theorem Fun.ok{x qual:Str}{st:Stmt}{f:Addr}{fd:KD}{N ps:List Str}{k:Nat}{sp:Sp}(F:Fun K x qual st f fd)(S:az N ps (am st))(len:∀vs H Q E,sp vs H Q E->vs.length=ps.length)
  (hbody:∀(cdv:Value)(A:Around)(outer:List Env)(s:Shared)(H:Hp)(vs:List V)(Q:VK)(E:XK),bO k (A.deeper (envOfC qual (am st) s.heap.objs.size f cdv))->sp vs H Q E->
   ∃t,PSs (db CX0 P w K mg base N qual (am st) f cdv A outer s H E).nox (dz st) t/\t { nx:=fun _ H'=>Q .non H',rt:=Q } (start N vs) H):bg P w K mg base CX0 (k+1) f fd ps sp:=by
 obtain⟨oc,od,kV,doc,pm,an,cdv,ct,osl,rfl,lk,hcd⟩:=F.ex;refine A3 lk hcd S len fun A outer s H vs Q E hr hsp=>?_;obtain⟨t,h,q⟩:=hbody cdv A outer s H vs Q E hr hsp;exact⟨t,h.nox,q⟩
theorem Fun.binds{x qual:Str}{st:Stmt}{f:Addr}{fd:KD}{ps:List Str}(F:Fun K x qual st f fd)
  (h:∀(kV doc pm:Value)(an:Option Addr)(cdv ct:Value)(us:List Value),us.length=ps.length->bindArgs (Oh x qual (jR st) (dz st) (am st) .none kV doc pm an cdv ct) ⟨us,[]⟩=pure (ps.zip us)):fi K fd ps []:=by
 obtain⟨oc,od,kV,doc,pm,an,cdv,ct,osl,rfl,lk,hcd⟩:=F.ex;exact .all (h kV doc pm an cdv ct)
theorem CV{x qual:Str}{st:Stmt}{f:Addr}{oc:Value}{od an:Option Addr}{osl:Array (Option Value)}{kV doc pm cdv ct:Value}(l:K.lookup f=some ⟨oc,od,.func (Oh x qual (jR st) (dz st) (am st) .none kV doc pm an cdv ct),osl⟩)
  (c:QU K cdv qual=true) (k:NS K (.ref f)=true):Fun K x qual st f (Oh x qual (jR st) (dz st) (am st) .none kV doc pm an cdv ct):=⟨⟨oc,od,kV,doc,pm,an,cdv,ct,osl,rfl,l,c⟩,k⟩
end
theorem CW{n:Nat}(h:n<=1000):n<Kw:=NB h (by decide)
section
variable{X:Cx}
theorem pv(i:Nat){x:Str}{pos:Pos}(hN:X.N[i]?=some x:=by rfl)(hv:Vis X.env.scope x:=by first|exact QW rfl|exact Oj (QW rfl)|exact Oj (Oj rfl))(hd:(x==("__debug__":Str))=false:=by decide)
  (hcd:(x==("__classdict__":Str))=false:=by decide):PE X (.Name x pos) (ad i):=Ig hN hv hd hcd
end
theorem r6{A B:Prop}(h:B):if false=true then A else B:=by
 rw[if_neg Kv];exact h
theorem r9{A B:Prop}(h:A):if true=true then A else B:=by
 rw[if_pos rfl];exact h
noncomputable def ap(H H':Hp):Prop:=∀b o,H b=some o->H' b=some o
theorem ap.refl(H:Hp):ap H H:=fun _ _ h=>h
theorem ap.trans{H H1 H2:Hp}(a:ap H H1)(b:ap H1 H2):ap H H2:=fun c o h=>b c o (a c o h)
theorem ap.free{H H':Hp}(e:ap H H'){l:Addr}(h:H' l=Option.none):H l=Option.none:=by
 cases q:H l with
 |none=>rfl
 |some o=>
  rw[e l o q]at h;cases h
theorem ap.seq{K:Fg}{H H':Hp}{a:Addr}{xs:List V}(e:ap H H')(h:SqL K H a xs):SqL K H' a xs:=by
 rcases h with(h|⟨o,h⟩)|h
 ·exact .inl (.inl (e _ _ h))
 ·exact .inl (.inr ⟨o,e _ _ h⟩)
 ·exact .inr h
end L2
end
namespace L2
open PySem PyProof.Rows
section
open PySem.Spec
theorem kY{a b:Addr}{n:Nat}(h:a<n)(h':n<=b):a≠b:=K3 (KI h h')
theorem Ir{a b:Addr}{n:Nat}(h:n<=a)(h':b<n):a≠b:=Mz (KI h' h)
noncomputable def cQ(env:Env):List (Str×Lh)->List (Str×Addr)->List (Str×Addr)
 | [],acc=>acc
 | (n,k)::r,acc=>if k=.free then(match env.cells.lookup n with|some c=>cQ env r ((n,c)::acc)|none=>cQ env r acc)else cQ env r acc
theorem ln{env:Env}:∀(ns:List (Str×Lh))(acc:List (Str×Addr)),(∀p∈acc,env.cells.lookup p.1=some p.2)->∀p∈cQ env ns acc,env.cells.lookup p.1=some p.2
 | [],acc,h=>by intro p hp;exact h p hp
 | (n,k)::r,acc,h=>by
  intro p hp;rw[cQ]at hp
  split at hp
  ·split at hp
   ·rename_i c hc
    refine ln r _ (fun q hq=>?_) p hp;rcases Kq.mp hq with rfl|hq
    ·exact hc
    ·exact h q hq
   ·exact ln r acc h p hp
  ·exact ln r acc h p hp
theorem nV{env:Env}:∀(ns:List (Str×Lh))(acc:List (Str×Addr)),∀p∈acc,p∈cQ env ns acc
 | [],acc=>fun p hp=>hp
 | (n,k)::r,acc=>fun p hp=>by
  rw[cQ]
  split
  ·split
   ·exact nV r _ p (Ku _ hp)
   ·exact nV r acc p hp
  ·exact nV r acc p hp
theorem nW{env:Env}:∀(ns:List (Str×Lh))(acc:List (Str×Addr))(x:Str)(c:Addr),(x,LX)∈ns->env.cells.lookup x=some c->(x,c)∈cQ env ns acc
 | [],acc,x,c=>fun h _=>(nomatch h)
 | (n,k)::r,acc,x,c=>fun h hc=>by
  rw[cQ];rcases Kq.mp h with e|h
  ·cases e
   rw[if_pos rfl,hc];exact nV r _ _ Ks
  ·split
   ·split
    ·exact nW r _ x c h hc
    ·exact nW r acc x c h hc
   ·exact nW r acc x c h hc
theorem oW{α:Type}{x:Str}{c:α}:∀{l:List (Str×α)},(x,c)∈l->∃d,l.lookup x=some d
 | (y,d)::r,h=>by
  rw[Ld];cases e:x==y with
  |true=>exact⟨d,rfl⟩
  |false=>
   rcases Kq.mp h with q|q
   ·cases q
    rw[beq_self_eq_true]at e;cases e
   ·exact oW q
theorem b7{env:Env}{ns:List (Str×Lh)}{x:Str}{c:Addr}(h:(cQ env ns []).lookup x=some c):env.cells.lookup x=some c:=
 ln ns [] (fun _ hp=>(nomatch hp)) (x,c) (Lb h)
theorem mF{env:Env}{ns:List (Str×Lh)}{x:Str}{c:Addr}(hm:(x,LX)∈ns)(hc:env.cells.lookup x=some c):(cQ env ns []).lookup x=some c:=by
 obtain⟨d,hd⟩:=oW (nW ns [] x c hm hc);have e:=b7 hd;rw[hc]at e;cases e;exact hd
theorem nX{scope:Scope}{env:Env}(h:∀y∈scope.names,y.2=.free->∃c,env.cells.lookup y.1=some c):P4 scope env=pure (cQ env scope.names []):=by
 have go:∀(ns:List (Str×Lh))(acc:List (Str×Addr)),(∀y∈ns,y.2=.free->∃c,env.cells.lookup y.1=some c)->
   (forIn ns acc fun(x:Str×Lh)(cs:List (Str×Addr))=>(match x with
    | (name,kind)=>if(kind==LX)=true then(do let c <-cellOf env name;pure (NC ((name,c)::cs)))else pure (NC cs):Sem (ForInStep (List (Str×Addr)))))=(pure (cQ env ns acc):Sem (List (Str×Addr))):=by
  intro ns
  induction ns with
  |nil=>intro acc _;rfl
  |cons y r ih=>
   intro acc hy;obtain⟨n,k⟩:=y;have ih':=fun acc=>ih acc fun z hz=>hy z (Ku _ hz);rw[Oe,cQ];by_cases hk:k=.free
   ·subst hk
    obtain⟨c,hc⟩:=hy (n,.free) Ks rfl;have hc':env.cells.lookup n=some c:=hc;simp only[beq_self_eq_true,if_true,cellOf,hc',pure_bind];exact ih' _
   ·have hb:(k==LX)=false:=by simpa using hk
    simp only[hb,LC,if_false,pure_bind,if_neg hk];exact ih' _
 unfold P4;have g:=go scope.names [] h;simp only[bind_pure];exact g
structure pL(sc scope:Scope)(NX N:List Str)(ix:List (Option Nat)):Prop where
 kind:scope.kind=.function
 nocell:∀y∈scope.names,y.2≠.cell
 names:∀y∈scope.names,y.2=.local->scope.names.lookup y.1=some .local
 free:∀y∈scope.names,y.2=.free->sc.names.lookup y.1=some .cell\/sc.names.lookup y.1=some .free
 nd:N.Nodup
 len:ix.length=N.length
 at_:∀p∈N.zip ix,∀i∈p.2,NX[i]?=some p.1/\scope.names.lookup p.1=some .free
noncomputable def sub(ix:List (Option Nat))(σ:St):St:=ix.map fun o=>match o with|some i=>(match σ[i]? with|some v=>v|none=>none)|none=>none
noncomputable def cq(X:Cx)(N:List Str)(scope:Scope)(C:Addr)(s:Shared)(H:Hp)(fp:List Addr):Cx where
 prog:=X.prog
 w:=X.w
 K:=X.K
 mg:=X.mg
 base:=X.base
 A:=X.A
 N:=N
 s₀:=s
 H₀:=H
 env:=OQ scope (cQ X.env scope.names []) C X.env
 outer:=X.stack
 stack:=X.stack
 ex:=fp
 fn:=fun _=>false
 calm:=X.calm
 pn:=[]
 xe:=fun _ _=>False
theorem jm{scope:Scope}{env:Env}{x:Str}{k:Lh}(h:(relabel scope env).names.lookup x=some k):scope.names.lookup x=some k\/(k=.cell/\scope.names.lookup x=some .free):=by
 have go:∀ns:List (Str×Lh),(ns.map fun(n,k)=>if(k==LX&&env.scope.kind== .function&&env.kindOf n==some .cell)then(n,N5)else(n,k)).lookup x=some k->
   ns.lookup x=some k\/(k=.cell/\ns.lookup x=some .free):=by
  intro ns
  induction ns with
  |nil=>intro q;simp at q
  |cons y r ih=>
   obtain⟨n,k'⟩:=y;intro q;rw[KL]at q;by_cases hc:(k'==LX&&env.scope.kind== .function&&env.kindOf n==some .cell)=true
   ·simp only[hc,if_true]at q
    have hk':k'=.free:=by
     have:=(LI _ _▸hc);have h1:=(LI _ _▸this.1);exact eq_of_beq h1.1
    subst hk';rw[Ld]at q ⊢;cases e:x==n with
    |true=>
     rw[e]at q;cases q;exact .inr ⟨rfl,rfl⟩
    |false=>
     rw[e]at q;exact ih q
   ·simp only[hc]at q
    rw[if_neg (by simp)]at q;rw[Ld]at q ⊢;cases e:x==n with
    |true=>rw[e]at q;exact .inl q
    |false=>rw[e]at q;exact ih q
 exact go scope.names h
theorem pM{scope:Scope}{env:Env}{x:Str}(h:scope.names.lookup x=some .free):(relabel scope env).names.lookup x=some .cell\/(relabel scope env).names.lookup x=some .free:=by
 have go:∀ns:List (Str×Lh),ns.lookup x=some .free->
   (ns.map fun(n,k)=>if(k==LX&&env.scope.kind== .function&&env.kindOf n==some .cell)then(n,N5)else(n,k)).lookup x=some .cell\/
   (ns.map fun(n,k)=>if(k==LX&&env.scope.kind== .function&&env.kindOf n==some .cell)then(n,N5)else(n,k)).lookup x=some .free:=by
  intro ns
  induction ns with
  |nil=>intro q;simp at q
  |cons y r ih=>
   obtain⟨n,k'⟩:=y;intro q;rw[KL];rw[Ld]at q;cases e:x==n with
   |true=>
    rw[e]at q;cases q;by_cases hc:(LX==LX&&env.scope.kind== .function&&env.kindOf n==some .cell)=true
    ·simp only[hc,if_true]
     rw[Ld,e];exact .inl rfl
    ·simp only[hc]
     rw[if_neg (by simp),Ld,e];exact .inr rfl
   |false=>
    rw[e]at q;have z:=ih q;by_cases hc:(k'==LX&&env.scope.kind== .function&&env.kindOf n==some .cell)=true
    ·simp only[hc,if_true]
     rw[Ld,e];exact z
    ·simp only[hc]
     rw[if_neg (by simp),Ld,e];exact z
 exact go scope.names h
theorem Inv.gone{X:Cx}{pins:List (Addr×Obj)}{σ σ₂:St}{H H₂:Hp}{s s₂:Shared}{C:Addr}{h'':Heap}(I:Inv X pins σ H s)(I2:Inv X pins σ₂ H₂ s₂)(hC:s₂.heap.objs.size<=C)(hn:H C=none)(hs:KJ C s.heap h''):Inv X pins σ H { s with heap:=h'' }:=
 I.turned (t':=s.toks) (it:=C) (fun b o hb e=>hs.extBut b o hb e) hn (Mz (KI I2.lt hC)) (.inr (K4 I2.sz hC))
  (fun x c e=>by
   obtain⟨v,o,ho,_⟩:=I2.cell x c e;exact kY (Ko ho) hC) fun q hq=>kY (Ko (I2.pin q hq).1) hC
noncomputable def PTL(X:Cx)(ifs:List Expr)(t:TT):Prop:=
 ∀(pins:List (Addr×Obj))(s:Shared)(σ:St)(H:Hp)(Q:Bool->Hp->Prop),Inv X pins σ H s->t σ H Q->
  wpAny (model X.prog X.w) X.A (forIn ifs true fun c r=>if r=true then do let ok <-isTrue c X.env (eval c X.env);pure (NC ok)else pure (NC r)) (TP X pins σ Q) X.xe s
noncomputable def bM:TT:=fun _ H Q=>Q true H
theorem bV{X:Cx}:PTL X [] bM:=fun _ _ _ H _ I h=>wpAny_tests_nil ⟨H,I,h⟩
theorem qB{X:Cx}{c:Expr}{t:TT}(h:PT X c t):PTL X [c] t:=fun pins s σ H Q I q=>wpAny_tests_one (h pins s σ H Q I q)
noncomputable def cB(J:It)(g:TG)(tt:TT)(te:TE)(σ₀:St)(p:Addr)(Q:VK)(W:Nat->Nat->List V->Hp->Prop):Prop:=
 ∀i m acc H,W i m acc H->H p=some (.lst acc)/\
  ((J.stop i H/\Q (.ref p) H)\/(J.go i H/\acc.length<Kw/\∃N:List V->Hp->Prop,(∀acc' H',N acc' H'->∃m',m'<m/\W (i+1) m' acc' H')/\
   ∀x H1,J.yld i H x H1->g x σ₀ H1 fun σ2 H2=>tt σ2 H2 fun b H3=>if b=true then te σ2 H3 fun y H4=>H4 p=some (.lst acc)/\N (acc++[y]) (upd H4 p (.lst (acc++[y])))else N acc H3))
noncomputable abbrev CF(α:Type):=Addr->Shared->Hp->List Addr->α
noncomputable def cc(wi:TI)(g:CF TG)(tt:CF TT)(te:CF TE)(ix:List (Option Nat)):TE:=fun σ H Q=>wi σ H fun J H1=>∀p,H1 p=none->
 ∃W:Nat->Nat->List V->Hp->Prop,(∃m,W 0 m [] (upd H1 p (.lst [])))/\∀C s' H' fp,cB J (g C s' H' fp) (tt C s' H' fp) (te C s' H' fp) (sub ix σ) p Q W
section
variable{X:Cx}{elt tg iter:Expr}{ifs:List Expr}{scope sc:Scope}{pos:Pos}{NX N:List Str}{ix:List (Option Nat)}{wi:TI}{g:CF TG}{tt:CF TT}{te:CF TE}
theorem wA{prog:Program}{w:World}{A:Around}{R:Result->Shared->Prop}{s:Shared}{it acc:Value}{env:Env}(I:Nat->Shared->Prop)
  (turn:∀n s,I n s->wpAny (model prog w) A (pyNext it) (fun r s₁=>match r with
   |none=>R (.ok .next) s₁
   |some v=>wpAny (model prog w) A (O0 tg it v) (fun _ s₁'=>wpAny (model prog w) A (assign tg env v) (fun _ s₂=>
     wpAny (model prog w) A (forIn ifs true fun c r=>if r=true then do let ok <-isTrue c env (eval c env);pure (NC ok)else pure (NC r)) (fun ok s₃=>
      if ok=true then wpAny (model prog w) A (eval elt env) (fun x s₄=>
       wpAny (model prog w) A (call (.builtin "list.append") [acc,x]) (fun _ s₅=>∃m,m<n/\I m s₅) (fun _ _=>False) s₄) (fun _ _=>False) s₃
      else∃m,m<n/\I m s₃) (fun _ _=>False) s₂) (fun _ _=>False) s₁') (fun _ _=>False) s₁) (fun _ _=>False) s)
  (n:Nat) (h:I n s):codeAny (model prog w) A (.compLoop (.ListComp elt [⟨tg,iter,ifs,0⟩] scope pos) 0 it acc env) R s:=by
 refine codeAny_loop rfl I (fun n s hI=>?_) n h;show wpAny _ A ((compTurn (.ListComp elt [⟨tg,iter,ifs,0⟩] scope pos) 0 it acc env).onRaise (fun x=>do noteFrame x env;theTreesLotGoes x)) _ _ s;refine wpAny_noted ?_;rw[compTurn_list];refine Kg (Rm (Kg (LM (turn n s hI) (fun r s₁ h₁=>?_) fun _ _ z=>z.elim)));cases r with
 |none=>exact Ki h₁
 |some v=>
  refine Kg (LM h₁ (fun _ s₁' h₁'=>?_) fun _ _ z=>z.elim);refine Kg (LM h₁' (fun _ s₂ h₂=>Kg (LM h₂ (fun ok s₃ h₃=>?_) fun _ _ z=>z.elim)) fun _ _ z=>z.elim);cases ok with
  |false=>exact Ki ⟨rfl,h₃⟩
  |true=>exact Kg (Kg (LM h₃ (fun x s₄ h₄=>Kg (LM h₄ (fun _ s₅ h₅=>Ki (Ki ⟨rfl,h₅⟩)) fun _ _ z=>z.elim)) fun _ _ z=>z.elim))
theorem tJ{pins:List (Addr×Obj)}{σ:St}{H:Hp}{s:Shared}{fp:List Addr}{it:Addr}{J:It}{tn:Nat->Heap->Prop}{Q:VK}{E:Value->Shared->Prop}{RR:Value->Addr->Result->Shared->Prop}
  (hc:X.calm=true) (hsc:X.env.scope=sc) (hNX:X.N=NX) (S:pL sc scope NX N ix)
  (hg:∀C s H fp,PG (cq X N scope C s H fp) tg (g C s H fp)) (ht:∀C s H fp,PTL (cq X N scope C s H fp) ifs (tt C s H fp)) (he:∀C s H fp,PE (cq X N scope C s H fp) elt (te C s H fp))
  (I:Inv X pins σ H s) (T:pE X.prog X.w X.K tg J fp it tn) (st:tn 0 s.heap) (hf:∀b∈fp,jl X pins H b)
  (hq:∀p,H p=none->∃W:Nat->Nat->List V->Hp->Prop,(∃m,W 0 m [] (upd H p (.lst [])))/\∀C s' H' fp,cB J (g C s' H' fp) (tt C s' H' fp) (te C s' H' fp) (sub ix σ) p Q W)
  (hR:∀p C s' H' m,s.heap.objs.size<=p->s.heap.objs.size<=C->s'.heap.Ns C m->H' C=none->Q (.ref p) H'->Inv X pins σ H' s'->RR (.ref p) C (.ok .next) s'):
  wpAny (model X.prog X.w) X.A (newList []) (fun acc s₃=>wpAny (model X.prog X.w) X.A (Pk scope X.env.globals (cQ X.env scope.names []) [] X.env.qual none .none (some X.env)) (fun cenv s₄=>
   codeAny (model X.prog X.w) X.A (.compStart (.ListComp elt [⟨tg,iter,ifs,0⟩] scope pos) 0 (.ref it) acc { cenv with scope:=relabel scope X.env }) (RR acc cenv.locals) s₄) E s₃) E s:=by
 refine Lu (wpAny_newFunctionEnv S.nocell (by intro y hy;simp at hy) (fun h₁ hns₁ hsb₁=>?_) S.kind);dsimp only at hns₁ hsb₁ ⊢;have hsz:(s.heap.push { cls:=.type "list",dict:=none,data:=.seq ([]:List Value).toArray }).objs.size=s.heap.objs.size+1:=K9 ..;generalize hC:(s.heap.push { cls:=.type "list",dict:=none,data:=.seq ([]:List Value).toArray }).objs.size=C at hns₁ hsb₁ ⊢;rw[hsz]at hC;generalize hp:s.heap.objs.size=p at hC;have pC:p≠C:=by omega
 have old:∀b o,s.heap.get? b=some o->h₁.get? b=some o:=fun b o e=>hsb₁.extBut b o (kY (Ko e) (by omega)) (Kh _ (Kh _ e));have hnew:h₁.get? p=some { cls:=.type "list",data:=.seq ([]:List Value).toArray }:=hsb₁.extBut _ _ pC (Kh _ (by rw[<-hp];exact Kt _ rfl));have hfp:H p=none:=I.hok.fresh (by omega);have hfC:H C=none:=I.hok.fresh (by omega);have lt:∀b∈fp,b<p:=fun b hb=>by
  obtain⟨o,e,_⟩:=T.obj 0 _ st b hb;rw[<-hp];exact Ko e
 have hcells:∀y∈scope.names,y.2=.free->∃c,X.env.cells.lookup y.1=some c:=fun y hy hk=>by
  refine I.ok.has y.1 ?_;show X.env.scope.names.lookup y.1=some .cell\/X.env.scope.names.lookup y.1=some .free;rw[hsc];exact S.free y hy hk
 have noown:∀x,scope.names.lookup x≠some .cell:=fun x e=>S.nocell _ (Lb e) rfl;have hok:(cq X N scope C s H fp).Ok:=by
  refine⟨I.ok.mod,S.kind,I.ok.glob,I.ok.blt,by show s.heap.objs.size<=C;omega,fun x y c h1 h2=>I.ok.inj x y c (b7 h1) (b7 h2),fun x hx=>?_,fun x c z=>(by cases z),I.ok.hd,I.ok.frames,.inl rfl,fun b hb=>?_,I.bs,K4 I.ok.bsz I.sz,fun b o e hb=>?_,fun b hb z=>?_,I.stack,I.stkFree⟩
  ·have hx':scope.names.lookup x=some .free:=by
    rcases hx with hx|hx
    ·rcases jm hx with q|q
     ·exact absurd q (noown x)
     ·exact q.2
    ·rcases jm hx with q|q
     ·exact q
     ·exact q.2
   obtain⟨c,hc'⟩:=hcells _ (Lb hx') rfl;exact⟨c,mF (Lb hx') hc'⟩
  ·refine⟨?_,fun x c e=>(hf b hb).2.2.2.2.1 x c (b7 e)⟩
   show b≠C;exact kY (lt b hb) (by omega)
  ·rcases(hf b hb).2.2.2.1 with z|z
   ·exact I.ok.noex b o e z
   ·exact absurd (KI (Ko e) (K4 I.ok.bsz z)) (Lz _)
  ·rcases Kq.mp (I.stkSub b z)with q|q
   ·exact(hf b hb).2.1 q
   ·exact(hf b hb).2.2.1 q
 have locs:∀h':Heap,(∀x c o,X.env.cells.lookup x=some c->s.heap.get? c=some o->∃sl,h'.get? c=some { o with slots:=sl })->
   ∀(i:Nat)(x:Str)(v:V),N[i]?=some x->(sub ix σ)[i]?=some (some v)->∃u,aI v u/\∀m,Ei (OQ scope (cQ X.env scope.names []) C X.env) h' m x u:=by
  intro h' hk i x v h1 h2;obtain⟨k,hk',hv⟩:∃k,ix[i]?=some (some k)/\σ[k]?=some (some v):=by
   unfold sub at h2;rw[Kz]at h2;cases e:ix[i]? with
   |none=>rw[e]at h2;cases h2
   |some o=>
    rw[e]at h2;cases o with
    |none=>cases h2
    |some k=>
     refine⟨k,rfl,?_⟩;have h2':(match σ[k]? with|some v=>v|none=>none)=some v:=KA h2;cases e2:σ[k]? with
     |none=>rw[e2]at h2';cases h2'
     |some z=>
      rw[e2]at h2';rw[show z=some v from h2']
  have hm:(x,some k)∈N.zip ix:=by
   refine Ky (i:=i) ?_;rw[Nc];exact⟨h1,hk'⟩
  obtain⟨a1,a2⟩:=S.at_ _ hm k (by simp);have hX:=S.free _ (Lb a2) rfl;have hvis:Vis X.env.scope x:=by
   show _\/_\/_;rw[hsc];exact .inr hX
  obtain⟨m,hn,hl⟩:=I.loc;obtain⟨u,r,l⟩:=hl k x v (by rw[hNX];exact a1) hv hvis;refine⟨u,r,fun m'=>.inr ⟨pM a2,?_⟩⟩;rcases l with⟨l,_⟩|⟨_,c,e,z⟩
  ·have l':X.env.scope.names.lookup x=some .local:=l
   rw[hsc]at l';rcases hX with q|q<;>(rw[q]at l';cases l')
  ·obtain⟨o,ho,hd⟩:=z
   obtain⟨sl,e'⟩:=hk x c o e ho;exact⟨c,mF (Lb a2) e,_,e',hd⟩
 have hlen:(sub ix σ).length=N.length:=by
  unfold sub;rw[Kk];exact S.len
 have I1:Inv (cq X N scope C s H fp) [] (sub ix σ) (upd H p (.lst [])) { s with heap:=h₁,toks:=s.toks+([]:List (Str×Value)).length }:=by
  refine⟨hok,rfl,I.bare,Un.laid old (Nk hp) hfp,⟨_,hns₁,fun i x v h1 h2 h3=>?_⟩,fun x c e=>?_,?_,fun x c e=>?_,fun q hq=>(nomatch hq),I.hok.laid old (Nk hp) ⟨Lk _,[],0,.nil,hnew⟩,hlen⟩
  ·obtain⟨u,r,l⟩:=locs h₁ (fun y c o _ ho=>⟨o.slots,old c o ho⟩) i x v h1 h2
   exact⟨u,r,l _⟩
  ·obtain⟨v,o,ho,hd⟩:=I.cell x c (b7 e)
   exact⟨v,o,old c o ho,hd⟩
  ·show upd H p _ C=none
   rw[aM (LK pC)];exact hfC
  ·have e':=b7 e
   obtain⟨v,o,ho,hd⟩:=I.cell x c e';rw[aM (kY (Ko ho) (Nk hp))];exact I.freeC x c e'
 have back:∀{pl:List (Addr×Obj)} {σ':St} {H':Hp} {s':Shared},Inv (cq X N scope C s H fp) pl σ' H' s'->Inv (cq X N scope C s H fp) pl (sub ix σ) H' s':=fun{pl σ' H' s'} J=>by
  obtain⟨m,hn,_⟩:=J.loc;refine⟨J.ok,J.os,J.bare,J.base,⟨m,hn,fun i x v h1 h2 h3=>?_⟩,J.cell,J.free,J.freeC,J.pin,J.hok,hlen⟩;obtain⟨u,r,l⟩:=locs s'.heap (fun y c o hc' ho=>J.base.any ho (I.freeC y c hc') fun hb=>(hf c hb).2.2.2.2.1 y c hc' rfl) i x v h1 h2;exact⟨u,r,l _⟩
 obtain⟨W,⟨m0,w0⟩,turn⟩:=hq p hfp;have st1:tn 0 h₁:=T.keep 0 _ _ st fun b _ o e=>old b o e;have fp1:∀{H':Hp},(∀b∈fp,H' b=none)->∀b∈fp,jl (cq X N scope C s H fp) [] H' b:=fun{H'} hn b hb=>
  ⟨hn b hb,(hok.exf b hb).1,hok.exfs b hb,.inl hb,(hok.exf b hb).2,fun q hq=>(nomatch hq)⟩
 have loop:codeAny (model X.prog X.w) X.A (.compLoop (.ListComp elt [⟨tg,iter,ifs,0⟩] scope pos) 0 (.ref it) (.ref p) (OQ scope (cQ X.env scope.names []) C X.env)) (RR (.ref p) C) { s with heap:=h₁,toks:=s.toks+([]:List (Str×Value)).length }:=by
  refine wA (fun n s'=>∃i acc H',Inv (cq X N scope C s H fp) [] (sub ix σ) H' s'/\tn i s'.heap/\(∀b∈fp,H' b=none)/\W i n acc H') ?_ m0
   ⟨0,[],_,I1,st1,fun b hb=>by rw[aM (kY (lt b hb) (Km _))];exact(hf b hb).1,w0⟩
  rintro n s3 ⟨i,acc,H3,I3,st3,fr3,w3⟩;obtain⟨hacc,w4⟩:=turn C s H fp i n acc H3 w3;rcases w4 with⟨stop,qn⟩|⟨go,hln,N',hN',step⟩
  ·refine thn (T.done (cq X N scope C s H fp) rfl rfl rfl hc i [] s3 _ H3 (fun _ _=>False) I3 (fp1 fr3) st3 stop) fun r s4 ⟨hr,I4⟩=>?_
   subst hr;obtain⟨m,hn,_⟩:=I4.loc;refine hR p C s4 H3 m (by omega) (by omega) hn I4.free qn ?_;exact I.call' I4.os I4.base I4.hok I4.bare fun b hb=>⟨(hf b hb).2.2.2.1,(hf b hb).2.1,(hf b hb).2.2.2.2.1,(hf b hb).2.2.2.2.2⟩
  ·refine thn (T.item (cq X N scope C s H fp) rfl rfl rfl hc i [] s3 _ H3 (fun _ _=>False) I3 (fp1 fr3) st3 go) fun r s4 ⟨u,hr,h4⟩=>?_
   subst hr;refine thn h4 fun _ s5 ⟨x,H5,I5,r5,y5,st5,fr5⟩=>?_;have I5':=I5.pinned (fp1 fr5) (T.obj _ _ st5);refine thn (hg C s H fp _ s5 _ H5 x u _ I5' r5 (step x H5 y5)) fun _ s6 ⟨σ6,H6,I6,q6⟩=>?_;have later:∀{s7:Shared} {H7:Hp} {acc':List V} {σ7:St},Inv (cq X N scope C s H fp) ([]++nB fp s5.heap) σ7 H7 s7->(∃m',m'<n/\W (i+1) m' acc' H7)->
     ∃m,m<n/\∃i acc H',Inv (cq X N scope C s H fp) [] (sub ix σ) H' s7/\tn i s7.heap/\(∀b∈fp,H' b=none)/\W i m acc H':=fun{s7 H7 acc' σ7} I7 ⟨m',hm,w7⟩=>by
    refine⟨m',hm,i+1,acc',H7,back (I7.unpinned (pins:=[])),T.keep _ _ _ st5 fun b hb o e=>(I7.pin (b,o) (K5 _ (K5 _ (gK hb e)))).1,fun b hb=>?_,w7⟩;obtain⟨o,e,d⟩:=T.obj _ _ st5 b hb;exact(I7.pin (b,o) (K5 _ (K5 _ (gK hb e)))).2.1
   refine thn (ht C s H fp _ s6 σ6 H6 _ I6 q6) fun ok s7 ⟨H7,I7,q7⟩=>?_;cases ok with
   |false=>exact later I7 (hN' _ _ q7)
   |true=>
    refine thn (he C s H fp _ s7 σ6 H7 _ I7 q7) fun y s8 ⟨v8,H8,I8,r8,hacc8,w8⟩=>?_;refine thn (kJ (X:=cq X N scope C s H fp) _ s8 σ6 H8 (.ref p) [v8] (.ref p) [y] (fun _ H9=>H9=upd H8 p (.lst (acc++[v8]))) I8 rfl (.cons r8 .nil) ⟨p,acc,v8,rfl,rfl,hacc8,hln,rfl⟩) fun _ s9 ⟨_,H9,I9,_,e9⟩=>?_;subst e9;exact later I9 (hN' _ _ w8)
 exact QN loop (T.self _ 0 _ _ _ st1 loop)
theorem bK(hc:X.calm=true)(S:pL sc scope NX N ix)(hi:PI X tg iter wi)
  (hg:∀C s H fp,PG (cq X N scope C s H fp) tg (g C s H fp)) (ht:∀C s H fp,PTL (cq X N scope C s H fp) ifs (tt C s H fp)) (he:∀C s H fp,PE (cq X N scope C s H fp) elt (te C s H fp))
  (hsc:X.env.scope=sc:=by rfl) (hNX:X.N=NX:=by rfl) (hs:∀x,OB iter X.env x=pure x:=by intro _;rfl):
  PE X (.ListComp elt [⟨tg,iter,ifs,0⟩] scope pos) (cc wi g tt te ix):=by
 intro pins s σ H Q I h;rw[eval_ListComp];have hcells:P4 scope X.env=pure (cQ X.env scope.names []):=nX fun y hy hk=>by
  refine I.ok.has y.1 ?_;show X.env.scope.names.lookup y.1=some .cell\/X.env.scope.names.lookup y.1=some .free;rw[hsc];exact S.free y hy hk
 refine Ol (use:=none) rfl hs hcells S.kind S.names (thn (hi pins s σ H _ I h) fun v s1 h1=>thn h1 fun itv s2 h2=>?_);obtain⟨it,fp,tn,J,H2,e,I2,T,st2,f2,hq⟩:=h2;subst e;refine tJ (Q:=Q) (RR:=fun acc C=>compPost (model X.prog X.w) X.A X.xe none (EP X pins σ Q) acc C) hc hsc hNX S hg ht he I2 T st2 f2 hq ?_;intro p C s' H' m hp hC hn hfree q I';exact⟨m,hn,fun h'' hs''=>⟨.ref p,H',I'.gone I2 hC hfree hs'',rfl,q⟩⟩
theorem A8{i:Nat}{y:Str}{py spos:Pos}(hN:X.N.Nodup)(hy:X.N[i]?=some y)(hl:X.env.scope.names.lookup y=some .local)(hc:X.calm=true)(S:pL sc scope NX N ix)(hi:PI X tg iter wi)
  (hg:∀C s H fp,PG (cq X N scope C s H fp) tg (g C s H fp)) (ht:∀C s H fp,PTL (cq X N scope C s H fp) ifs (tt C s H fp)) (he:∀C s H fp,PE (cq X N scope C s H fp) elt (te C s H fp))
  (hsw:Qz (.ListComp elt [⟨tg,iter,ifs,0⟩] scope pos) (some (.Name y py)) spos.line X.env=pure true:=by rfl)
  (hsc:X.env.scope=sc:=by rfl) (hNX:X.N=NX:=by rfl) (hs:∀x,OB iter X.env x=pure x:=by intro _;rfl):
  PS X (.Assign [.Name y py] (.ListComp elt [⟨tg,iter,ifs,0⟩] scope pos) spos) (aK (cc wi g tt te ix) (ao i)):=by
 intro pins s σ H D I h;rw[exec_Assign_Name_used _ _ _ _ hsw];have hcells:P4 scope X.env=pure (cQ X.env scope.names []):=nX fun z hz hk=>by
  refine I.ok.has z.1 ?_;show X.env.scope.names.lookup z.1=some .cell\/X.env.scope.names.lookup z.1=some .free;rw[hsc];exact S.free z hz hk
 refine Kg (Rm (Kg ?_));show wpAny _ X.A (do let _ <-comprehension (.ListComp elt [⟨tg,iter,ifs,0⟩] scope pos) scope X.env _ (newList []) false (eval iter X.env) (some (assign (.Name y py) X.env))) _ _ s;refine Kg (thn (Ol (use:=some (assign (.Name y py) X.env)) (Q:=fun _ s'=>SP X pins D .next s') rfl hs hcells S.kind S.names (thn (hi pins s σ H _ I h) fun v s1 h1=>thn h1 fun itv s2 h2=>?_)) fun _ s' q=>Ki (Ki q));obtain⟨it,fp,tn,J,H2,e,I2,T,st2,f2,hq⟩:=h2;subst e;refine tJ (Q:=fun x H1=>ao i x σ H1 D.nx) (RR:=fun acc C=>compPost (model X.prog X.w) X.A X.xe (some (assign (.Name y py) X.env)) (fun _ s'=>SP X pins D .next s') acc C) hc hsc hNX S hg ht he I2 T st2 f2 hq ?_;intro p C s' H' m hp hC hn hfree q I';refine R3 (pj (v:=.ref p) I' hN hy (.inl hl) rfl (fun s'' I'' ⟨a,hsb,ha⟩=>?_) (.inr hl));have ne:C≠a:=by
  rcases ha with rfl|ha
  ·exact Mz (KI I2.lt hC)
  ·obtain⟨v,o,ho,_⟩:=I2.cell y a ha
   exact Mz (KI (Ko ho) hC)
 exact⟨m,hn.sameBut hsb ne,fun h'' hs''=>⟨_,H',I''.gone I2 hC hfree hs'',q⟩⟩
end
section
variable{g:CF TG}{tt:CF TT}{te:CF TE}{σ₀:St}{p:Addr}{Q:VK}{H:Hp}
theorem nE{J:It}{n:Nat}{Y:Nat->Hp->V->Hp->Prop}(Pv:Nat->List V->Hp->Prop)(h0:Pv 0 [] (upd H p (.lst [])))(hp:∀i acc H,i<=n->Pv i acc H->H p=some (.lst acc)/\acc.length<=i)(hz:n<=Kw)
  (hgo:∀i acc H,i<n->Pv i acc H->J.go i H) (hst:∀acc H,Pv n acc H->J.stop n H) (hy:∀i acc H x H1,i<n->Pv i acc H->J.yld i H x H1->Y i H x H1)
  (hs:∀C s' H' fp,∀i x acc H H1,i<n->Pv i acc H->Y i H x H1->g C s' H' fp x σ₀ H1 fun σ2 H2=>tt C s' H' fp σ2 H2 fun b H3=>if b=true then te C s' H' fp σ2 H3 fun y H4=>H4 p=some (.lst acc)/\Pv (i+1) (acc++[y]) (upd H4 p (.lst (acc++[y])))else Pv (i+1) acc H3)
  (hd:∀acc H,Pv n acc H->Q (.ref p) H):
  ∃W:Nat->Nat->List V->Hp->Prop,(∃m,W 0 m [] (upd H p (.lst [])))/\∀C s' H' fp,cB J (g C s' H' fp) (tt C s' H' fp) (te C s' H' fp) σ₀ p Q W:=by
 refine⟨fun i m acc H=>m=n-i/\i<=n/\Pv i acc H,⟨n,by simp,Lk _,h0⟩,?_⟩;rintro C s' H' fp i m acc H ⟨rfl,hi,w⟩;obtain⟨h1,h2⟩:=hp i acc H hi w;refine⟨h1,?_⟩;by_cases hlt:i<n
 ·exact .inr ⟨hgo i acc H hlt w,by omega,Pv (i+1),fun acc' H' q=>⟨n-(i+1),by omega,rfl,hlt,q⟩,fun x H1 y=>hs C s' H' fp i x acc H H1 hlt w (hy i acc H x H1 hlt w y)⟩
 ·have e:i=n:=by omega
  subst e;exact .inl ⟨hst acc H w,hd acc H w⟩
theorem wB{K:Fg}{a:Addr}{xs:List V}(Pv:Nat->List V->Hp->Prop)(h0:Pv 0 [] (upd H p (.lst [])))(hp:∀i acc H,i<=xs.length->Pv i acc H->H p=some (.lst acc)/\acc.length<=i)(hl:∀i acc H,i<=xs.length->Pv i acc H->SqL K H a xs)(hz:xs.length<=Kw)
  (hs:∀C s' H' fp,∀i x acc H,xs[i]?=some x->Pv i acc H->g C s' H' fp x σ₀ H fun σ2 H2=>tt C s' H' fp σ2 H2 fun b H3=>if b=true then te C s' H' fp σ2 H3 fun y H4=>H4 p=some (.lst acc)/\Pv (i+1) (acc++[y]) (upd H4 p (.lst (acc++[y])))else Pv (i+1) acc H3)
  (hd:∀acc H,Pv xs.length acc H->Q (.ref p) H):
  ∃W:Nat->Nat->List V->Hp->Prop,(∃m,W 0 m [] (upd H p (.lst [])))/\∀C s' H' fp,cB (Itl K a) (g C s' H' fp) (tt C s' H' fp) (te C s' H' fp) σ₀ p Q W:=
 nE (Y:=fun i H x H1=>H1=H/\xs[i]?=some x) Pv h0 hp hz (fun i acc H hi w=>⟨xs,xs[i],hl i acc H (Lp hi) w,by simp[hi]⟩) (fun acc H w=>⟨xs,hl _ acc H (Km _) w,Km _⟩)
  (fun i acc H x H1 hi w y=>⟨y.1,y.2 xs (hl i acc H (Lp hi) w)⟩) (fun C s' H' fp i x acc H H1 hi w y=>by
   obtain⟨e,y⟩:=y;subst e;exact hs C s' H' fp i x acc _ y w) hd
theorem Ew{K:Fg}{a:Addr}{xs:List V}(Pv:Nat->List V->Hp->Prop)(h0:Pv 0 [] (upd H p (.lst [])))(hp:∀i acc H,i<=xs.length->Pv i acc H->H p=some (.lst acc)/\acc.length<=i)(hl:∀i acc H,i<=xs.length->Pv i acc H->SqT K H a xs)(hz:xs.length<=Kw)
  (hs:∀C s' H' fp,∀i x acc H,xs[i]?=some x->Pv i acc H->g C s' H' fp x σ₀ H fun σ2 H2=>tt C s' H' fp σ2 H2 fun b H3=>if b=true then te C s' H' fp σ2 H3 fun y H4=>H4 p=some (.lst acc)/\Pv (i+1) (acc++[y]) (upd H4 p (.lst (acc++[y])))else Pv (i+1) acc H3)
  (hd:∀acc H,Pv xs.length acc H->Q (.ref p) H):
  ∃W:Nat->Nat->List V->Hp->Prop,(∃m,W 0 m [] (upd H p (.lst [])))/\∀C s' H' fp,cB (Itt K a) (g C s' H' fp) (tt C s' H' fp) (te C s' H' fp) σ₀ p Q W:=
 nE (Y:=fun i H x H1=>H1=H/\xs[i]?=some x) Pv h0 hp hz (fun i acc H hi w=>⟨xs,xs[i],hl i acc H (Lp hi) w,by simp[hi]⟩) (fun acc H w=>⟨xs,hl _ acc H (Km _) w,Km _⟩)
  (fun i acc H x H1 hi w y=>⟨y.1,y.2 xs (hl i acc H (Lp hi) w)⟩) (fun C s' H' fp i x acc H H1 hi w y=>by
   obtain⟨e,y⟩:=y;subst e;exact hs C s' H' fp i x acc _ y w) hd
theorem tK{lo:Int}{n:Nat}(Pv:Nat->List V->Hp->Prop)(h0:Pv 0 [] (upd H p (.lst [])))(hp:∀i acc H,i<=n->Pv i acc H->H p=some (.lst acc)/\acc.length<=i)(hz:n<=Kw)
  (hs:∀C s' H' fp,∀i acc H,i<n->Pv i acc H->g C s' H' fp (.int (lo+i)) σ₀ H fun σ2 H2=>tt C s' H' fp σ2 H2 fun b H3=>if b=true then te C s' H' fp σ2 H3 fun y H4=>H4 p=some (.lst acc)/\Pv (i+1) (acc++[y]) (upd H4 p (.lst (acc++[y])))else Pv (i+1) acc H3)
  (hd:∀acc H,Pv n acc H->Q (.ref p) H):
  ∃W:Nat->Nat->List V->Hp->Prop,(∃m,W 0 m [] (upd H p (.lst [])))/\∀C s' H' fp,cB (Itr lo n) (g C s' H' fp) (tt C s' H' fp) (te C s' H' fp) σ₀ p Q W:=
 nE (Y:=fun i H x H1=>H1=H/\x=.int (lo+i)) Pv h0 hp hz (fun i acc H hi w=>hi) (fun acc H w=>Km _) (fun i acc H x H1 hi w y=>y) (fun C s' H' fp i x acc H H1 hi w y=>by
   obtain⟨e,e2⟩:=y;subst e e2;exact hs C s' H' fp i acc _ hi w) hd
end
end
section
open PySem.Spec
section
variable{prog:Program}{w:World}{A:Around}{E:Value->Shared->Prop}{s:Shared}
theorem tL{jt t:Addr}{i:Nat}{its:Array Value}{y:Value}{Q:Value->Shared->Prop}(h1:s.heap.IsTupleIter jt t i)(h2:s.heap.IsTuple t its)(hy:its[i]?=some y)
  (k:∀h',h'.IsTupleIter jt t (i+1)->KJ jt s.heap h'->Q y { s with heap:=h' }):wpAny (model prog w) A (Lg (.ref jt)) Q E s:=by
 obtain⟨o,ho,hc,hd⟩:=id h1;obtain⟨ot,hot,_,nt,hdt⟩:=h2;unfold Lg;refine Kg (Lm (name:=Mo "__next__") h1.typeIs M5 (Lc M5 h1.typeIs Pw ?_ (Pl _)));show wpAny _ _ (field (.ref jt) 0>>=_) _ _ s;refine Kg (Lx ho hd (x:=.ref t) rfl ?_);show wpAny _ _ (if(KY t==LL)=true then _ else _) _ _ s;rw[if_neg (show¬((KY t==LL)=true)from Kv)];show wpAny _ _ (field (.ref jt) 1>>=_) _ _ s;refine Kg (Lx ho hd (x:=.int i 0) rfl ?_);show wpAny _ _ (seqItems? (.ref t)>>=_) _ _ s;refine Kg (LG hot hdt ?_);simp only[NO,hy];refine Kg (MS ho hd (by simp) (Ki ⟨y,rfl,Ki (k _ ?_ (Lo ..))⟩));exact⟨_,Ln _ ho (OT (MU hd _)),(PY ..).trans hc,by rw[MU hd];simp[rawInt]⟩
theorem vH{jt t:Addr}{i:Nat}{its:Array Value}{Q:Value->Shared->Prop}(hh:A.handled=none)(h1:s.heap.IsTupleIter jt t i)(h2:s.heap.IsTuple t its)(hy:its[i]?=none)
  (k:∀h' e,N9 jt s.heap h'->(∃o,h'.get? e=some o/\o.cls=.type "StopIteration")->E (.ref e) { s with heap:=h' }):wpAny (model prog w) A (Lg (.ref jt)) Q E s:=by
 obtain⟨o,ho,hc,hd⟩:=id h1;obtain⟨ot,hot,_,nt,hdt⟩:=h2;unfold Lg;refine Kg (Lm (name:=Mo "__next__") h1.typeIs M5 (Lc M5 h1.typeIs Pw ?_ (Pl _)));show wpAny _ _ (field (.ref jt) 0>>=_) _ _ s;refine Kg (Lx ho hd (x:=.ref t) rfl ?_);show wpAny _ _ (if(KY t==LL)=true then _ else _) _ _ s;rw[if_neg (show¬((KY t==LL)=true)from Kv)];show wpAny _ _ (field (.ref jt) 1>>=_) _ _ s;refine Kg (Lx ho hd (x:=.int i 0) rfl ?_);show wpAny _ _ (seqItems? (.ref t)>>=_) _ _ s;refine Kg (LG hot hdt ?_);simp only[NO,hy];refine Kg (MB (Kg (MS ho hd (by simp) ?_)));show wpAny _ _ (newExc (.type "StopIteration") []>>=_) _ _ _;refine Kg ?_;simp only[newExc,SC];refine Kg (Lu ?_ (by size_fits));refine Kg (m:=firstArgMember _ _) (QO (a:=LL) (by first|rfl| (simp only[firstArgMember];rfl)) ?_);refine Lu ?_ (by size_fits);simp only[raiseNew];refine Kg (Rq ?_)
 first|rw[show A.in1.handled=none from hh]|rw[hh]
 refine Kg (Ki (Sn ?_));exact k _ _ (((Lo ..).extBut.push _).push _) ⟨_,Kt _ rfl,rfl⟩
end
theorem zC{prog:Program}{w:World}{A:Around}(hh:A.handled=none)(jt t:Addr)(hne:t≠jt)(its:Array Value):
  Draws prog w A jt [jt,t] its.size (fun i v=>its[i]?=some v) (fun i h=>h.IsTupleIter jt t i/\h.IsTuple t its) where
 live:=fun _ _ st=>let⟨o,ho,_⟩:=st.1;⟨o,ho⟩
 frame:=fun _ _ _ st hk=>⟨st.1.at fun o e=>hk jt (by simp) o e,let⟨o,ho,r⟩:=st.2;⟨o,hk t (by simp) o ho,r⟩⟩
 item:=fun i s Q E hi st hQ=>tL st.1 st.2 (y:=its[i]) (by simp[hi]) fun h' a b=>hQ _ h' s.toks (by simp[hi]) ⟨a,st.2.extBut b.extBut hne⟩ b
 done:=fun s Q E st hE=>vH hh st.1 st.2 (by simp) hE
theorem Inv.offBase{X:Cx}{pins:List (Addr×Obj)}{σ:St}{H:Hp}{s:Shared}{c:Addr}{o:Obj}(I:Inv X pins σ H s)(f:jl X pins H c)(e:X.base.get? c=some o):False:=by
 rcases f.2.2.2.1 with z|z
 ·exact I.ok.noex c o e z
 ·exact absurd (KI (Ko e) (K4 I.ok.bsz z)) (Lz _)
set_option genInjectivity false in
structure Src where
 Sq:Fg->Hp->Addr->List V->Prop
 Is:Heap->Addr->Array Value->Prop
 It:Heap->Addr->Addr->Nat->Prop
 icls:String
 get:∀{X:Cx} {pins:List (Addr×Obj)} {σ:St} {H:Hp} {s:Shared} {a:Addr} {xs:List V},Inv X pins σ H s->Sq X.K H a xs->∃its:List Value,aG xs its/\Is s.heap a its.toArray/\xs.length<=Kw
 inj:∀{X:Cx} {pins:List (Addr×Obj)} {σ:St} {H:Hp} {s:Shared} {a:Addr} {xs ys:List V},Inv X pins σ H s->Sq X.K H a xs->Sq X.K H a ys->xs=ys
 off:∀{X:Cx} {pins:List (Addr×Obj)} {σ:St} {H:Hp} {s:Shared} {a c:Addr} {xs:List V},Inv X pins σ H s->Sq X.K H a xs->jl X pins H c->c≠a
 isSeq:∀{h:Heap} {a:Addr} {its:Array Value},Is h a its->∃o n,h.get? a=some o/\o.data=.seq its n
 isIt:∀{h:Heap} {jt a:Addr} {i:Nat},It h jt a i->∃o,h.get? jt=some o/\o.cls=.type icls/\o.data=.fields #[.ref a,.int i 0]
 mkI:∀{h:Heap} {jt a:Addr} {i:Nat} {o:Obj},h.get? jt=some o->o.cls=.type icls->o.data=.fields #[.ref a,.int i 0]->It h jt a i
 itKeep:∀{h h':Heap} {jt a:Addr} {i:Nat},It h jt a i->(∀o,h.get? jt=some o->h'.get? jt=some o)->It h' jt a i
 isKeep:∀{h h':Heap} {a:Addr} {its:Array Value},Is h a its->(∀o,h.get? a=some o->h'.get? a=some o)->Is h' a its
 draws:∀{prog:Program} {w:World} {A:Around},A.handled=none->∀(jt a:Addr),a≠jt->∀its:Array Value,Draws prog w A jt [jt,a] its.size (fun i v=>its[i]?=some v) (fun i h=>It h jt a i/\Is h a its)
 iter:∀{prog:Program} {w:World} {A:Around} {E:Value->Shared->Prop} {s:Shared} {a:Addr} {its:Array Value} {Q:Value->Shared->Prop},Is s.heap a its->
  Q (.ref s.heap.objs.size) { s with heap:=s.heap.push { cls:=.type icls,data:=.fields #[.ref a,.int 0 0] } }->wpAny (model prog w) A (pyIter (.ref a)) Q E s
noncomputable def bP:Src where
 Sq:=SqL
 Is:=fun h a its=>h.IsList a its
 It:=fun h jt a i=>h.IsListIter jt a i
 icls:="list_iterator"
 get:=fun I h=>let⟨its,r,p,z⟩:=I.list h;⟨its,r,p.isList,z⟩
 inj:=fun I h h'=>I.list_inj h h'
 off:=fun{X pins σ H s a c xs} I h f e=>by
  subst e;rcases h with(h|⟨o,h⟩)|⟨o,its,n,hk,_⟩
  ·rw[f.1]at h;cases h
  ·rw[f.1]at h;cases h
  ·exact I.offBase f (I.ok.mod.kin _ _ hk)
 isSeq:=fun h=>let⟨o,ho,_,n,hd⟩:=h;⟨o,n,ho,hd⟩
 isIt:=fun h=>h
 mkI:=fun h1 h2 h3=>⟨_,h1,h2,h3⟩
 itKeep:=fun h k=>h.at k
 isKeep:=fun h k=>h.at k
 draws:=fun hh jt a hne its=>Draws.list hh jt a hne its
 iter:=fun h q=>NN h q
noncomputable def iX:Src where
 Sq:=SqT
 Is:=fun h a its=>h.IsTuple a its
 It:=fun h jt a i=>h.IsTupleIter jt a i
 icls:="tuple_iterator"
 get:=fun I h=>let⟨its,r,p,z⟩:=I.tuple h;⟨its,r,p,z⟩
 inj:=fun I h h'=>I.tuple_inj h h'
 off:=fun{X pins σ H s a c xs} I h f e=>by
  subst e;rcases h with(h|⟨o,h⟩)|⟨o,its,n,hk,_⟩
  ·rw[f.1]at h;cases h
  ·rw[f.1]at h;cases h
  ·exact I.offBase f (I.ok.mod.kin _ _ hk)
 isSeq:=fun h=>let⟨o,ho,_,n,hd⟩:=h;⟨o,n,ho,hd⟩
 isIt:=fun h=>h
 mkI:=fun h1 h2 h3=>⟨_,h1,h2,h3⟩
 itKeep:=fun h k=>h.at k
 isKeep:=fun h k=>let⟨o,ho,r⟩:=h;⟨o,k o ho,r⟩
 draws:=fun hh jt a hne its=>zC hh jt a hne its
 iter:=fun h q=>RF h q
theorem Inv.turns{X:Cx}{pins:List (Addr×Obj)}{σ:St}{H:Hp}{s:Shared}{h':Heap}{t':Nat}{ch:List Addr}{T:Addr}{o:HO}(I:Inv X pins σ H s)(hf:∀b∈ch,jl X pins H b)
  (k:∀b ob,b∉ch->s.heap.get? b=some ob->h'.get? b=some ob) (hT:s.heap.objs.size<=T) (new:bE X.prog X.w (upd H T o) h' T o):Inv X pins σ (upd H T o) { s with heap:=h',toks:=t' }:=by
 have hn:H T=none:=I.hok.fresh hT;have nc:∀b u,H b=some u->b∉ch:=fun b u e z=>by
  have:=(hf b z).1;rw[e]at this;cases this
 refine I.step (g':=s.gens) (d':=s.drawn) (ch:=ch) (fun b hb=>⟨(hf b hb).2.2.2.1,(hf b hb).2.1,(hf b hb).2.2.2.2.1,(hf b hb).2.2.2.2.2⟩) (fun b ob _ _ hc e _=>k b ob hc e) (fun b ob _ _ hc e _=>⟨ob.slots,k b ob hc e⟩)
  (fun b ob _ e n=>?_) (fun b ob hc e=>⟨ob,k b ob hc e⟩) (fun b xs e=>?_) (fun b ob xs e=>?_) (fun b ps e=>⟨#[],?_⟩) (fun m hm=>?_) (fun b u e=>?_) I.bare
 ·rw[aM (kY (Ko e) hT)]
  exact n
 ·rw[aM (bd e hn)]
  exact e
 ·rw[aM (bd e hn)]
  exact e
 ·rw[aM (bd e hn),e]
  simp
 ·obtain⟨ob,es,ep,ho,r⟩:=hm
  exact⟨ob,es,ep,k _ ob (fun z=>(hf _ z).2.1 rfl) ho,r⟩
 ·by_cases hb:b=T
  ·subst hb
   rw[ay]at e;cases e;exact new
  ·rw[aM hb]at e
   refine(I.hok b u e).stay (fun c v hc q=>k c v ?_ q) (fun c q=>by rw[aM (bd q hn)];exact q) fun c xs q=>by rw[aM (bd q hn)];exact q
   rcases hc with z|z
   ·rw[z];exact nc b u e
   ·exact nc c _ z
theorem Inv.turnsN{X:Cx}{pins:List (Addr×Obj)}{σ:St}{H:Hp}{s:Shared}{h':Heap}{t':Nat}{ch:List Addr}(I:Inv X pins σ H s)(hf:∀b∈ch,jl X pins H b)
  (k:∀b ob,b∉ch->s.heap.get? b=some ob->h'.get? b=some ob):Inv X pins σ H { s with heap:=h',toks:=t' }:=by
 have nc:∀b u,H b=some u->b∉ch:=fun b u e z=>by
  have:=(hf b z).1;rw[e]at this;cases this
 refine I.step (g':=s.gens) (d':=s.drawn) (ch:=ch) (fun b hb=>⟨(hf b hb).2.2.2.1,(hf b hb).2.1,(hf b hb).2.2.2.2.1,(hf b hb).2.2.2.2.2⟩) (fun b ob _ _ hc e _=>k b ob hc e) (fun b ob _ _ hc e _=>⟨ob.slots,k b ob hc e⟩)
  (fun b ob _ e n=>n) (fun b ob hc e=>⟨ob,k b ob hc e⟩) (fun b xs e=>e) (fun b ob xs e=>e) (fun b ps e=>⟨#[],by rw[e];simp⟩) (fun m hm=>?_) (fun b u e=>?_) I.bare
 ·obtain⟨ob,es,ep,ho,r⟩:=hm
  exact⟨ob,es,ep,k _ ob (fun z=>(hf _ z).2.1 rfl) ho,r⟩
 ·refine(I.hok b u e).stay (fun c v hc q=>k c v ?_ q) (fun c q=>q) fun c xs q=>q
  rcases hc with z|z
  ·rw[z];exact nc b u e
  ·exact nc c _ z
noncomputable def Ite(S:Src)(K:Fg)(a:Addr):It:=
 ⟨fun i H=>∃xs x,S.Sq K H a xs/\xs[i]?=some x,fun i H x H'=>∃T v,H T=none/\x=.ref T/\H'=upd H T (.tup [.int i,v])/\∀xs,S.Sq K H a xs->xs[i]?=some v,fun i H=>∃xs,S.Sq K H a xs/\xs.length=i⟩
theorem CY{P:Program}{w:World}{K:Fg}{elts:List Expr}{k0:Nat}{pos:Pos}(S:Src)(a e it:Addr)(hl:S.icls≠"enumerate"):
  pE P w K (.Tuple elts k0 pos) (Ite S K a) [e,it] e (fun i h=>(∃old,IsEnum h e it i old)/\S.It h it a i) where
 mem:=by simp
 obj:=fun i h st b hb=>by
  obtain⟨⟨old,he⟩,hi⟩:=st;rcases Kq.mp hb with rfl|hb
  ·exact⟨_,he,fun v z=>nomatch z⟩
  ·obtain rfl:=Kr.mp hb
   obtain⟨o,ho,_,hd⟩:=S.isIt hi;exact⟨o,ho,fun v z=>by rw[hd]at z;cases z⟩
 keep:=fun i h h' st k=>by
  obtain⟨⟨old,he⟩,hi⟩:=st;exact⟨⟨old,k e (by simp) _ he⟩,S.itKeep hi fun o q=>k it (by simp) o q⟩
 item:=by
  intro X hP hw hK hc i pins s σ H E I hf st hg;subst hP hw hK;obtain⟨xs,x,hq,hx⟩:=hg;obtain⟨its,rv,p,hz⟩:=S.get I hq;obtain⟨⟨old,he⟩,hi⟩:=st;obtain⟨u,hu,ru⟩:=rv.get hx;obtain⟨oa,na,hoa,hda⟩:=S.isSeq p;obtain⟨oi,hoi,hci,hdi⟩:=S.isIt hi;have nei:e≠it:=fun z=>by
   have he':s.heap.get? e=some _:=he;rw[z,hoi]at he';cases he';exact hl (by simpa using hci.symm)
  have nae:e≠a:=S.off I hq (hf e (by simp));have nai:a≠it:=fun z=>by
   rw[z,hoi]at hoa;cases hoa;rw[hdi]at hda;cases hda
  have hlt:i<its.toArray.size:=by
   have:=(Kn.mp hu).1;simpa using this
  refine wpAny_pyNext_enum_itemD (S.draws (A:=X.A.in1) (show X.A.in1.handled=none from I.ok.hd hc) it a nai its.toArray) he ⟨hi,p⟩ hlt nei (by simp[nei,nae]) fun y h1 tk hP ho hs1 hT hsz hk=>⟨_,rfl,?_⟩;have hy:y=u:=by
   have:its.toArray[i]?=some u:=by simpa using hu
   rw[this]at hP;exact(KA hP).symm
  subst hy;refine wpAny_letOwnedTupleGo_enum ho fun h2 he2 hs2=>?_;have elt:e<s.heap.objs.size:=Ko he;have hT2:h2.get? s.heap.objs.size=some { cls:=.type "tuple",data:=.seq #[.int i tk,y] }:=hs2.extBut _ _ (Ir (Km _) elt) hT;have kept:∀b ob,b∉[e,it]->s.heap.get? b=some ob->h2.get? b=some ob:=fun b ob hb q=>by
   have h1':b≠e:=fun z=>hb (by simp[z]);exact hs2.extBut _ _ h1' (hk b ob h1' (fun z=>hb (by simp[z])) q)
  refine⟨.ref s.heap.objs.size,upd H s.heap.objs.size (.tup [.int i,x]),?_,rfl,⟨_,x,I.fresh,rfl,rfl,fun ys hy=>by rw[S.inj I hy hq];exact hx⟩,⟨⟨_,he2⟩,S.itKeep hs1.1 fun o q=>hs2.extBut _ _ (LK nei) q⟩,fun b hb=>?_⟩
  ·refine I.turns (t':=tk+1) hf kept (Km _) ⟨(by show 2<=Kw;decide),[.int i tk,y],.cons ⟨tk,rfl⟩ (.cons ru .nil),_,hT2,rfl,⟨0,rfl⟩,rfl⟩
  ·have lt:b<s.heap.objs.size:=by
    rcases Kq.mp hb with rfl|hb
    ·exact elt
    ·obtain rfl:=Kr.mp hb
     exact Ko hoi
   rw[aM (kY lt (Km _))];exact(hf b hb).1
 done:=by
  intro X hP hw hK hc i pins s σ H E I hf st hg;subst hP hw hK;obtain⟨xs,hq,hx⟩:=hg;obtain⟨its,rv,p,hz⟩:=S.get I hq;obtain⟨⟨old,he⟩,hi⟩:=st;obtain⟨oa,na,hoa,hda⟩:=S.isSeq p;obtain⟨oi,hoi,hci,hdi⟩:=S.isIt hi;have nai:a≠it:=fun z=>by
   rw[z,hoi]at hoa;cases hoa;rw[hdi]at hda;cases hda
  have hsz:i=its.toArray.size:=by
   have:=rv.length;simp only[KH];omega
  subst hsz;exact wpAny_pyNext_enum_endD (S.draws (A:=X.A.in1) (show X.A.in1.handled=none from I.ok.hd hc) it a nai its.toArray) he ⟨hi,p⟩ fun h' hx'=>⟨rfl,I.turnsN (t':=s.toks) hf fun b ob hb q=>hx' b ob (fun z=>hb (by simp[z])) q⟩
 self:=fun _ _ _ _ _ st h=>by
  obtain⟨⟨old,he⟩,_⟩:=st;exact R8 he h
section
variable{X:Cx}{elts:List Expr}{k0:Nat}{tpos:Pos}
theorem Ex(S:Src)(l:Addr)(its:Array Value):
  Meets (Builtin.«enumerate.__new__» ⟨[.type "enumerate",.ref l],[]⟩) (fun _ R s=>S.Is s.heap l its/\
   R (.ok (.ret (.ref (s.heap.push { cls:=.type S.icls,data:=.fields #[.ref l,.int 0 0] }).objs.size)))
    { s with heap:=(s.heap.push { cls:=.type S.icls,data:=.fields #[.ref l,.int 0 0] }).push { cls:=.type "enumerate",data:=.fields #[.none,.bool false,.ref s.heap.objs.size,rawInt 0,.none,.none] } }):=
 .of_wp fun prog w A R s h=>by
  obtain⟨hp,g,d,tk,os⟩:=s;obtain⟨hl,h⟩:=h;have hsub:=sub_enumerate;have hL:S.Is (So ⟨hp,g,d,tk,os⟩) l its:=hl
  wp_walk
  refine wpAny_stack_any fun st=>Ki ?_
  split
  ·rename_i c _ _ _ _ _
   cases (c==LF "enumerate")
   ·wp_walk using S.iter hL
    exact⟨_,rfl,h⟩
   ·wp_walk using S.iter hL
    exact⟨_,rfl,h⟩
  ·wp_walk using S.iter hL
   exact⟨_,rfl,h⟩
theorem CZ(S:Src){prog:Program}{w:World}{A:Around}{E:Value->Shared->Prop}{s:Shared}{l:Addr}{its:Array Value}{Q:Value->Shared->Prop}(hL:S.Is s.heap l its)
  (h:∀h',IsEnum h' (s.heap.objs.size+1) s.heap.objs.size 0 .none->S.It h' s.heap.objs.size l 0->(∀b o,s.heap.get? b=some o->h'.get? b=some o)->Q (.ref (s.heap.objs.size+1)) { s with heap:=h' }):
  wpAny (model prog w) A (call (.type "enumerate") [.ref l]) Q E s:=by
 refine RO F.called_enumerate (by decide) (F.typeCall_enumerate_1 _) (F.newCall_enumerate_1 _) (fun obj=>F.args_object_init_2 obj _) F.entry_enumerate_new (Ex S l its) ⟨hL,?_⟩;have hz:(s.heap.push { cls:=.type S.icls,data:=.fields #[.ref l,.int 0 0] }).objs.size=s.heap.objs.size+1:=K9 ..;show _/\_;rw[hz];have he:=Kt (s.heap.push { cls:=.type S.icls,data:=.fields #[.ref l,.int 0 0] }) (o:={ cls:=.type "enumerate",data:=.fields #[.none,.bool false,.ref s.heap.objs.size,rawInt 0,.none,.none] }) rfl;rw[hz]at he;exact⟨⟨_,he,rfl⟩,h _ he (S.mkI (Kh _ (Kt _ rfl)) rfl rfl) fun b o q=>Kh _ (Kh _ q)⟩
noncomputable def qC(S:Src)(K:Fg)(ta:TA):TI:=fun σ H R=>ta σ H fun vs H1=>∃a xs,vs=[.ref a]/\S.Sq K H1 a xs/\R (Ite S K a) H1
theorem qD(S:Src){a:Expr}{ta:TA}{p pos:Pos}(hg:Gl X "enumerate")(hm:X.mg "enumerate"=none)(hS:S.icls≠"enumerate")(ha:PA X [a] ta)(hs:KC [a] X.env=[(false,eval a X.env)]:=by rfl):
  PI X (.Tuple elts k0 tpos) (.Call (.Name "enumerate" p) [a] [] pos) (qC S X.K ta):=by
 intro pins s σ H R I h;refine Call_ (ip I hg hm boot_enumerate (LQ (thn (ha pos pins s σ H _ I h) fun us s1 ⟨vs,H1,I1,r1,q1⟩=>?_) hs rfl));obtain⟨l,xs,e,hq,q⟩:=q1;subst e;obtain⟨u,rfl,ru⟩:=r1.one;cases ru;obtain⟨its,rv,p',hz⟩:=S.get I1 hq;refine CZ S p' fun h' he hi kp=>R8 he ?_;have I2:Inv X pins σ H1 { s1 with heap:=h' }:=I1.kept (t':=s1.toks) kp;refine⟨s1.heap.objs.size+1,[s1.heap.objs.size+1,s1.heap.objs.size],_,_,H1,rfl,I2,CY S l _ _ hS,⟨⟨_,he⟩,hi⟩,fun b hb=>?_,q⟩;have hb':s1.heap.objs.size<=b:=by
  rcases Kq.mp hb with rfl|hb
  ·exact Ng _
  ·obtain rfl:=Kr.mp hb
   exact Km _
 exact I1.fpOk hb' (I1.hok.fresh hb')
end
end
section
open PySem.Spec
section
variable{X:Cx}
noncomputable def mW(K:Fg):List V->Hp->VK->Prop:=fun xs H Q=>∃x T t b,xs=[x,.ty T]/\fo K H x t/\LW K t (.type T)=some b/\Q (.bl b) H
theorem iY:dn X (.builtin "isinstance") (mW X.K):=by
 intro pins s σ H xs us Q I r h;obtain⟨x,T,t,b,rfl,ty,e,q⟩:=h;obtain⟨u,v,rfl,ru,rv⟩:=r.two;cases (show v=LF T from rv);exact CL I ru ty e fun tk=>⟨.bl b,H,I.tok tk,rfl,q⟩
theorem zD(K:Fg):LW K (.type "int") (.type "int")=some true:=by unfold LW;rw[if_pos (beq_self_eq_true _)]
theorem yj(K:Fg):LW K (.type "int") (.type "bool")=some false:=by show(if(LF "int"==LF "bool")=true then some true else if QF "bool"=true then(QX "int").map (·.contains (.type "bool"))else none)=some false;decide+kernel
theorem rE(K:Fg):LW K (.type "list") (.type "list")=some true:=by unfold LW;rw[if_pos (beq_self_eq_true _)]
theorem GB:∀(bs:List Bool),(KS bs.length).all (fun i=>bs.getD i false)=bs.all id:=by
 intro bs
 induction bs with
 |nil=>rfl
 |cons b r ih=>
  rw[KQ,QP,Lw,MV,Lw];show(b&&_)=(b&&_);rw[<-ih];rfl
theorem GC{bs:List Bool}{us:List Value}(r:aG (bs.map V.bl) us):us=bs.map L5:=by
 induction bs generalizing us with
 |nil=>cases r;rfl
 |cons b t ih=>
  cases r with
  |cons q r'=>
   rw[KL,<-ih r',show _=L5 b from q]
theorem Inv.walked{pins:List (Addr×Obj)}{σ:St}{H:Hp}{s:Shared}{h':Heap}{tk:Nat}{o:Obj}(I:Inv X pins σ H s)(hk:∀b ob,b∉[s.heap.objs.size]->(s.heap.push o).get? b=some ob->h'.get? b=some ob):Inv X pins σ H { s with heap:=h',toks:=tk }:=
 I.kept fun b ob e=>hk b ob (fun z=>absurd (Kr.mp z) (K3 (Ko e))) (Kh _ e)
theorem mG(hc:X.calm=true):dn X (.builtin "all") (fun xs H Q=>∃(p:Addr)(bs:List Bool),xs=[.ref p]/\SqL X.K H p (bs.map V.bl)/\Q (.bl (bs.all id)) H):=by
 intro pins s σ H xs us Q I r h;obtain⟨p,bs,rfl,hq,q⟩:=h;obtain⟨u,rfl,rx⟩:=r.one;cases rx;obtain⟨its,rv,pl,hz⟩:=I.list hq;have e:=GC rv;subst e;refine call_all_walk (NN pl.isList ⟨s.heap.objs.size,_,_,_,_,_,fun i=>bs.getD i false,rfl,S3 (show X.A.in1.handled=none from I.ok.hd hc) _ p (by obtain⟨o,ho,_⟩:=pl.isList;exact K3 (Ko ho)) (bs.map L5).toArray,
  ⟨⟨_,Kt _ rfl,rfl,rfl⟩,pl.isList.push _⟩,?_,fun h' tk hk=>?_⟩)
 ·intro i v s' Q' E' hP hQ
  have hP':(bs.map L5)[i]?=some v:=by simpa using hP
  rw[Kz]at hP';cases e:bs[i]? with
  |none=>rw[e]at hP';cases hP'
  |some b=>
   rw[e]at hP';cases hP';have:bs.getD i false=b:=by rw[KG,e];rfl
   have hQ':Q' (bs.getD i false) s':=hQ;rw[this]at hQ';exact Mu hQ'
 ·refine⟨.bl (bs.all id),H,I.walked hk,?_,q⟩
  show L5 _=L5 _;rw[<-GB];simp
theorem zE(ns:List Int):∀k,k<=ns.length->preSum (fun i=>ns.getD i 0) k=(ns.take k).sum:=by
 intro k
 induction k with
 |zero=>intro _;simp[preSum]
 |succ k ih=>
  intro hk;have hlt:k<ns.length:=hk;rw[preSum,ih (Lp hlt),LJ,L9,Kj hlt,KG,Kj hlt];simp
theorem kK(hc:X.calm=true):dn X (.builtin "sum") (fun xs H Q=>∃(p:Addr)(ns:List Int),xs=[.ref p]/\SqL X.K H p (ns.map V.int)/\Q (.int ns.sum) H):=by
 intro pins s σ H xs us Q I r h;obtain⟨p,ns,rfl,hq,q⟩:=h;obtain⟨u,rfl,rx⟩:=r.one;cases rx;obtain⟨its,rv,pl,hz⟩:=I.list hq;have hlen:ns.length=its.length:=by have:=rv.length;simpa using this
 have ia:=nU rv;refine call_sum_walkG (NN pl.isList ⟨s.heap.objs.size,_,_,_,_,_,fun i=>ns.getD i 0,rfl,S3 (show X.A.in1.handled=none from I.ok.hd hc) _ p (by obtain⟨o,ho,_⟩:=pl.isList;exact K3 (Ko ho)) its.toArray,
  ⟨⟨_,Kt _ rfl,rfl,rfl⟩,pl.isList.push _⟩,fun b hb=>?_,?_,fun h' tk t' hk=>?_⟩)
 ·have hp:p<s.heap.objs.size:=by
   obtain⟨o,ho,_⟩:=pl.isList;exact Ko ho
  show b<(s.heap.push _).objs.size;rw[K9];rcases Kq.mp hb with rfl|hb
  ·exact L0 _
  ·obtain rfl:=Kr.mp hb
   exact LU hp
 ·intro i v hP
  have hP':its[i]?=some v:=by simpa using hP
  have hlt:i<ns.length:=by
   have:=(Kn.mp hP').1;omega
  obtain⟨u',hu',ru'⟩:=rv.get (x:=.int ns[i]) (i:=i) (by rw[Kz,Kj hlt]<;>rfl);rw[hP']at hu';cases hu';obtain⟨t,e⟩:=(show∃t,v=Nf ns[i] t from ru');refine⟨t,?_⟩;show v=Nf (ns.getD i 0) t;rw[e,KG,Kj hlt];rfl
 ·refine⟨.int ns.sum,H,I.walked hk,⟨t',?_⟩,q⟩
  rw[show its.toArray.size=ns.length by simp;omega,zE ns _ (Km _),Le]
noncomputable def EqE(x y:V)(b:Bool):Prop:=(dt x=true/\dt y=true/\b=eqV x y)\/(∃a,x=.ref a/\y=.ref a/\b=true)
theorem EqE.at{A:Around}{s:Shared}{x y:V}{b:Bool}{u v:Value}(h:EqE x y b)(ru:aI x u)(rv:aI y v):K1 A s u v b:=by
 rcases h with⟨f1,f2,rfl⟩|⟨a,rfl,rfl,rfl⟩
 ·exact CP ru rv f1 f2
 ·cases ru
  cases rv;exact QE _
noncomputable def Ey(xs ys:List V)(e:Nat->Bool):Prop:=∀j x y,xs[j]?=some x->ys[j]?=some y->EqE x y (e j)
theorem GD{A:Around}{s:Shared}{xs ys:List V}{e:Nat->Bool}{us vs:List Value}(h:Ey xs ys e)(ru:aG xs us)(rv:aG ys vs):
  ∀j (h1:j<us.toArray.size) (h2:j<vs.toArray.size),K1 A s us.toArray[j] vs.toArray[j] (e j):=by
 intro j h1 h2;have h1':j<xs.length:=by rw[ru.length];simpa using h1
 have h2':j<ys.length:=by rw[rv.length];simpa using h2
 obtain⟨u,eu,r1⟩:=ru.get (Kj h1');obtain⟨v,ev,r2⟩:=rv.get (Kj h2');have q:=(h j _ _ (Kj h1') (Kj h2')).at (A:=A) (s:=s) r1 r2;have e1:us.toArray[j]=u:=by
  have:=(Kn.mp eu).2;simpa using this
 have e2:vs.toArray[j]=v:=by
  have:=(Kn.mp ev).2;simpa using this
 rw[e1,e2];exact q
noncomputable def qE(xs ys:List V)(e:Nat->Bool):Bool:=(KS (min xs.length ys.length)).all e&&xs.length==ys.length
noncomputable def Ez(Sq:Hp->Addr->List V->Prop)(neg:Bool):R2:=fun x y H Q=>∃a b xs ys e,x=.ref a/\y=.ref b/\Sq H a xs/\Sq H b ys/\Ey xs ys e/\Q (.bl (if neg then !qE xs ys e else qE xs ys e)) H
theorem Iu(hu:X.A.units<cLine):OpR X (MD .Eq) (Ez (SqT X.K) false):=by
 intro pins s σ H x y v u Q I r1 r2 h;obtain⟨a,b,xs,ys,e,rfl,rfl,ha,hb,he,q⟩:=h;cases r1;cases r2;obtain⟨us,ru,pu,_⟩:=I.tuple ha;obtain⟨vs,rv,pv,_⟩:=I.tuple hb;refine SeqAt.eq_tupleAt (e:=e) pu pv hu (GD he ru rv) ⟨.bl (qE xs ys e),H,I,?_,q⟩;show L5 _=L5 _;unfold qE;rw[KH,KH,ru.length,rv.length]
end
theorem C0(ns ms:List Int):Ey (ns.map V.int) (ms.map V.int) (fun j=>decide (ns[j]?=ms[j]?)):=by
 intro j x y hx hy;rw[Kz]at hx hy;cases e1:ns[j]? with
 |none=>rw[e1]at hx;cases hx
 |some n=>
  cases e2:ms[j]? with
  |none=>rw[e2]at hy;cases hy
  |some m=>
   rw[e1]at hx;rw[e2]at hy;cases hx;cases hy;refine .inl ⟨rfl,rfl,?_⟩;show decide (ns[j]?=ms[j]?)=(n==m);rw[e1,e2];by_cases h:n=m
   ·subst h;simp
   ·simp[h]
theorem A9(ns ms:List Int):qE (ns.map V.int) (ms.map V.int) (fun j=>decide (ns[j]?=ms[j]?))=decide (ns=ms):=by
 unfold qE;rw[Kk,Kk];by_cases h:ns=ms
 ·subst h
  simp
 ·rw[decide_eq_false h]
  by_cases hl:ns.length=ms.length
  ·rw[Bool.and_eq_false_iff]
   left
   rw[<-Bool.not_eq_true,Np];intro q;apply h;apply MN;intro j;by_cases hj:j<ns.length
   ·have:=q j (by rw[MC];omega)
    exact of_decide_eq_true this
   ·rw[K6 (by omega),K6 (by omega)]
  ·rw[beq_eq_false_iff_ne.mpr hl,Ni]
end
section
open PySem.Spec
noncomputable def FnB(P:Program)(w:World)(K:Fg)(mg:Str->Option Value)(base:Heap)(k:Nat)(x:Str)(ps:List Str)(sp:Sp):Prop:=
 ∃f fd,bg P w K mg base CX0 k f fd ps sp/\mg x=some (.ref f)/\NS K (.ref f)=true/\fi K fd ps []
theorem aj{X:Cx}{k:Nat}{x:Str}{ps:List Str}{sp:Sp}{p pos:Pos}{e:Expr}{es:List Expr}{t:TA}(F:FnB X.prog X.w X.K X.mg X.base k x ps sp)(hr:bO k X.A)(ha:PA X (e::es) t)(hg:Gl X x:=by rfl)
  (hdb:(x==("__debug__":Str))=false:=by decide) (he:KC (e::es) X.env=(false,eval e X.env)::KC es X.env:=by rfl) (hpl:(backTo pos (KC es X.env)).any (·.1)=false:=by rfl):
  PE X (.Call (.Name x p) (e::es) [] pos) (aq sp [] E0 t):=by
 obtain⟨f,fd,ok,m,kp,b⟩:=F;exact Am ok hr hg m kp b .nil A7 ha hdb he hpl
structure Def(K:Fg)(mg:Str->Option Value)(x:Str)(st:Stmt)(ps:List Str)(f:Addr)(fd:KD):Prop where
 fn:Fun K x x st f fd
 m:mg x=some (.ref f)
 b:fi K fd ps []
theorem Def.ok{P:Program}{w:World}{K:Fg}{mg:Str->Option Value}{base:Heap}{x:Str}{st:Stmt}{N ps:List Str}{f:Addr}{fd:KD}{k:Nat}{sp:Sp}(D:Def K mg x st ps f fd)(S:az N ps (am st))(len:∀vs H Q E,sp vs H Q E->vs.length=ps.length)
  (hbody:∀(cdv:Value)(A:Around)(outer:List Env)(s:Shared)(H:Hp)(vs:List V)(Q:VK)(E:XK),bO k (A.deeper (envOfC x (am st) s.heap.objs.size f cdv))->sp vs H Q E->
   ∃t,PSs (db CX0 P w K mg base N x (am st) f cdv A outer s H E).nox (dz st) t/\t { nx:=fun _ H'=>Q .non H',rt:=Q } (start N vs) H):FnB P w K mg base (k+1) x ps sp:=
 ⟨f,fd,D.fn.ok S len hbody,D.m,D.fn.kp,D.b⟩
theorem gL{X:Cx}:OpR X (MR .Mult) (rI NJ fun i j=>.int (i*j)):=opI fun _ _ _ _ _ _ _ hc q=>mul_int q hc
theorem tM:∀(ns:List Int),∀n∈ns,Lj n<=Qt (ns.map OD)
 | [],n,h=>(nomatch h)
 |m::r,n,h=>by
  rw[KL,Qt];have e:N2 (.int m)=Lj m:=by
   rw[N2];rfl
  rw[e];rcases Kq.mp h with rfl|h
  ·omega
  ·have:=tM r n h
   omega
theorem zF{ns:List Int}(h:Qg [Px (ns.map OD)]=true):∀n∈ns,Lj n<=1048576:=by
 intro n hn;have h1:QY (Px (ns.map OD))=true:=by
  unfold Qg at h;rw[Lw,LI]at h;exact h.1
 unfold QY at h1;rw[LI]at h1;have h2:N2 (Px (ns.map OD))<=2^20:=of_decide_eq_true h1.2;rw[N2]at h2;have h3:=tM ns n hn;have e:(2:Nat)^20=1048576:=by decide
 omega
noncomputable def jS(K:Fg)(H:Hp)(a:Addr)(ns:List Int):Prop:=SqL K H a (ns.map V.int)/\ns.length<=63/\∀n∈ns,Lj n<=1048576
noncomputable def tN(K:Fg):Sp:=fun vs H Q _=>∃(a:Addr)(ns:List Int),vs=[.ref a]/\jS K H a ns/\∀H',Q (.bl true) H'
theorem EA{l:PySem.W.OpenLaw}{k:Nat}{q:Program}{loose:List Str}{XP:(Str->Option Value)->Heap->Prop}{YP:World->Heap->Prop}{d:DefRec}{K:Params->Fg}{x:Str}
  (hn:l.most=some 63) (hdf:d.params.defaults=[]) (hr:bO k callerA) (hY:∀(w:World)(h:Heap),YP w h->(K w.params).In h)
  (F:∀(w:World)(mg:Str->Option Value)(fa:Addr)(h:Heap),(K w.params).In h->h.Ns KW mg->mg d.name=some (.ref fa)->
   ∃fd:KD,(∀(s:Shared)(u:Value),BindsTo s fd ⟨[u],[]⟩ [(x,u)])/\
    ∀base:Heap,(K w.params).In base->base.Ns KW mg->bg l.prog w (K w.params) mg base CX0 k fa fd [x] (tN (K w.params))):
  PySem.W.WalkO q loose XP YP l.row.toRowW d [] (fun f vs=>PySem.call f vs):=by
 intro w s₀ s₁ mg mb G Y fa o pm cd doc dV kV ho hd hcd hD hmg hg args vals as hpre hlay hrd hwl hlo;obtain rfl:dV=.none:=PySem.W.Dflts.none hD hdf;obtain rfl:kV=.none:=PySem.W.Dflts.noKw hD;obtain⟨a,vs,ns,rfl,rfl,hobj,hints,hlen⟩:=Att.CT hn hpre hwl;have hbits:=zF hlay;have KX:=hY w _ Y;obtain⟨fd,hb,hF⟩:=F w mg fa _ KX G.T.g hmg;have c:=Ev KX G.T.g G.T.b G.T.builtins G.T.nolimit hg hobj hints (K4 hlen (by decide)) hr hF hb (fun H hO hS=>⟨a,ns,rfl,⟨hS,hlen,hbits⟩,fun _=>rfl⟩) fun H e s' z=>z;refine PySem.W.enter_call (Nl c fun r s' hq=>?_);obtain⟨rfl,h2,h3,h4⟩:=hq;exact⟨.inl ⟨.bool true,.bool true,[],rfl,fun _=>rfl,.bool true,Att.CU l _,fun _=>⟨List.Pairwise.nil,fun _ hm=>(nomatch hm)⟩⟩,h2,h3,h4⟩
theorem C1{J:It}{n:Nat}{g:TG}{tb:TS}{D:jk}{σ:St}{H:Hp}{Y:Nat->Hp->V->Hp->Prop}(Pv:Nat->St->Hp->Prop)(h0:Pv 0 σ H)(hgo:∀i σ H,i<n->Pv i σ H->J.go i H)(hst:∀σ H,Pv n σ H->J.stop n H)
  (hy:∀i σ H x H1,i<n->Pv i σ H->J.yld i H x H1->Y i H x H1) (hs:∀i x σ H H1,i<n->Pv i σ H->Y i H x H1->g x σ H1 fun σ2 H2=>tb { D with nx:=Pv (i+1),ct:=Pv (i+1),bk:=D.nx } σ2 H2) (hd:∀σ H,Pv n σ H->D.nx σ H):
  ∃W:Nat->Nat->St->Hp->Prop,(∃m,W 0 m σ H)/\∀i m σ H,W i m σ H->
   (J.stop i H/\D.nx σ H)\/(J.go i H/\∃N:St->Hp->Prop,(∀σ' H',N σ' H'->∃m',m'<m/\W (i+1) m' σ' H')/\∀x H',J.yld i H x H'->g x σ H' fun σ2 H2=>tb { D with nx:=N,ct:=N,bk:=D.nx } σ2 H2):=by
 refine⟨fun i m σ H=>m=n-i/\i<=n/\Pv i σ H,⟨n,by simp,Lk _,h0⟩,?_⟩;rintro i m σ H ⟨rfl,hi,p⟩;by_cases hlt:i<n
 ·exact .inr ⟨hgo i σ H hlt p,Pv (i+1),fun σ' H' p'=>⟨n-(i+1),by omega,rfl,hlt,p'⟩,fun x H' y=>hs i x σ H H' hlt p (hy i σ H x H' hlt p y)⟩
 ·have e:i=n:=by omega
  subst e;exact .inl ⟨hst σ H p,hd σ H p⟩
theorem yk{S:Src}{K:Fg}{a:Addr}{xs:List V}{g:TG}{tb:TS}{D:jk}{σ:St}{H:Hp}(Pv:Nat->St->Hp->Prop)(h0:Pv 0 σ H)(hl:∀i σ H,i<=xs.length->Pv i σ H->S.Sq K H a xs)
  (hs:∀i x T σ H,xs[i]?=some x->Pv i σ H->H T=none->g (.ref T) σ (upd H T (.tup [.int i,x])) fun σ2 H2=>tb { D with nx:=Pv (i+1),ct:=Pv (i+1),bk:=D.nx } σ2 H2) (hd:∀σ H,Pv xs.length σ H->D.nx σ H):
  ∃W:Nat->Nat->St->Hp->Prop,(∃m,W 0 m σ H)/\∀i m σ H,W i m σ H->
   ((Ite S K a).stop i H/\D.nx σ H)\/((Ite S K a).go i H/\∃N:St->Hp->Prop,(∀σ' H',N σ' H'->∃m',m'<m/\W (i+1) m' σ' H')/\∀x H',(Ite S K a).yld i H x H'->g x σ H' fun σ2 H2=>tb { D with nx:=N,ct:=N,bk:=D.nx } σ2 H2):=
 C1 (J:=Ite S K a) (n:=xs.length) (Y:=fun i H x H1=>∃T v,H T=none/\x=.ref T/\H1=upd H T (.tup [.int i,v])/\xs[i]?=some v) Pv h0 (fun i σ H hi w=>⟨xs,xs[i],hl i σ H (Lp hi) w,by simp[hi]⟩) (fun σ H w=>⟨xs,hl _ σ H (Km _) w,rfl⟩)
  (fun i σ H x H1 hi w y=>by
   obtain⟨T,v,e1,e2,e3,e4⟩:=y;exact⟨T,v,e1,e2,e3,e4 xs (hl i σ H (Lp hi) w)⟩) (fun i x σ H H1 hi w y=>by
   obtain⟨T,v,e1,rfl,rfl,e4⟩:=y;exact hs i v T σ H e4 w e1) hd
theorem C3{S:Src}{K:Fg}{a:Addr}{xs:List V}{g:CF TG}{tt:CF TT}{te:CF TE}{σ₀:St}{p:Addr}{Q:VK}{H:Hp}(Pv:Nat->List V->Hp->Prop)(h0:Pv 0 [] (upd H p (.lst [])))(hp:∀i acc H,i<=xs.length->Pv i acc H->H p=some (.lst acc)/\acc.length<=i)(hl:∀i acc H,i<=xs.length->Pv i acc H->S.Sq K H a xs)(hz:xs.length<=Kw)
  (hs:∀C s' H' fp,∀i x T acc H,xs[i]?=some x->Pv i acc H->H T=none->g C s' H' fp (.ref T) σ₀ (upd H T (.tup [.int i,x])) fun σ2 H2=>tt C s' H' fp σ2 H2 fun b H3=>if b=true then te C s' H' fp σ2 H3 fun y H4=>H4 p=some (.lst acc)/\Pv (i+1) (acc++[y]) (upd H4 p (.lst (acc++[y])))else Pv (i+1) acc H3)
  (hd:∀acc H,Pv xs.length acc H->Q (.ref p) H):
  ∃W:Nat->Nat->List V->Hp->Prop,(∃m,W 0 m [] (upd H p (.lst [])))/\∀C s' H' fp,cB (Ite S K a) (g C s' H' fp) (tt C s' H' fp) (te C s' H' fp) σ₀ p Q W:=
 nE (Y:=fun i H x H1=>∃T v,H T=none/\x=.ref T/\H1=upd H T (.tup [.int i,v])/\xs[i]?=some v) Pv h0 hp hz (fun i acc H hi w=>⟨xs,xs[i],hl i acc H (Lp hi) w,by simp[hi]⟩) (fun acc H w=>⟨xs,hl _ acc H (Km _) w,rfl⟩)
  (fun i acc H x H1 hi w y=>by
   obtain⟨T,v,e1,e2,e3,e4⟩:=y;exact⟨T,v,e1,e2,e3,e4 xs (hl i acc H (Lp hi) w)⟩) (fun C s' H' fp i x acc H H1 hi w y=>by
   obtain⟨T,v,e1,rfl,rfl,e4⟩:=y;exact hs C s' H' fp i v T acc H e4 w e1) hd
theorem bi{H:Hp}{p:Addr}(h:H p=none)(o:HO):ap H (upd H p o):=fun b u q=>by rw[aM (bd q h)];exact q
theorem ap.upd{H H':Hp}{p:Addr}(s:ap H H')(h:H p=none)(o:HO):ap H (upd H' p o):=fun b u q=>by rw[aM (bd q h)];exact s b u q
theorem ap.tup{K:Fg}{H H':Hp}{a:Addr}{xs:List V}(e:ap H H')(h:SqT K H a xs):SqT K H' a xs:=by
 rcases h with(h|⟨o,h⟩)|h
 ·exact .inl (.inl (e _ _ h))
 ·exact .inl (.inr ⟨o,e _ _ h⟩)
 ·exact .inr h
theorem small{n:Nat}(h:n<=1000):n<=Kw:=Lp (CW h)
theorem yl{ns:List Int}{k:Int}(h0:0<=k)(h1:k<(ns.length:Int)):atI (ns.map V.int) k=some (.int (ns.getD k.toNat 0)):=by
 have hk:k.toNat<ns.length:=by omega
 have e:k=((k.toNat:Nat):Int):=by omega
 have q:atI (ns.map V.int) ((k.toNat:Nat):Int)=some (.int (ns.getD k.toNat 0)):=cN (by rw[Kz,Kj hk,KG,Kj hk]<;>rfl);rw[<-e]at q;exact q
theorem jn{c:Bool}{A B:Prop}(h1:c=true->A)(h2:c=false->B):if c=true then A else B:=by
 cases c with
 |true=>rw[if_pos rfl];exact h1 rfl
 |false=>rw[if_neg Kv];exact h2 rfl
noncomputable def du(ns:List Int)(k:Int):Int:=
 if k<(ns.length:Int)then ns.getD k.toNat 0 else
  let n0:=if 0<(ns.length:Int)then ns.getD ((k*7)%(ns.length:Int)).toNat 0*48271+k*7919 else k*7919+5
  let n1:=n0*n0%2147483629
  (n1+k)*(n1+69621)%2147483587
noncomputable def Iv(K:Fg):Sp:=fun vs H Q _=>∃(a:Addr)(ns:List Int)(k:Int),vs=[.ref a,.int k]/\jS K H a ns/\0<=k/\k<=1000000/\Q (.int (du ns k)) H
theorem jS.same{K:Fg}{H H':Hp}{a:Addr}{ns:List Int}(h:jS K H a ns)(s:ap H H'):jS K H' a ns:=⟨s.seq h.1,h.2⟩
structure Blt(mg:Str->Option Value):Prop where
 len:mg "len"=none
 range:mg "range"=none
 tuple:mg "tuple"=none
 list:mg "list"=none
 int:mg "int"=none
 bool:mg "bool"=none
 str:mg "str"=none
 dict:mg "dict"=none
 sum:mg "sum"=none
 all:mg "all"=none
 min:mg "min"=none
 max:mg "max"=none
 sorted:mg "sorted"=none
 enumerate:mg "enumerate"=none
 zip:mg "zip"=none
 isinstance:mg "isinstance"=none
theorem C4{ns:List Int}(h:∀n∈ns,Lj n<=1048576)(i:Nat):Lj (ns.getD i 0)<=1048576:=by
 rw[KG];cases e:ns[i]? with
 |none=>show Lj 0<=_;decide
 |some n=>exact h n (Ky e)
end
section
open PySem.Spec
structure jo(z TI TO j1 j2:Addr)(fp1 fp2:List Addr):Prop where
 a1:TI≠z
 a2:TO≠z
 a3:j1≠z
 a4:j2≠z
 a5:TI≠TO
 a6:TI≠j1
 a7:TI≠j2
 a8:TO≠j1
 a9:TO≠j2
 b0:j1≠j2
 b1:z∉fp1
 b2:TO∉fp1
 b3:j2∉fp1
 b4:z∉fp2
 b5:TO∉fp2
 b6:j1∉fp2
section
variable{prog:Program}{w:World}{A:Around}{E:Value->Shared->Prop}{s:Shared}
theorem _root_.PySem.Draws.but{it:Addr}{fp:List Addr}{n i:Nat}{P:Nat->Value->Prop}{St:Nat->Heap->Prop}{h h':Heap}{c:Addr}(D:Draws prog w A it fp n P St)(hst:St i h)(hs:KJ c h h')(hc:c∉fp):St i h':=
 D.frame i _ _ hst fun b hb o e=>hs.extBut b o (fun z=>hc (by rw[<-z];exact hb)) e
theorem wC{z TI TO j1 j2:Addr}{fp1 fp2:List Addr}{n1 n2 k:Nat}{P1 P2:Nat->Value->Prop}{S1 S2:Nat->Heap->Prop}{a b:Value}{Q:Value->Shared->Prop}(Z:jo z TI TO j1 j2 fp1 fp2)
  (D1:Draws prog w A j1 fp1 n1 P1 S1) (D2:Draws prog w A j2 fp2 n2 P2 S2) (hz:IsZip s.heap z TI TO .none) (hTI:IsPair s.heap TI (.ref j1) (.ref j2)) (hTO:IsPair s.heap TO a b) (h1:S1 k s.heap) (h2:S2 k s.heap) (l1:k<n1) (l2:k<n2)
  (hQ:∀x y h' tk,P1 k x->P2 k y->IsZip h' z TI TO (rawInt s.heap.objs.size)->(∃a b,IsPair h' TO a b)->S1 (k+1) h'->S2 (k+1) h'->IsPair h' s.heap.objs.size x y->
   (∀c o,c∉[z,TI,TO,j1,j2]->s.heap.get? c=some o->h'.get? c=some o)->IsPair h' TI (.ref j1) (.ref j2)->Q (.ref s.heap.objs.size) { s with heap:=h',toks:=tk }):
  wpAny (model prog w) A (Builtin.«zip.__next__» ⟨[.ref z],[]⟩) (fun fin s'=>∃v,fin=.done (.ret v)/\Q v s') E s:=by
 obtain⟨hp,g,d,tk₀,os⟩:=s;show wpAny _ _ (field (.ref z) 2>>=_) _ _ _;refine Kg (Lx hz rfl (x:=.bool false) rfl ?_);show wpAny _ _ (field (.ref z) 3>>=_) _ _ _;refine Kg (Lx hz rfl (x:=.ref TI) rfl ?_);refine Kg (LG hTI rfl ?_);show wpAny _ _ (Li (.ref z)>>=_) _ _ _;refine Kg ?_;unfold Li;refine Kg (Lx hz rfl (x:=.none) rfl (Ki ?_));simp only[if_true];refine Kg (MB ?_);refine Kg (Lx hz rfl (x:=.ref TO) rfl ?_);refine Kg (MF hz (by simp) fun g1 hz1 hs1=>?_);replace hz1:IsZip g1 z TI TO .ellipsis:=hz1;replace hs1:KJ z hp g1:=hs1;refine Kg ?_;simp only[SD,S4,Oe,Ow];refine Kg (Kg (OO ?_));show wpAny _ _ (Lg (.ref j1)>>=_) _ _ _;refine Kg (D1.item k ⟨g1,g,d,tk₀,os⟩ _ _ l1 (D1.but h1 hs1 Z.b1) fun x g2 tk1 px st1 hs2=>Ki ?_);replace hs2:KJ j1 g1 g2:=hs2;have hTO2:IsPair g2 TO a b:=hs2.extBut _ _ Z.a8 (hs1.extBut _ _ Z.a2 hTO);refine Kg (LG hTO2 rfl ?_);refine Kg (O4 hTO2 fun g3 hTO3 hs3=>?_);replace hTO3:IsPair g3 TO x b:=hTO3;replace hs3:KJ TO g2 g3:=hs3;refine Kg (QQ (Ki ?_));refine Kg (Kg (OO ?_));show wpAny _ _ (Lg (.ref j2)>>=_) _ _ _;refine Kg (D2.item k ⟨g3,g,d,tk1,os⟩ _ _ l2 (D2.but (D2.but (D2.but h2 hs1 Z.b4) hs2 Z.b6) hs3 Z.b5) fun y g4 tk2 py st2 hs4=>Ki ?_);replace hs4:KJ j2 g3 g4:=hs4;have hTO4:IsPair g4 TO x b:=hs4.extBut _ _ Z.a9 hTO3;refine Kg (LG hTO4 rfl ?_);refine Kg (O4 hTO4 fun g5 hTO5 hs5=>?_);replace hTO5:IsPair g5 TO x y:=hTO5;replace hs5:KJ TO g4 g5:=hs5;refine Kg (QQ (Ki (Ki ?_)));refine Kg (LG hTO5 rfl ?_);refine Kg (QZ ?_);have hsz:g5.objs.size=hp.objs.size:=by rw[hs5.1,hs4.1,hs3.1,hs2.1,hs1.1]
 have hz5:IsZip g5 z TI TO .ellipsis:=hs5.extBut _ _ Z.a2.symm (hs4.extBut _ _ Z.a4.symm (hs3.extBut _ _ Z.a2.symm (hs2.extBut _ _ Z.a3.symm hz1)));have k5:∀c o,c≠z->c≠TO->c≠j1->c≠j2->hp.get? c=some o->g5.get? c=some o:=fun c o c1 c2 c3 c4 e=>
  hs5.extBut _ _ c2 (hs4.extBut _ _ c4 (hs3.extBut _ _ c2 (hs2.extBut _ _ c3 (hs1.extBut _ _ c1 e))))
 have st15:S1 (k+1) g5:=D1.but (D1.but (D1.but st1 hs3 Z.b2) hs4 Z.b3) hs5 Z.b2;have st25:S2 (k+1) g5:=D2.but st2 hs5 Z.b5;have zlt:z<g5.objs.size:=Ko hz5;show wpAny _ _ (Om (.ref z) (.ref g5.objs.size)>>=_) _ _ _;refine Kg ?_;unfold Om;have hz6:IsZip (g5.push { cls:=.type "tuple",data:=.seq #[x,y] }) z TI TO .ellipsis:=Kh _ hz5;refine Kg (MF hz6 (by simp) fun g7 hz7 hs7=>?_);replace hz7:IsZip g7 z TI TO (rawInt g5.objs.size):=hz7;refine MF hz7 (by simp) fun g8 hz8 hs8=>?_;replace hz8:IsZip g8 z TI TO (rawInt g5.objs.size):=hz8;have up:∀c o,c≠z->g5.get? c=some o->g8.get? c=some o:=fun c o c1 e=>hs8.extBut _ _ c1 (hs7.extBut _ _ c1 (Kh _ e));have hT8:IsPair g8 g5.objs.size x y:=hs8.extBut _ _ (Mz zlt) (hs7.extBut _ _ (Mz zlt) (Kt _ rfl));rw[hsz]at hz8 hT8;refine Ki ⟨_,rfl,?_⟩;show Q (.ref g5.objs.size) _;rw[hsz];exact hQ x y g8 tk2 px py hz8 ⟨x,y,up _ _ Z.a2 hTO5⟩ (D1.frame _ _ _ st15 fun c hc o e=>up c o (fun q=>Z.b1 (by rw[<-q];exact hc)) e) (D2.frame _ _ _ st25 fun c hc o e=>up c o (fun q=>Z.b4 (by rw[<-q];exact hc)) e) hT8
  (fun c o hc e=>by
   simp only[Kq,Lq,or_false,not_or]at hc;exact up c o hc.1 (k5 c o hc.1 hc.2.2.1 hc.2.2.2.1 hc.2.2.2.2 e)) (up _ _ Z.a1 (k5 _ _ Z.a1 Z.a5 Z.a6 Z.a7 hTI))
theorem ym{z TI TO j1 j2:Addr}{fp1 fp2:List Addr}{n1 n2 k:Nat}{P1 P2:Nat->Value->Prop}{S1 S2:Nat->Heap->Prop}{a b:Value}{Q:Fin->Shared->Prop}(Z:jo z TI TO j1 j2 fp1 fp2)
  (D1:Draws prog w A j1 fp1 n1 P1 S1) (D2:Draws prog w A j2 fp2 n2 P2 S2) (hz:IsZip s.heap z TI TO .none) (hTI:IsPair s.heap TI (.ref j1) (.ref j2)) (hTO:IsPair s.heap TO a b) (h1:S1 k s.heap) (h2:S2 k s.heap) (l:k=min n1 n2)
  (hE:∀h' e tk,(∀c o,c∉[z,TI,TO,j1,j2]->s.heap.get? c=some o->h'.get? c=some o)->(∃o,h'.get? e=some o/\o.cls=.type "StopIteration")->E (.ref e) { s with heap:=h',toks:=tk }):
  wpAny (model prog w) A (Builtin.«zip.__next__» ⟨[.ref z],[]⟩) Q E s:=by
 obtain⟨hp,g,d,tk₀,os⟩:=s;have kp:∀{h':Heap},(∀c o,c≠z->c≠TO->c≠j1->c≠j2->hp.get? c=some o->h'.get? c=some o)->∀c o,c∉[z,TI,TO,j1,j2]->hp.get? c=some o->h'.get? c=some o:=fun{h'} q c o hc e=>by
  simp only[Kq,Lq,or_false,not_or]at hc;exact q c o hc.1 hc.2.2.1 hc.2.2.2.1 hc.2.2.2.2 e
 show wpAny _ _ (field (.ref z) 2>>=_) _ _ _;refine Kg (Lx hz rfl (x:=.bool false) rfl ?_);show wpAny _ _ (field (.ref z) 3>>=_) _ _ _;refine Kg (Lx hz rfl (x:=.ref TI) rfl ?_);refine Kg (LG hTI rfl ?_);show wpAny _ _ (Li (.ref z)>>=_) _ _ _;refine Kg ?_;unfold Li;refine Kg (Lx hz rfl (x:=.none) rfl (Ki ?_));simp only[if_true];refine Kg (MB ?_);refine Kg (Lx hz rfl (x:=.ref TO) rfl ?_);refine Kg (MF hz (by simp) fun g1 hz1 hs1=>?_);replace hz1:IsZip g1 z TI TO .ellipsis:=hz1;replace hs1:KJ z hp g1:=hs1;refine Kg ?_;simp only[SD,S4,Oe,Ow];refine Kg (Kg (OO ?_));show wpAny _ _ (Lg (.ref j1)>>=_) _ _ _;by_cases hk:k=n1
 ·subst hk
  refine Kg (D1.done ⟨g1,g,d,tk₀,os⟩ _ _ (D1.but h1 hs1 Z.b1) fun g2 e hs2 he=>?_);replace hs2:N9 j1 g1 g2:=hs2;obtain⟨oe,hoe,hce⟩:=he;have hz2:IsZip g2 z TI TO .ellipsis:=hs2 _ _ Z.a3.symm hz1;have nez:e≠z:=fun q=>by
   subst q;rw[hz2]at hoe;cases hoe;simp at hce
  refine MF hz2 (by simp) fun g3 _ hs3=>hE g3 e tk₀ (kp fun c o c1 _ c3 _ q=>hs3.extBut _ _ c1 (hs2 _ _ c3 (hs1.extBut _ _ c1 q))) ⟨oe,hs3.extBut _ _ nez hoe,hce⟩
 ·have hlt:k<n1:=by omega
  have hk2:k=n2:=by omega
  refine Kg (D1.item k ⟨g1,g,d,tk₀,os⟩ _ _ hlt (D1.but h1 hs1 Z.b1) fun x g2 tk1 px st1 hs2=>Ki ?_);replace hs2:KJ j1 g1 g2:=hs2;have hTO2:IsPair g2 TO a b:=hs2.extBut _ _ Z.a8 (hs1.extBut _ _ Z.a2 hTO);refine Kg (LG hTO2 rfl ?_);refine Kg (O4 hTO2 fun g3 hTO3 hs3=>?_);replace hs3:KJ TO g2 g3:=hs3;refine Kg (QQ (Ki ?_));refine Kg (Kg (OO ?_));show wpAny _ _ (Lg (.ref j2)>>=_) _ _ _;subst hk2;refine Kg (D2.done ⟨g3,g,d,tk1,os⟩ _ _ (D2.but (D2.but (D2.but h2 hs1 Z.b4) hs2 Z.b6) hs3 Z.b5) fun g4 e hs4 he=>?_);replace hs4:N9 j2 g3 g4:=hs4;obtain⟨oe,hoe,hce⟩:=he;have hz4:IsZip g4 z TI TO .ellipsis:=hs4 _ _ Z.a4.symm (hs3.extBut _ _ Z.a2.symm (hs2.extBut _ _ Z.a3.symm hz1));have nez:e≠z:=fun q=>by
   subst q;rw[hz4]at hoe;cases hoe;simp at hce
  refine MF hz4 (by simp) fun g5 _ hs5=>hE g5 e tk1 (kp fun c o c1 c2 c3 c4 q=>hs5.extBut _ _ c1 (hs4 _ _ c4 (hs3.extBut _ _ c2 (hs2.extBut _ _ c3 (hs1.extBut _ _ c1 q))))) ⟨oe,hs5.extBut _ _ nez hoe,hce⟩
end
noncomputable abbrev zh1(S1:Src)(h:Heap)(l1:Addr):Heap:=h.push { cls:=.type S1.icls,data:=.fields #[.ref l1,.int 0 0] }
noncomputable abbrev zh2(S1 S2:Src)(h:Heap)(l1 l2:Addr):Heap:=(zh1 S1 h l1).push { cls:=.type S2.icls,data:=.fields #[.ref l2,.int 0 0] }
noncomputable abbrev zh3(S1 S2:Src)(h:Heap)(l1 l2:Addr):Heap:=(zh2 S1 S2 h l1 l2).push { cls:=.type "tuple",data:=.seq #[.ref h.objs.size,.ref (zh1 S1 h l1).objs.size] }
noncomputable abbrev zh4(S1 S2:Src)(h:Heap)(l1 l2:Addr):Heap:=(zh3 S1 S2 h l1 l2).push { cls:=.type "tuple",data:=.seq #[.none,.none] }
noncomputable abbrev zh5(S1 S2:Src)(h:Heap)(l1 l2:Addr):Heap:=(zh4 S1 S2 h l1 l2).push { cls:=.type "zip",data:=.fields #[.none,.bool false,.bool false,.ref (zh2 S1 S2 h l1 l2).objs.size,.ref (zh3 S1 S2 h l1 l2).objs.size] }
theorem At(S1 S2:Src)(l1 l2:Addr)(xs ys:Array Value):
  Meets (Builtin.«zip.__new__» ⟨[.type "zip",.ref l1,.ref l2],[]⟩) (fun _ R s=>S1.Is s.heap l1 xs/\S2.Is s.heap l2 ys/\R (.ok (.ret (.ref (zh4 S1 S2 s.heap l1 l2).objs.size))) { s with heap:=zh5 S1 S2 s.heap l1 l2 }):=
 .of_wp fun prog w A R s h=>by
  obtain⟨hp,g,d,tk,os⟩:=s;obtain⟨q1,q2,h⟩:=h;have hsub:=sub_zip;have hL1:S1.Is (So ⟨hp,g,d,tk,os⟩) l1 xs:=q1;have hL2:S2.Is (So ⟨zh1 S1 hp l1,g,d,tk,os⟩) l2 ys:=S2.isKeep q2 fun o e=>Kh _ e
  wp_walk using S1.iter hL1,S2.iter hL2
  exact⟨_,rfl,h⟩
noncomputable def Itz(S1 S2: Src)(K: Fg)(a b: Addr): It:=
  ⟨fun i H=> ∃xs ys x y, S1.Sq K H a xs ∧ S2.Sq K H b ys ∧ xs[i]? = some x ∧ ys[i]? = some y,
   fun i H x H'=> ∃T u v, H T= none ∧ x= .ref T ∧ H'= upd H T (.tup [u, v]) ∧ ∀xs ys, S1.Sq K H a xs → S2.Sq K H b ys → xs[i]? = some u ∧ ys[i]? = some v,
   fun i H=> ∃xs ys, S1.Sq K H a xs ∧ S2.Sq K H b ys ∧ min xs.length ys.length= i⟩
theorem zap{z TI TO j1 j2 a b:Addr}(nd:[z,TI,TO,j1,j2].Nodup)(h1:∀c∈[z,TI,TO,j1,j2],c≠a)(h2:∀c∈[z,TI,TO,j1,j2],c≠b):jo z TI TO j1 j2 [j1,a] [j2,b]:=by
 simp only[MZ,Kq,Lq,or_false,not_or]at nd;obtain⟨⟨c1,c2,c3,c4⟩,⟨c5,c6,c7⟩,⟨c8,c9⟩,c10,_⟩:=nd;have g1:=h1 z (by simp);have g2:=h1 TO (by simp);have g3:=h1 j2 (by simp);have g4:=h2 z (by simp);have g5:=h2 TO (by simp);have g6:=h2 j1 (by simp);exact⟨LK c1,LK c2,LK c3,LK c4,c5,c6,c7,c8,c9,c10,by simp[c3,g1],by simp[c8,g2],by simp[LK c10,g3],by simp[c4,g4],by simp[c9,g5],by simp[c10,g6]⟩
theorem EB{P:Program}{w:World}{K:Fg}{elts:List Expr}{k0:Nat}{pos:Pos}(S1 S2:Src)(a b z TI TO j1 j2:Addr)(nd:[z,TI,TO,j1,j2].Nodup):
  pE P w K (.Tuple elts k0 pos) (Itz S1 S2 K a b) [z,TI,TO,j1,j2] z (fun i h=>IsZip h z TI TO .none/\IsPair h TI (.ref j1) (.ref j2)/\(∃u v,IsPair h TO u v)/\S1.It h j1 a i/\S2.It h j2 b i) where
 mem:=by simp
 obj:=fun i h st c hc=>by
  obtain⟨q1,q2,⟨u,v,q3⟩,q4,q5⟩:=st;simp only[Kq,Lq,or_false]at hc;rcases hc with rfl|rfl|rfl|rfl|rfl
  ·exact⟨_,q1,fun v z=>nomatch z⟩
  ·exact⟨_,q2,fun v z=>nomatch z⟩
  ·exact⟨_,q3,fun v z=>nomatch z⟩
  ·obtain⟨o,ho,_,hd⟩:=S1.isIt q4
   exact⟨o,ho,fun v z=>by rw[hd]at z;cases z⟩
  ·obtain⟨o,ho,_,hd⟩:=S2.isIt q5
   exact⟨o,ho,fun v z=>by rw[hd]at z;cases z⟩
 keep:=fun i h h' st k=>by
  obtain⟨q1,q2,⟨u,v,q3⟩,q4,q5⟩:=st;exact⟨k z (by simp) _ q1,k TI (by simp) _ q2,⟨u,v,k TO (by simp) _ q3⟩,S1.itKeep q4 fun o q=>k j1 (by simp) o q,S2.itKeep q5 fun o q=>k j2 (by simp) o q⟩
 item:=by
  intro X hP hw hK hc i pins s σ H E I hf st hg;subst hP hw hK;obtain⟨xs,ys,x,y,hq1,hq2,hx,hy⟩:=hg;obtain⟨us,r1,p1,_⟩:=S1.get I hq1;obtain⟨vs,r2,p2,_⟩:=S2.get I hq2;obtain⟨q1,q2,⟨u0,v0,q3⟩,q4,q5⟩:=st;obtain⟨u,hu,ru⟩:=r1.get hx;obtain⟨v,hv,rv⟩:=r2.get hy;have Z:=zap nd (fun c hc'=>S1.off I hq1 (hf c hc')) (fun c hc'=>S2.off I hq2 (hf c hc'));have hh:X.A.in1.handled=none:=I.ok.hd hc;have n1:a≠j1:=LK (S1.off I hq1 (hf j1 (by simp)));have n2:b≠j2:=LK (S2.off I hq2 (hf j2 (by simp)));have l1:i<us.toArray.size:=by have:=(Kn.mp hu).1;simpa using this
  have l2:i<vs.toArray.size:=by have:=(Kn.mp hv).1;simpa using this
  have hT:s.TypeIs (.ref z) "zip":=⟨_,q1,rfl⟩;unfold pyNext;refine Kg (M6 (Lm (name:=Mo "__next__") hT MJ (Lc MJ hT OR
   (wC (A:=X.A.in1) Z (S1.draws hh j1 a n1 us.toArray) (S2.draws hh j2 b n2 vs.toArray) q1 q2 q3 ⟨q4,p1⟩ ⟨q5,p2⟩ l1 l2 fun x' y' h' tk px py z1 z2 z3 z4 z5 z6 z7=>Ki ?_) (OE _))))
  have ex:x'=u:=by
   have:us.toArray[i]?=some u:=by simpa using hu
   rw[this]at px;exact(KA px).symm
  have ey:y'=v:=by
   have:vs.toArray[i]?=some v:=by simpa using hv
   rw[this]at py;exact(KA py).symm
  subst ex ey;refine⟨_,rfl,wpAny_letOwnedTupleGo_zip z1 fun h2 w1 hs2=>?_⟩;have nz:∀c,c∈[TI,TO,j1,j2]->c≠z:=fun c hc' e=>by
   subst e;exact(MZ.mp nd).1 hc'
  have zlt:z<s.heap.objs.size:=Ko q1;have hT2:h2.get? s.heap.objs.size=some { cls:=.type "tuple",data:=.seq #[x',y'] }:=hs2.extBut _ _ (Ir (Km _) zlt) z5;have kept:∀c ob,c∉[z,TI,TO,j1,j2]->s.heap.get? c=some ob->h2.get? c=some ob:=fun c ob hc' q=>hs2.extBut _ _ (fun e=>hc' (by simp[e])) (z6 c ob hc' q);obtain⟨u1,v1,z2⟩:=z2;refine⟨.ref s.heap.objs.size,upd H s.heap.objs.size (.tup [x,y]),?_,rfl,⟨_,x,y,I.fresh,rfl,rfl,fun xs' ys' h1 h2=>by rw[S1.inj I h1 hq1,S2.inj I h2 hq2];exact⟨hx,hy⟩⟩,
   ⟨w1,hs2.extBut _ _ (nz TI (by simp)) z7,⟨u1,v1,hs2.extBut _ _ (nz TO (by simp)) z2⟩,S1.itKeep z3.1 fun o q=>hs2.extBut _ _ (nz j1 (by simp)) q,S2.itKeep z4.1 fun o q=>hs2.extBut _ _ (nz j2 (by simp)) q⟩,fun c hc'=>?_⟩
  ·exact I.turns (t':=tk) hf kept (Km _) ⟨(by show 2<=Kw;decide),[x',y'],.cons ru (.cons rv .nil),_,hT2,rfl,⟨0,rfl⟩,rfl⟩
  ·have lt:c<s.heap.objs.size:=by
    have st':IsZip s.heap z TI TO .none/\IsPair s.heap TI (.ref j1) (.ref j2)/\(∃u v,IsPair s.heap TO u v)/\S1.It s.heap j1 a i/\S2.It s.heap j2 b i:=⟨q1,q2,⟨u0,v0,q3⟩,q4,q5⟩;simp only[Kq,Lq,or_false]at hc';rcases hc' with rfl|rfl|rfl|rfl|rfl
    ·exact zlt
    ·exact Ko q2
    ·exact Ko q3
    ·obtain⟨o,ho,_⟩:=S1.isIt q4
     exact Ko ho
    ·obtain⟨o,ho,_⟩:=S2.isIt q5
     exact Ko ho
   rw[aM (kY lt (Km _))];exact(hf c hc').1
 done:=by
  intro X hP hw hK hc i pins s σ H E I hf st hg;subst hP hw hK;obtain⟨xs,ys,hq1,hq2,hi⟩:=hg;obtain⟨us,r1,p1,_⟩:=S1.get I hq1;obtain⟨vs,r2,p2,_⟩:=S2.get I hq2;obtain⟨q1,q2,⟨u0,v0,q3⟩,q4,q5⟩:=st;have Z:=zap nd (fun c hc'=>S1.off I hq1 (hf c hc')) (fun c hc'=>S2.off I hq2 (hf c hc'));have hh:X.A.in1.handled=none:=I.ok.hd hc;have n1:a≠j1:=LK (S1.off I hq1 (hf j1 (by simp)));have n2:b≠j2:=LK (S2.off I hq2 (hf j2 (by simp)));have hT:s.TypeIs (.ref z) "zip":=⟨_,q1,rfl⟩;have hl:i=min us.toArray.size vs.toArray.size:=by
   have:=r1.length;have:=r2.length;simp only[KH];omega
  unfold pyNext;refine Kg (M6 (Lm (name:=Mo "__next__") hT MJ (Lc MJ hT OR
   (ym (A:=X.A.in1) Z (S1.draws hh j1 a n1 us.toArray) (S2.draws hh j2 b n2 vs.toArray) q1 q2 q3 ⟨q4,p1⟩ ⟨q5,p2⟩ hl fun h' e tk kp he=>?_) (OE _))))
  obtain⟨o,ho,hcl⟩:=he;refine Kg (Mq (T:="StopIteration") (b:=true) ⟨o,ho,hcl⟩ Ox ?_);exact Ki ⟨rfl,I.turnsN (t':=tk) hf kp⟩
 self:=fun _ _ _ _ _ st h=>Qh st.1 h
section
variable{X:Cx}{elts:List Expr}{k0:Nat}{tpos:Pos}
noncomputable def pN(S1 S2:Src)(K:Fg)(ta:TA):TI:=fun σ H R=>ta σ H fun vs H1=>∃a b xs ys,vs=[.ref a,.ref b]/\S1.Sq K H1 a xs/\S2.Sq K H1 b ys/\R (Itz S1 S2 K a b) H1
theorem nG(S1 S2:Src){a b:Expr}{ta:TA}{p pos:Pos}(hg:Gl X "zip")(hm:X.mg "zip"=none)(ha:PA X [a,b] ta)(hs:KC [a,b] X.env=[(false,eval a X.env),(false,eval b X.env)]:=by rfl)(hs2:KC [b] X.env=[(false,eval b X.env)]:=by rfl):
  PI X (.Tuple elts k0 tpos) (.Call (.Name "zip" p) [a,b] [] pos) (pN S1 S2 X.K ta):=by
 intro pins s σ H R I h;refine Call_ (ip I hg hm boot_zip (LQ (thn (ha pos pins s σ H _ I h) fun us s1 ⟨vs,H1,I1,r1,q1⟩=>?_) (by rw[hs,hs2]) (by rw[hs2];rfl)));obtain⟨l1,l2,xs,ys,e,hq1,hq2,q⟩:=q1;subst e;obtain⟨u,v,rfl,ru,rv⟩:=r1.two;cases ru;cases rv;obtain⟨us1,_,p1,_⟩:=S1.get I1 hq1;obtain⟨us2,_,p2,_⟩:=S2.get I1 hq2;refine RO F.called_zip (by decide) (SE _ _) (S5 _ _) (fun obj=>Ra obj _ _) S6 (At S1 S2 l1 l2 us1.toArray us2.toArray) ⟨p1,p2,?_⟩;generalize hn:s1.heap.objs.size=n;have z1:(zh1 S1 s1.heap l1).objs.size=n+1:=by rw[K9,hn]
 have z2:(zh2 S1 S2 s1.heap l1 l2).objs.size=n+2:=by rw[K9,z1]
 have z3:(zh3 S1 S2 s1.heap l1 l2).objs.size=n+3:=by rw[K9,z2]
 have z4:(zh4 S1 S2 s1.heap l1 l2).objs.size=n+4:=by rw[K9,z3]
 have g5:(zh5 S1 S2 s1.heap l1 l2).get? (zh4 S1 S2 s1.heap l1 l2).objs.size=some _:=Kt _ rfl;have g4:(zh5 S1 S2 s1.heap l1 l2).get? (zh3 S1 S2 s1.heap l1 l2).objs.size=some _:=Kh _ (Kt _ rfl);have g3:(zh5 S1 S2 s1.heap l1 l2).get? (zh2 S1 S2 s1.heap l1 l2).objs.size=some _:=Kh _ (Kh _ (Kt _ rfl));have g2:(zh5 S1 S2 s1.heap l1 l2).get? (zh1 S1 s1.heap l1).objs.size=some _:=Kh _ (Kh _ (Kh _ (Kt _ rfl)));have g1:(zh5 S1 S2 s1.heap l1 l2).get? s1.heap.objs.size=some _:=Kh _ (Kh _ (Kh _ (Kh _ (Kt _ rfl))));have kp:∀c o,s1.heap.get? c=some o->(zh5 S1 S2 s1.heap l1 l2).get? c=some o:=fun c o e=>
  Kh _ (Kh _ (Kh _ (Kh _ (Kh _ e))))
 show _/\_;rw[z2,z3,z4]at g5;rw[z1,z2,hn]at g3;rw[z3]at g4;rw[z1]at g2;rw[hn]at g1;rw[z4];refine⟨⟨_,g5,rfl⟩,Qh g5 ?_⟩;have I2:Inv X pins σ H1 { s1 with heap:=zh5 S1 S2 s1.heap l1 l2 }:=I1.kept (t':=s1.toks) kp;refine⟨n+4,[n+4,n+2,n+3,n,n+1],_,_,H1,rfl,I2,EB S1 S2 l1 l2 _ _ _ _ _ (by simp),⟨g5,g3,⟨_,_,g4⟩,S1.mkI g1 rfl rfl,S2.mkI g2 rfl rfl⟩,fun c hc=>?_,q⟩;have hc':s1.heap.objs.size<=c:=by
  rw[hn];simp only[Kq,Lq,or_false]at hc;rcases hc with rfl|rfl|rfl|rfl|rfl
  ·exact Mc _ _
  ·exact Mc _ _
  ·exact Mc _ _
  ·exact Km _
  ·exact Mc _ _
 exact I1.fpOk hc' (I1.hok.fresh hc')
end
end
section
open PySem.Spec
section
variable{X:Cx}
noncomputable def F0(K:Fg):R2:=fun x y H Q=>∃a b xs ys,x=.ref a/\y=.ref b/\SqT K H a xs/\SqT K H b ys/\xs.length+ys.length<=Kw/\
 (xs=[]->Q (.ref b) H)/\(xs≠[]->ys=[]->Q (.ref a) H)/\(xs≠[]->ys≠[]->∀p,H p=none->Q (.ref p) (upd H p (.tup (xs++ys))))
theorem GG:OpR X (MR .Add) (F0 X.K):=by
 intro pins s σ H x y v u Q I rx ry h;obtain⟨a,b,xs,ys,rfl,rfl,ha,hb,hz,q0,q1,q2⟩:=h;by_cases hx:xs=[]
 ·cases rx
  cases ry;obtain⟨its,r1,p1,_⟩:=I.tuple ha;obtain⟨its2,r2,p2,_⟩:=I.tuple hb;obtain⟨⟨cls,dd,data,sl⟩,ho,hc,n,hd⟩:=id p1;obtain⟨⟨cls2,dd2,data2,sl2⟩,ho2,hc2,n2,hd2⟩:=id p2;simp only at hc hd hc2 hd2;subst hc hd hc2 hd2;have e:its=[]:=r1.nil_iff.mpr hx;exact RL ⟨_,ho,rfl⟩ ⟨_,ho2,rfl⟩ Qe Ro OI Oy (Oi _ _)
   (tuple_addW0 a b its.toArray its2.toArray n n2 dd dd2 sl sl2 (by simp[e])) ⟨ho,ho2,⟨.ref b,H,I,rfl,q0 hx⟩⟩
 ·exact Gx pins s σ H _ _ v u Q I rx ry ⟨a,b,xs,ys,rfl,rfl,ha,hb,hx,hz,q1 hx,q2 hx⟩
theorem wE{x:V}:∀{xs:List V} {us:List Value},aG xs us->xs.all dt=true->us.countP (eqU x)=xs.countP fun y=>eqV y x
 |_,_,.nil,_=>rfl
 |y::xs,u::us,.cons r t,f=>by
  rw[Lw,LI]at f;rw[SF,SF,yg r f.1,wE t f.2]
noncomputable def tBT(r:V->List V->Hp->VK->Prop)(to:TE)(t:TA):TE:=fun σ H Q=>to σ H fun x H1=>(∃a xs,x=.ref a/\H1 a=some (.tup xs))/\t σ H1 fun xs H2=>r x xs H2 Q
theorem Jt{o e:Expr}{es:List Expr}{to:TE}{t:TA}{name:Str}{apos cpos:Pos}{id:String}{r:V->List V->Hp->VK->Prop}(pa:PlainAttrs "tuple")(slot:Slot "tuple" name id)(hty:typeOf (.builtin id)=pure (.type "method_descriptor"))(hm:MtR X id r)(ho:PE X o to)(ha:PA X (e::es) t)
  (hbase:N4 o name X.env (eval o X.env)=eval o X.env:=by rfl)
  (hfew:((backTo cpos (KC (e::es) X.env)).all (fun x=>!x.1)&&(Pj cpos (N8 [] X.env)).all (fun x=>x.1.isSome)
   &&decide ((e::es).length+([]:List Keyword).length+(if([]:List Keyword).isEmpty then 0 else 1)<30))=true:=by rfl)
  (hline:(apos.endLine==cpos.line)=true:=by rfl) (hs:KC (e::es) X.env=(false,eval e X.env)::KC es X.env:=by rfl) (hplain:(backTo cpos (KC es X.env)).any (·.1)=false:=by rfl):
  PE X (.Call (.Attribute o name apos) (e::es) [] cpos) (tBT r to t):=by
 intro pins s σ H Q I h;refine OJ hbase hfew hline rfl (thn (ho pins s σ H _ I h) fun v s1 ⟨x,H1,I1,r1,ty,q1⟩=>?_);obtain⟨a,xs,rfl,hx⟩:=ty;cases r1;obtain⟨_,its,_,o',ho',hc',_,hd'⟩:=I1.hok a _ hx;refine⟨"tuple",id,pa,slot,hty,⟨o',ho',hc'⟩,fun b e=>?_,?_⟩
 ·cases e
  exact⟨o',ho',hd'⟩
 have hA:=ha cpos pins s1 σ H1 _ I1 q1;rw[hs]at hA ⊢;refine OK (by show(false||(backTo cpos (KC es X.env)).any (·.1))=false;rw[hplain]<;>rfl) (N1 ?_);exact thn hA fun us s2 ⟨vs,H2,I2,r2,q2⟩=>hm pins s2 σ H2 (.ref a) vs (.ref a) us Q I2 rfl r2 q2
noncomputable def Au:V->List V->Hp->VK->Prop:=fun x vs H Q=>∃l xs y,x=.ref l/\vs=[y]/\H l=some (.tup xs)/\dt y=true/\xs.all dt=true/\Q (.int (xs.countP fun z=>eqV z y:Nat)) H
theorem C5:MtR X "tuple.count" Au:=by
 intro pins s σ H x vs v us Q I rx rv h;obtain⟨l,xs,y,rfl,rfl,hH,fy,fx,q⟩:=h;cases rx;obtain⟨u,rfl,ru⟩:=rv.one;obtain⟨_,its,r,⟨cls,dd,data,sl⟩,ho,hc,⟨n,hd⟩,hdd⟩:=I.hok l _ hH;simp only at hc hd hdd;subst hc hd hdd;refine O3 Qi ⟨_,ho,rfl⟩ PySem.F.entry_tuple_count (PySem.F.args_tuple_count_2 _ _) (SeqAt.tuple_countAt l its.toArray n none sl u (eqU y)) ⟨ho,fun z hz=>lT ru fy r fx z (by simpa using hz),?_⟩;refine⟨.int (xs.countP fun z=>eqV z y:Nat),H,I.tok _,⟨s.toks,?_⟩,q⟩;show Nf ((its.toArray.toList.countP (eqU y):Nat):Int) s.toks=_;rw[show its.toArray.toList=its from rfl,wE r fx]
theorem pO(hc:X.calm=true):dn X (.builtin "max") (fun xs H Q=>∃(p:Addr)(ns:List Int),xs=[.ref p]/\SqL X.K H p (ns.map V.int)/\ns≠[]/\∀M,M∈ns->(∀a∈ns,a<=M)->Q (.int M) H):=by
 intro pins s σ H xs us Q I r h;obtain⟨p,ns,rfl,hq,hne,q⟩:=h;obtain⟨u,rfl,rx⟩:=r.one;cases rx;obtain⟨its,rv,pl,hz⟩:=I.list hq;have hi:=nU rv;obtain⟨zs,ez⟩:=(hi.allInts).items;have hl:s.heap.IsList p (intItems zs):=by rw[<-ez];exact pl.isList
 have hnum:zs.toList.map (·.1)=ns:=by
  rw[<-nums_intItems,<-ez];exact hi.numsOf
 have hsz:zs.size=ns.length:=by rw[<-hnum];simp
 have hpos:0<zs.size:=by
  rw[hsz];exact List.length_pos_iff.mpr hne
 refine max_intList (I.ok.hd hc) hl hpos fun v h' tk hv hk=>?_;obtain⟨t,rfl⟩:=intItems_at hv;obtain⟨h1,h2⟩:=argBest_gt (numAt zs) (zs.size-1);refine⟨.int _,H,I.kept hk,⟨t,rfl⟩,q _ ?_ fun a ha=>?_⟩
 ·rw[numAt_eq,hnum]
  exact getD_mem (by omega)
 ·rw[<-hnum]at ha
  obtain⟨j,hj,rfl⟩:=mem_getD ha;rw[Kk,K8]at hj;rw[<-numAt_eq];exact h2 j (by omega)
noncomputable def yn:V->List V->Hp->VK->Prop:=fun x vs H Q=>∃(l:Addr)(ns:List Int)(m:Int)(j:Nat),x=.ref l/\vs=[.int m]/\H l=some (.lst (ns.map V.int))/\ns[j]?=some m/\(∀i,i<j->ns[i]?≠some m)/\j<=1000/\Q (.int j) H
theorem EC:MtR X "list.index" yn:=by
 intro pins s σ H x vs v us Q I rx rv h;obtain⟨l,ns,m,j,rfl,rfl,hH,hj,hno,h1000,q⟩:=h;cases rx;obtain⟨u,rfl,t,rfl⟩:=rv.one;obtain⟨z,its,n,r,hl,e⟩:=I.lstM hH;have at_:∀(i:Nat)(hi:i<its.toArray.size),∃k t',ns[i]?=some k/\its.toArray[i]=.int k t':=fun i hi=>by
  have hi':i<ns.length:=by
   rw[Kk]at hl;have:i<its.length:=by simpa using hi
   omega
  obtain⟨w',hw,rw'⟩:=r.get (i:=i) (x:=.int ns[i]) (by rw[Kz,Kj hi']<;>rfl);obtain⟨t',e'⟩:=(show∃t',w'=Nf ns[i] t' from rw');have:=(Kn.mp hw).2;exact⟨ns[i],t',Kj hi',by rw[<-e'];simpa using this⟩
 have hjs:j<its.toArray.size:=by
  have:=(Kn.mp hj).1;rw[Kk]at hl;simp only[KH];omega
 refine O3 Qu ⟨_,e,rfl⟩ PySem.F.entry_list_index (PySem.F.args_list_index_2 _ _) (SeqAt.list_indexAt l its.toArray n none #[] (.int m t) (eqU (.int m)) j hjs (by omega) ?_ ?_) ⟨e,fun y hy=>?_,?_⟩
 ·obtain⟨k,t',e1,e2⟩:=at_ j hjs
  rw[e2];rw[hj]at e1;cases e1;exact beq_self_eq_true m
 ·intro i hi hlt
  obtain⟨k,t',e1,e2⟩:=at_ i hi;rw[e2];show(k==m)=false;exact beq_eq_false_iff_ne.mpr fun z=>hno i hlt (by rw[e1,z])
 ·exact lT (x:=.int m) ⟨t,rfl⟩ rfl r (by rw[MV];simp[dt]) y (by simpa using hy)
 ·exact⟨.int j,H,I.tok _,⟨_,rfl⟩,q⟩
end
end
end L2
section
namespace L2
open PySem
section
variable{σ:St}{H:Hp}{Q:VK}{D:jk}{K:Fg}
theorem bB{t u:TS}(h:t { nx:=u D,rt:=D.rt,bk:=D.bk,ct:=D.ct } σ H):ar t u D σ H:=h
theorem qF{t u:TS}(h:∀NX:St->Hp->Prop,(∀σ H,u D σ H->NX σ H)->t { nx:=NX,rt:=D.rt,bk:=D.bk,ct:=D.ct } σ H):ar t u D σ H:=h _ fun _ _ h=>h
theorem C6(h:D.nx σ H):bv D σ H:=h
theorem Ba{te:TE}{g:TG}(h:te σ H fun x H1=>g x σ H1 D.nx):aK te g D σ H:=h
theorem Ju{te:TE}(h:te σ H D.rt):aN te D σ H:=h
theorem Iw{te:TE}(h:te σ H fun _ H1=>D.nx σ H1):bR te D σ H:=h
theorem F1{c:TT}{t u:TS}(h:c σ H fun b H1=>if b=true then t D σ H1 else u D σ H1):bD c t u D σ H:=h
theorem C7{i:Nat}{v:V}{R:St->Hp->Prop}(h:R (σ.set i (some v)) H):ao i v σ H R:=h
theorem Ix{to ti:TE}{t:AR}{v:V}{R:St->Hp->Prop}(h:to σ H fun o H1=>ti σ H1 fun i H2=>t o i v H2 fun H3=>R σ H3):pB to ti t v σ H R:=h
theorem pP{p:Addr}{xs:List V}{k:Int}{v:V}{R:Hp->Prop}{j:Nat}(e:H p=some (.lst xs))(hj:ixN xs.length k=some j)(h:R (upd H p (.lst (xs.set j v)))):mE (.ref p) (.int k) v H R:=⟨p,xs,k,j,rfl,rfl,e,hj,h⟩
theorem Bb{i:Nat}{v:V}(e:σ[i]?=some (some v))(h:Q v H):ad i σ H Q:=⟨v,e,h⟩
theorem r_c{v:V}(h:Q v H):tC v σ H Q:=h
theorem ED{r:R2}{ta tb:TE}(h:ta σ H fun x H1=>tb σ H1 fun y H2=>r x y H2 Q):tOp r ta tb σ H Q:=h
theorem JY{r:V->Hp->VK->Prop}{ta:TE}(h:ta σ H fun x H1=>r x H1 Q):tUn r ta σ H Q:=h
theorem JZ{g:Int->Int->V}{i j:Int}(h:Q (g i j) H):rI0 g (.int i) (.int j) H Q:=⟨i,j,rfl,rfl,h⟩
theorem r_I{C:Int->Int->Prop}{g:Int->Int->V}{i j:Int}(c:C i j)(h:Q (g i j) H):rI C g (.int i) (.int j) H Q:=⟨i,j,rfl,rfl,c,h⟩
theorem r_U{g:Int->V}{i:Int}(h:Q (g i) H):rU g (.int i) H Q:=⟨i,rfl,h⟩
theorem Jv{i j:Int}(h:Q (.bl (decide (i=j))) H):rEq (.int i) (.int j) H Q:=⟨rfl,by rw[show decide (V.int i=V.int j)=decide (i=j)from decide_eq_decide.mpr ⟨fun e=>by injection e,fun e=>by rw[e]⟩];exact h⟩
theorem Jw{i j:Int}(h:Q (.bl (!decide (i=j))) H):rNe (.int i) (.int j) H Q:=⟨rfl,by rw[show decide (V.int i=V.int j)=decide (i=j)from decide_eq_decide.mpr ⟨fun e=>by injection e,fun e=>by rw[e]⟩];exact h⟩
theorem Iy{t:TE}{R:Bool->Hp->Prop}(h:t σ H fun x H'=>∃k,x=.bl k/\R k H'):br t σ H R:=h
theorem J0{t:TE}{R:Bool->Hp->Prop}(h:t σ H fun x H'=>∃k,x=.bl k/\R k H'):tB t σ H R:=h
theorem Iz{b:Bool}{R:Bool->Prop}(h:R b):∃k,V.bl b=.bl k/\R k:=⟨b,rfl,h⟩
theorem J7{t u:TT}{R:Bool->Hp->Prop}(h:t σ H fun c H1=>if c=true then R true H1 else u σ H1 R):tOr t u σ H R:=h
theorem Jx{t:TT}{R:Bool->Hp->Prop}(h:t σ H fun c H1=>R (!c) H1):fY t σ H R:=h
theorem IB{ta tb:TE}(h:ta σ H fun x H1=>∃c,x=.bl c/\if c=true then tb σ H1 Q else Q (.bl false) H1):mD ta tb σ H Q:=h
theorem Jy{ta tb:TE}(h:ta σ H fun x H1=>∃c,x=.bl c/\if c=true then Q (.bl true) H1 else tb σ H1 Q):Ej ta tb σ H Q:=h
theorem IC{ta:TE}(h:ta σ H fun x H1=>∃c,x=.bl c/\Q (.bl (!c)) H1):xH ta σ H Q:=h
theorem F2{R:List V->Hp->Prop}(h:R [] H):ag σ H R:=h
theorem C8{ta:TE}{tr:TA}{R:List V->Hp->Prop}(h:ta σ H fun x H1=>tr σ H1 fun xs H2=>R (x::xs) H2):aa ta tr σ H R:=h
theorem ID{sp:Sp}{E:XK}{t:TA}(h:t σ H fun vs H1=>sp vs H1 Q E):aq sp [] E t σ H Q:=by
 show t σ H fun vs H1=>sp (vs++[]) H1 Q E;simpa only[MI]using h
theorem J8{r:List V->Hp->VK->Prop}{t:TA}(h:t σ H fun vs H1=>r vs H1 Q):tCB r t σ H Q:=h
theorem J9{T:String}{r:V->List V->Hp->VK->Prop}{to:TE}{t:TA}(h:to σ H fun x H1=>tyV K T x H1/\t σ H1 fun xs H2=>r x xs H2 Q):tBM K T r to t σ H Q:=h
theorem Ka{r:V->Option Int->Option Int->Hp->VK->Prop}{te:TE}{tl th:TO}(h:te σ H fun x H1=>tl σ H1 fun l H2=>th σ H2 fun u H3=>r x l u H3 Q):tSl r te tl th σ H Q:=h
theorem EE{R:Option Int->Hp->Prop}(h:R none H):qA σ H R:=h
theorem IE{t:TE}{R:Option Int->Hp->Prop}(h:t σ H fun x H1=>∃i,x=.int i/\R (some i) H1):xJ t σ H R:=h
theorem Jz{i:Int}{R:Int->Prop}(h:R i):∃j,V.int i=.int j/\R j:=⟨i,rfl,h⟩
theorem JA{wi:TI}{g:TG}{tb:TS} (h:wi σ H fun J H1=>∃W:Nat->Nat->St->Hp->Prop,(∃m,W 0 m σ H1)/\∀i m σ H,W i m σ H->
  (J.stop i H/\D.nx σ H)\/(J.go i H/\∃N:St->Hp->Prop,(∀σ' H',N σ' H'->∃m',m'<m/\W (i+1) m' σ' H')/\∀x H',J.yld i H x H'->g x σ H' fun σ2 H2=>tb { D with nx:=N,ct:=N,bk:=D.nx } σ2 H2)):eX wi g tb D σ H:=h
theorem IF{wi:TI}{g:CF TG}{tt:CF TT}{te:CF TE}{ix:List (Option Nat)} (h:wi σ H fun J H1=>∀p,H1 p=none->
  ∃W:Nat->Nat->List V->Hp->Prop,(∃m,W 0 m [] (upd H1 p (.lst [])))/\∀C s' H' fp,cB J (g C s' H' fp) (tt C s' H' fp) (te C s' H' fp) (sub ix σ) p Q W):cc wi g tt te ix σ H Q:=h
section
variable{R:It->Hp->Prop}
theorem GH{tl:TE}(h:tl σ H fun x H1=>∃a,x=.ref a/\(∃xs,SqL K H1 a xs)/\R (Itl K a) H1):cX K tl σ H R:=h
theorem IG{tl:TE}(h:tl σ H fun x H1=>∃a,x=.ref a/\(∃xs,SqT K H1 a xs)/\R (Itt K a) H1):xZ K tl σ H R:=h
theorem GI{ta:TA}(h:ta σ H fun vs H1=>∃j:Int,vs=[.int j]/\-(2^62)<=j/\j<2^62/\R (Itr 0 j.toNat) H1):iI ta σ H R:=h
theorem GJ{S:Src}{ta:TA}(h:ta σ H fun vs H1=>∃a xs,vs=[.ref a]/\S.Sq K H1 a xs/\R (Ite S K a) H1):qC S K ta σ H R:=h
theorem IH{S1 S2:Src}{ta:TA}(h:ta σ H fun vs H1=>∃a b xs ys,vs=[.ref a,.ref b]/\S1.Sq K H1 a xs/\S2.Sq K H1 b ys/\R (Itz S1 S2 K a b) H1):pN S1 S2 K ta σ H R:=h
end
noncomputable def Off(l:Addr)(H H':Hp):Prop:=∀b,b≠l->H' b=H b
theorem jf{l:Addr}{o:HO}:Off l H (upd H l o):=fun b hb=>aM hb
theorem ap.off{H0 H':Hp}{l:Addr}(s:ap H0 H)(h:H0 l=none)(o:Off l H H'):ap H0 H':=fun b u q=>by rw[o b (bd q h)];exact s b u q
noncomputable def dF(H H':Hp):Prop:=∀b xs,H b=some (.tup xs)->H' b=some (.tup xs)
theorem dF.refl(H:Hp):dF H H:=fun _ _ h=>h
theorem ap.keep{H':Hp}(s:ap H H'):dF H H':=fun b _ h=>s b _ h
theorem dF.trans{H1 H2:Hp}(a:dF H H1)(b:dF H1 H2):dF H H2:=fun c o h=>b c o (a c o h)
theorem Off.keep{H':Hp}{l:Addr}{xs:List V}(o:Off l H H')(e:H l=some (.lst xs)):dF H H':=fun b ys q=>by
 rw[o b (FW q e (by intro z;cases z))];exact q
theorem yo{l:Addr}{xs:List V}{y:V}(e:H l=some (.lst xs))(hz:xs.length<Kw)(h:∀H',Off l H H'->H' l=some (.lst (xs++[y]))->Q .non H'):nD (.ref l) [y] H Q:=⟨l,xs,y,rfl,rfl,e,hz,h _ jf ay⟩
theorem Bc{l:Addr}{xs:List V}(e:H l=some (.lst xs)):tyV K "list" (.ref l) H:=.inl ⟨rfl,xs,SqL.of e⟩
theorem bW{l:Addr}{xs:List V}{i:Int}{v:V}(e:SqL K H l xs)(hv:atI xs i=some v)(h:Q v H):cz K (.ref l) (.int i) H Q:=⟨l,xs,i,v,rfl,rfl,e,hv,h⟩
theorem bS{l:Addr}{xs:List V}{i:Int}{v:V}(e:SqT K H l xs)(hv:atI xs i=some v)(h:Q v H):eY K (.ref l) (.int i) H Q:=⟨l,xs,i,v,rfl,rfl,e,hv,h⟩
end
theorem bN{p A B:Prop}[Decidable p](h1:p->A)(h2:¬p->B):if decide p=true then A else B:=by
 by_cases h:p
 ·rw[if_pos (decide_eq_true h)];exact h1 h
 ·rw[if_neg (by rw[decide_eq_false h];exact Kv)];exact h2 h
theorem yp{p A B:Prop}[Decidable p](h1:¬p->A)(h2:p->B):if(!decide p)=true then A else B:=by
 by_cases h:p
 ·rw[if_neg (by rw[decide_eq_true h];exact Kv)];exact h2 h
 ·rw[if_pos (by rw[decide_eq_false h];rfl)];exact h1 h
theorem jg{p A B:Prop}[Decidable p](h:p)(h1:A):if decide p=true then A else B:=bN (fun _=>h1) (fun n=>absurd h n)
theorem bC{p A B:Prop}[Decidable p](h:¬p)(h1:B):if decide p=true then A else B:=bN (fun n=>absurd n h) (fun _=>h1)
theorem pQ{b:Bool}{A B:Prop}(h1:b=false->A)(h2:b=true->B):if(!b)=true then A else B:=by cases b;exact r9 (h1 rfl);exact r6 (h2 rfl)
theorem Bd{A B:Prop}(h:B):if(!true)=true then A else B:=by exact r6 h
theorem JB{A B:Prop}(h:A):if(!false)=true then A else B:=by exact r9 h
theorem EF{σ:St}{H:Hp}{R:Bool->Hp->Prop}(h:R true H):bM σ H R:=h
theorem Be{B:(St->Hp->Prop)->Prop}{R:St->Hp->Prop}(h:B R):∃N:St->Hp->Prop,(∀σ' H',N σ' H'->R σ' H')/\B N:=⟨R,fun _ _ h=>h,h⟩
theorem Bf{c:TT}{tb:TS}{D:jk}{σ:St}{H:Hp}(W:Nat->St->Hp->Prop)(m:Nat)(h0:W m σ H)(h:∀m σ H,W m σ H->c σ H fun b H1=>if b=true then∃N:St->Hp->Prop,(∀σ' H',N σ' H'->∃m',m'<m/\W m' σ' H')/\tb { D with nx:=N,ct:=N,bk:=D.nx } σ H1 else D.nx σ H1):
  nA c tb D σ H:=⟨W,⟨m,h0⟩,h⟩
noncomputable def dP(K:Fg):List V->Hp->VK->Prop:=fun xs H Q=>∃p ys,xs=[.ref p]/\(SqL K H p ys\/SqT K H p ys)/\Q (.int ys.length) H
noncomputable def sd(K:Fg):List V->Hp->VK->Prop:=fun xs H Q=>∃(p:Addr)(ns:List Int),xs=[.ref p]/\SqL K H p (ns.map V.int)/\Q (.int ns.sum) H
noncomputable def Bg(K:Fg):List V->Hp->VK->Prop:=fun xs H Q=>∃(p:Addr)(bs:List Bool),xs=[.ref p]/\SqL K H p (bs.map V.bl)/\Q (.bl (bs.all id)) H
noncomputable def vI(K:Fg):List V->Hp->VK->Prop:=fun xs H Q=>∃(p:Addr)(ns:List Int),xs=[.ref p]/\SqL K H p (ns.map V.int)/\ns≠[]/\∀M,M∈ns->(∀a∈ns,a<=M)->Q (.int M) H
noncomputable def Bh:List V->Hp->VK->Prop:=fun xs H Q=>∃i j,xs=[.int i,.int j]/\Q (.int (if j<i then j else i)) H
noncomputable def F3:List V->Hp->VK->Prop:=fun xs H Q=>∃i j,xs=[.int i,.int j]/\Q (.int (if j>i then j else i)) H
noncomputable def II(K:Fg):List V->Hp->VK->Prop:=fun xs H Q=>∃p ys,xs=[.ref p]/\((SqL K H p ys/\∀l,H l=none->Q (.ref l) (upd H l (.tup ys)))\/(SqT K H p ys/\Q (.ref p) H))
section
variable{K:Fg}{H:Hp}{Q:VK}
theorem tO{l:Addr}{ys:List V}(e:SqL K H l ys)(h:Q (.int ys.length) H):dP K [.ref l] H Q:=⟨l,ys,rfl,.inl e,h⟩
theorem Av{l:Addr}{ys:List V}(e:SqT K H l ys)(h:Q (.int ys.length) H):dP K [.ref l] H Q:=⟨l,ys,rfl,.inr e,h⟩
theorem Bi{l:Addr}{ns:List Int}(e:SqL K H l (ns.map V.int))(h:Q (.int ns.sum) H):sd K [.ref l] H Q:=⟨l,ns,rfl,e,h⟩
theorem IJ{i j:Int}(h:Q (.int (if j<i then j else i)) H):Bh [.int i,.int j] H Q:=⟨i,j,rfl,h⟩
theorem IL{i j:Int}(h:Q (.int (if j>i then j else i)) H):F3 [.int i,.int j] H Q:=⟨i,j,rfl,h⟩
end
noncomputable def New(H:Hp)(o:HO)(Q:Addr->Hp->Prop):Prop:=∀p H',H p=none->ap H H'->H' p=some o->Q p H'
theorem New.upd{H:Hp}{o:HO}{Q:Addr->Hp->Prop}(h:New H o Q):∀p,H p=none->Q p (upd H p o):=fun p hp=>h p _ hp (bi hp _) ay
noncomputable def bz(t:TA):TE:=fun σ H Q=>t σ H fun xs H1=>xs.length<=Kw/\New H1 (.tup xs) fun p H2=>Q (.ref p) H2
noncomputable def bQ(t:TA):TE:=fun σ H Q=>t σ H fun xs H1=>xs.length<=Kw/\New H1 (.lst xs) fun p H2=>Q (.ref p) H2
noncomputable def nY:R2:=fun x y H Q=>∃l b xs zs,x=.ref l/\y=.ref b/\H l=some (.lst xs)/\H b=some (.lst zs)/\xs.length+zs.length<=Kw/\New H (.lst (xs++zs)) fun p H2=>Q (.ref p) H2
noncomputable def EG:R2:=fun x y H Q=>∃l k xs,x=.ref l/\y=.int k/\H l=some (.lst xs)/\-(2^63)<=k/\k<2^63/\xs.length*k.toNat<=Kw/\New H (.lst (Ls k.toNat xs).flatten) fun p H2=>Q (.ref p) H2
noncomputable def pR(K:Fg):List V->Hp->VK->Prop:=fun xs H Q=>∃p ys,xs=[.ref p]/\(SqL K H p ys\/SqT K H p ys)/\New H (.lst ys) fun l H2=>Q (.ref l) H2
section
variable{σ:St}{H:Hp}{Q:VK}{K:Fg}
theorem JC{t:TA}(h:t σ H fun xs H1=>xs.length<=Kw/\New H1 (.tup xs) fun p H2=>Q (.ref p) H2):bz t σ H Q:=h
theorem JD{t:TA}(h:t σ H fun xs H1=>xs.length<=Kw/\New H1 (.lst xs) fun p H2=>Q (.ref p) H2):bQ t σ H Q:=h
theorem nZ{l b:Addr}{xs zs:List V}(h1:H l=some (.lst xs))(h2:H b=some (.lst zs))(hz:xs.length+zs.length<=Kw)(h:∀p H',H p=none->ap H H'->H' p=some (.lst (xs++zs))->Q (.ref p) H'):nY (.ref l) (.ref b) H Q:=⟨l,b,xs,zs,rfl,rfl,h1,h2,hz,h⟩
theorem yq{p:Addr}{ys:List V}(e:SqL K H p ys)(h:∀l H',H l=none->ap H H'->H' l=some (.lst ys)->Q (.ref l) H'):pR K [.ref p] H Q:=⟨p,ys,rfl,.inl e,h⟩
end
section
variable{g:TG}{tb:TS}{NX:St->Hp->Prop}{RT:VK}{σ:St}{H:Hp}{K:Fg}
theorem n9{j:Int}(n:Nat)(hn:j.toNat=n)(hj:j<=1000000000)(hj0:-1000000000<=j)(Pv:Nat->St->Hp->Prop)(h0:Pv 0 σ H)(hs:∀i σ H,i<n->Pv i σ H->g (.int i) σ H fun σ2 H2=>tb { nx:=Pv (i+1),rt:=RT,bk:=NX,ct:=Pv (i+1) } σ2 H2)(hd:∀σ H,Pv n σ H->NX σ H):
  ∃j':Int,[V.int j]=[.int j']/\-(2^62)<=j'/\j'<2^62/\∃W:Nat->Nat->St->Hp->Prop,(∃m,W 0 m σ H)/\∀i m σ H,W i m σ H->
   ((Itr 0 j'.toNat).stop i H/\NX σ H)\/((Itr 0 j'.toNat).go i H/\∃N:St->Hp->Prop,(∀σ' H',N σ' H'->∃m',m'<m/\W (i+1) m' σ' H')/\∀x H',(Itr 0 j'.toNat).yld i H x H'->g x σ H' fun σ2 H2=>tb { nx:=N,rt:=RT,bk:=NX,ct:=N } σ2 H2):=by
 refine⟨j,rfl,by omega,by omega,?_⟩;subst hn;exact pF (lo:=0) (D:={ nx:=NX,rt:=RT }) Pv h0 (fun i σ H hi p=>by rw[RP];exact hs i σ H hi p) hd
theorem nH{a:Addr}(xs:List V)(hx:SqL K H a xs)(Pv:Nat->St->Hp->Prop)(h0:Pv 0 σ H)(hl:∀i σ H,i<=xs.length->Pv i σ H->SqL K H a xs)(hs:∀i x σ H,xs[i]?=some x->Pv i σ H->g x σ H fun σ2 H2=>tb { nx:=Pv (i+1),rt:=RT,bk:=NX,ct:=Pv (i+1) } σ2 H2)(hd:∀σ H,Pv xs.length σ H->NX σ H):
  ∃a',V.ref a=.ref a'/\(∃xs,SqL K H a' xs)/\∃W:Nat->Nat->St->Hp->Prop,(∃m,W 0 m σ H)/\∀i m σ H,W i m σ H->
   ((Itl K a').stop i H/\NX σ H)\/((Itl K a').go i H/\∃N:St->Hp->Prop,(∀σ' H',N σ' H'->∃m',m'<m/\W (i+1) m' σ' H')/\∀x H',(Itl K a').yld i H x H'->g x σ H' fun σ2 H2=>tb { nx:=N,rt:=RT,bk:=NX,ct:=N } σ2 H2):=
 ⟨a,rfl,⟨xs,hx⟩,rW (D:={ nx:=NX,rt:=RT }) Pv h0 hl hs hd⟩
theorem C9{a:Addr}(xs:List V)(hx:SqT K H a xs)(Pv:Nat->St->Hp->Prop)(h0:Pv 0 σ H)(hl:∀i σ H,i<=xs.length->Pv i σ H->SqT K H a xs)(hs:∀i x σ H,xs[i]?=some x->Pv i σ H->g x σ H fun σ2 H2=>tb { nx:=Pv (i+1),rt:=RT,bk:=NX,ct:=Pv (i+1) } σ2 H2)(hd:∀σ H,Pv xs.length σ H->NX σ H):
  ∃a',V.ref a=.ref a'/\(∃xs,SqT K H a' xs)/\∃W:Nat->Nat->St->Hp->Prop,(∃m,W 0 m σ H)/\∀i m σ H,W i m σ H->
   ((Itt K a').stop i H/\NX σ H)\/((Itt K a').go i H/\∃N:St->Hp->Prop,(∀σ' H',N σ' H'->∃m',m'<m/\W (i+1) m' σ' H')/\∀x H',(Itt K a').yld i H x H'->g x σ H' fun σ2 H2=>tb { nx:=N,rt:=RT,bk:=NX,ct:=N } σ2 H2):=
 ⟨a,rfl,⟨xs,hx⟩,Gq (D:={ nx:=NX,rt:=RT }) Pv h0 hl hs hd⟩
theorem Aw{S:Src}{a:Addr}(xs:List V)(hx:S.Sq K H a xs)(Pv:Nat->St->Hp->Prop)(h0:Pv 0 σ H)(hl:∀i σ H,i<=xs.length->Pv i σ H->S.Sq K H a xs)
  (hs:∀i x T σ H H',xs[i]?=some x->Pv i σ H->H T=none->ap H H'->H' T=some (.tup [.int i,x])->g (.ref T) σ H' fun σ2 H2=>tb { nx:=Pv (i+1),rt:=RT,bk:=NX,ct:=Pv (i+1) } σ2 H2) (hd:∀σ H,Pv xs.length σ H->NX σ H):
  ∃a' xs',[V.ref a]=[.ref a']/\S.Sq K H a' xs'/\∃W:Nat->Nat->St->Hp->Prop,(∃m,W 0 m σ H)/\∀i m σ H,W i m σ H->
   ((Ite S K a').stop i H/\NX σ H)\/((Ite S K a').go i H/\∃N:St->Hp->Prop,(∀σ' H',N σ' H'->∃m',m'<m/\W (i+1) m' σ' H')/\∀x H',(Ite S K a').yld i H x H'->g x σ H' fun σ2 H2=>tb { nx:=N,rt:=RT,bk:=NX,ct:=N } σ2 H2):=
 ⟨a,xs,rfl,hx,yk (D:={ nx:=NX,rt:=RT }) Pv h0 hl (fun i x T σ H e p hT=>hs i x T σ H _ e p hT (bi hT _) ay) hd⟩
end
theorem yr{α:Type}[DecidableEq α]:∀{xs:List α} {m:α},m∈xs->∃j:Nat,xs[j]?=some m/\∀i:Nat,i<j->xs[i]?≠some m
 |x::r,m,h=>by
  by_cases e:x=m
  ·exact⟨0,by rw[e];rfl,fun i hi=>absurd hi (by omega)⟩
  ·have hm:m∈r:=by
    rcases Kq.mp h with h|h
    ·exact absurd h.symm e
    ·exact h
   obtain⟨j,h1,h2⟩:=yr hm;refine⟨j+1,h1,fun i hi=>?_⟩;cases i with
   |zero=>intro z;exact e (KA z)
   |succ i=>exact h2 i (by omega)
theorem iq{K:Fg}{i j:Nat}{a:Addr}{x y:V}{σ:St}{H:Hp}{R:St->Hp->Prop}(e:SqT K H a [x,y])(h:R ((σ.set i (some x)).set j (some y)) H):ik K 2 (bx (ao i) (bx (ao j) ij)) (.ref a) σ H R:=
 ⟨a,[x,y],rfl,e,rfl,x,[y],rfl,y,[],rfl,rfl,h⟩
noncomputable def bJ(H:Hp)(p:Addr)(R:Nat->List V->Hp->Prop)(i:Nat)(acc:List V)(H2:Hp):Prop:=ap H H2/\H2 p=some (.lst acc)/\acc.length<=i/\R i acc H2
theorem bJ.put{H H4:Hp}{p:Addr}{R:Nat->List V->Hp->Prop}{i:Nat}{acc:List V}{y:V}(hp:H p=none)(st:∀i acc H H',R i acc H->dF H H'->R i acc H')(s:ap H H4)(e:H4 p=some (.lst acc))(l:acc.length<=i)(r:R (i+1) (acc++[y]) H4):
  H4 p=some (.lst acc)/\bJ H p R (i+1) (acc++[y]) (upd H4 p (.lst (acc++[y]))):=
 ⟨e,s.upd hp _,ay,by rw[KP];exact Rb l 1,st _ _ _ _ r (jf.keep e)⟩
theorem bJ.skip{H H4:Hp}{p:Addr}{R:Nat->List V->Hp->Prop}{i:Nat}{acc:List V}(s:ap H H4)(e:H4 p=some (.lst acc))(l:acc.length<=i)(r:R (i+1) acc H4):bJ H p R (i+1) acc H4:=⟨s,e,by omega,r⟩
section
variable{g:CF TG}{tt:CF TT}{te:CF TE}{σ₀:St}{Q:VK}{H:Hp}{K:Fg}
theorem fU{a:Addr}(xs:List V)(hx:SqL K H a xs)(hz:xs.length<=1000000)(R:Nat->List V->Hp->Prop)(h0:∀H',ap H H'->R 0 [] H')
  (hs:∀p,H p=none->∀C s' H' fp,∀i x acc H2,xs[i]?=some x->bJ H p R i acc H2->g C s' H' fp x σ₀ H2 fun σ2 H3=>tt C s' H' fp σ2 H3 fun b H4=>if b=true then te C s' H' fp σ2 H4 fun y H5=>H5 p=some (.lst acc)/\bJ H p R (i+1) (acc++[y]) (upd H5 p (.lst (acc++[y])))else bJ H p R (i+1) acc H4)
  (hd:∀p acc H2,H p=none->ap H H2->H2 p=some (.lst acc)->R xs.length acc H2->Q (.ref p) H2):
  ∃a',V.ref a=.ref a'/\(∃xs,SqL K H a' xs)/\∀p,H p=none->∃W:Nat->Nat->List V->Hp->Prop,(∃m,W 0 m [] (upd H p (.lst [])))/\∀C s' H' fp,cB (Itl K a') (g C s' H' fp) (tt C s' H' fp) (te C s' H' fp) σ₀ p Q W:=
 ⟨a,rfl,⟨xs,hx⟩,fun p hp=>wB (bJ H p R) ⟨bi hp _,ay,Km _,h0 _ (bi hp _)⟩ (fun i acc H2 _ c=>⟨c.2.1,c.2.2.1⟩) (fun i acc H2 _ c=>c.1.seq hx) (by rw[Kl];omega) (fun C s' H' fp i x acc H2 hi c=>hs p hp C s' H' fp i x acc H2 hi c) fun acc H2 c=>hd p acc H2 hp c.1 c.2.1 c.2.2.2⟩
end
section
variable{g:TG}{tb:TS}{NX:St->Hp->Prop}{RT:VK}{σ:St}{H:Hp}{K:Fg}
theorem IM{S1 S2:Src}{a b:Addr}(xs ys:List V)(hx:S1.Sq K H a xs)(hy:S2.Sq K H b ys)(Pv:Nat->St->Hp->Prop)(h0:Pv 0 σ H)(hl:∀i σ H,Pv i σ H->S1.Sq K H a xs/\S2.Sq K H b ys)
  (hs:∀i x y T σ H H',xs[i]?=some x->ys[i]?=some y->Pv i σ H->H T=none->ap H H'->H' T=some (.tup [x,y])->g (.ref T) σ H' fun σ2 H2=>tb { nx:=Pv (i+1),rt:=RT,bk:=NX,ct:=Pv (i+1) } σ2 H2) (hd:∀σ H,Pv (min xs.length ys.length) σ H->NX σ H):
  ∃a' b' xs' ys',[V.ref a,V.ref b]=[.ref a',.ref b']/\S1.Sq K H a' xs'/\S2.Sq K H b' ys'/\∃W:Nat->Nat->St->Hp->Prop,(∃m,W 0 m σ H)/\∀i m σ H,W i m σ H->
   ((Itz S1 S2 K a' b').stop i H/\NX σ H)\/((Itz S1 S2 K a' b').go i H/\∃N:St->Hp->Prop,(∀σ' H',N σ' H'->∃m',m'<m/\W (i+1) m' σ' H')/\∀x H',(Itz S1 S2 K a' b').yld i H x H'->g x σ H' fun σ2 H2=>tb { nx:=N,rt:=RT,bk:=NX,ct:=N } σ2 H2):=by
 refine⟨a,b,xs,ys,rfl,hx,hy,C1 (J:=Itz S1 S2 K a b) (n:=min xs.length ys.length) (D:={ nx:=NX,rt:=RT }) (Y:=fun i H x H1=>∃T u v,H T=none/\x=.ref T/\H1=upd H T (.tup [u,v])/\xs[i]?=some u/\ys[i]?=some v) Pv h0 (fun i σ H hi w=>?_) (fun σ H w=>?_) (fun i σ H x H1 hi w y=>?_) (fun i x σ H H1 hi w y=>?_) hd⟩
 ·obtain⟨q1,q2⟩:=hl i σ H w
  exact⟨xs,ys,xs[i],ys[i],q1,q2,by simp[show i<xs.length by omega],by simp[show i<ys.length by omega]⟩
 ·obtain⟨q1,q2⟩:=hl _ σ H w
  exact⟨xs,ys,q1,q2,rfl⟩
 ·obtain⟨T,u,v,e1,e2,e3,e4⟩:=y
  obtain⟨q1,q2⟩:=hl _ σ H w;obtain⟨e5,e6⟩:=e4 xs ys q1 q2;exact⟨T,u,v,e1,e2,e3,e5,e6⟩
 ·obtain⟨T,u,v,e1,rfl,rfl,e4,e5⟩:=y
  exact hs i u v T σ H _ e4 e5 w e1 (bi e1 _) ay
end
section
variable{K:Fg}{H:Hp}{Q:VK}{a b:Addr}{ns ms:List Int}
theorem JE(h1:SqT K H a (ns.map V.int))(h2:SqT K H b (ms.map V.int))(h:Q (.bl (decide (ns=ms))) H):Ez (SqT K) false (.ref a) (.ref b) H Q:=⟨a,b,_,_,_,rfl,rfl,h1,h2,C0 ns ms,by rw[A9];exact h⟩
theorem F4{x:V}{T:String}{t:Value}{c:Bool}(ty:fo K H x t)(e:LW K t (.type T)=some c)(h:Q (.bl c) H):mW K [x,.ty T] H Q:=⟨x,T,t,c,rfl,ty,e,h⟩
end
section
variable{g:CF TG}{tt:CF TT}{te:CF TE}{σ₀:St}{Q:VK}{H:Hp}{K:Fg}
theorem pS{S1 S2:Src}{a b:Addr}(xs ys:List V)(hx:S1.Sq K H a xs)(hy:S2.Sq K H b ys)(kx:∀H',ap H H'->S1.Sq K H' a xs)(ky:∀H',ap H H'->S2.Sq K H' b ys)(hz:xs.length<=1000000)(R:Nat->List V->Hp->Prop)(h0:∀H',ap H H'->R 0 [] H')
  (hs:∀p,H p=none->∀C s' H' fp,∀i x y T acc H2 H3,xs[i]?=some x->ys[i]?=some y->bJ H p R i acc H2->H2 T=none->ap H2 H3->H3 T=some (.tup [x,y])->H3 p=some (.lst acc)->g C s' H' fp (.ref T) σ₀ H3 fun σ2 H3=>tt C s' H' fp σ2 H3 fun b H4=>if b=true then te C s' H' fp σ2 H4 fun y H5=>H5 p=some (.lst acc)/\bJ H p R (i+1) (acc++[y]) (upd H5 p (.lst (acc++[y])))else bJ H p R (i+1) acc H4)
  (hd:∀p acc H2,H p=none->ap H H2->H2 p=some (.lst acc)->R (min xs.length ys.length) acc H2->Q (.ref p) H2):
  ∃a' b' xs' ys',[V.ref a,V.ref b]=[.ref a',.ref b']/\S1.Sq K H a' xs'/\S2.Sq K H b' ys'/\∀p,H p=none->∃W:Nat->Nat->List V->Hp->Prop,(∃m,W 0 m [] (upd H p (.lst [])))/\∀C s' H' fp,cB (Itz S1 S2 K a' b') (g C s' H' fp) (tt C s' H' fp) (te C s' H' fp) σ₀ p Q W:=by
 refine⟨a,b,xs,ys,rfl,hx,hy,fun p hp=>nE (n:=min xs.length ys.length) (Y:=fun i H x H1=>∃T u v,H T=none/\x=.ref T/\H1=upd H T (.tup [u,v])/\xs[i]?=some u/\ys[i]?=some v) (bJ H p R)
  ⟨bi hp _,ay,Km _,h0 _ (bi hp _)⟩ (fun i acc H2 _ c=>⟨c.2.1,c.2.2.1⟩) (by rw[Kl];omega) (fun i acc H2 hi c=>?_) (fun acc H2 c=>?_) (fun i acc H2 x H3 hi c y=>?_) (fun C s' H' fp i x acc H2 H3 hi c y=>?_) fun acc H2 c=>hd p acc H2 hp c.1 c.2.1 c.2.2.2⟩
 ·exact⟨xs,ys,xs[i],ys[i],kx _ c.1,ky _ c.1,by simp[show i<xs.length by omega],by simp[show i<ys.length by omega]⟩
 ·exact⟨xs,ys,kx _ c.1,ky _ c.1,rfl⟩
 ·obtain⟨T,u,v,e1,e2,e3,e4⟩:=y
  obtain⟨e5,e6⟩:=e4 xs ys (kx _ c.1) (ky _ c.1);exact⟨T,u,v,e1,e2,e3,e5,e6⟩
 ·obtain⟨T,u,v,e1,rfl,rfl,e4,e5⟩:=y
  exact hs p hp C s' H' fp i u v T acc H2 _ e4 e5 c e1 (bi e1 _) ay (by rw[aM (bd c.2.1 e1)];exact c.2.1)
noncomputable def Bj(K:Fg):V->Option Int->Option Int->Hp->VK->Prop:=fun x lo hi H Q=>∃a xs,x=.ref a/\SqT K H a xs/\¬(HT.sIx xs.length 0 lo=0/\HT.sIx xs.length xs.length hi=xs.length)/\New H (.tup (pJ xs lo hi)) fun p H2=>Q (.ref p) H2
theorem F5{a:Addr}{xs:List V}{lo hi:Option Int}(e:SqT K H a xs)(hn:¬(HT.sIx xs.length 0 lo=0/\HT.sIx xs.length xs.length hi=xs.length))(h:∀p H',H p=none->ap H H'->H' p=some (.tup (pJ xs lo hi))->Q (.ref p) H'):Bj K (.ref a) lo hi H Q:=⟨a,xs,rfl,e,hn,h⟩
theorem yt(x:V)(xs:List V):pJ (x::xs) (some 1) none=xs:=by
 unfold pJ;have e:HT.sIx (x::xs).length 0 (some 1)=min 1 (x::xs).length:=rfl;rw[e,show min 1 (x::xs).length=1 by simp];show((x::xs).drop 1).take ((x::xs).length-1)=xs;rw[OL (by simp)];rfl
theorem rF(x:V)(xs:List V):¬(HT.sIx (x::xs).length 0 (some 1)=0/\HT.sIx (x::xs).length (x::xs).length none=(x::xs).length):=fun h=>by
 have e:HT.sIx (x::xs).length 0 (some 1)=min 1 (x::xs).length:=rfl;rw[e,show min 1 (x::xs).length=1 by simp]at h;exact absurd h.1 (by decide)
theorem JF{x y:Str}(h:Q (.bl (decide (x=y))) H):rEq (.str x) (.str y) H Q:=⟨rfl,by rw[show decide (V.str x=V.str y)=decide (x=y)from decide_eq_decide.mpr ⟨fun e=>by injection e,fun e=>by rw[e]⟩];exact h⟩
noncomputable def Bk(kvs:List (Str×V))(a:Addr):R2:=fun x y H Q=>x=.ref a/\∃k v,y=.str k/\kvs.lookup k=some v/\Q v H
theorem F6{kvs:List (Str×V)}{a:Addr}{k:Str}{v:V}(e:kvs.lookup k=some v)(h:Q v H):Bk kvs a (.ref a) (.str k) H Q:=⟨rfl,k,v,rfl,e,h⟩
noncomputable def tP(kvs:List (Str×V))(a:Addr)(neg:Bool):R2:=fun x y H Q=>y=.ref a/\∃k,x=.str k/\Q (.bl (if neg then !(kvs.lookup k).isSome else(kvs.lookup k).isSome)) H
end
noncomputable def kZ(K:Fg)(a:Addr)(xs:List V):Prop:=∃(o:Obj)(its:Array Value)(n:Nat),K.lookup a=some o/\o.cls=.type "tuple"/\o.data=.seq its n/\its.size<=Kw/\aG xs its.toList
theorem kZ.sq{K:Fg}{a:Addr}{xs:List V}(h:kZ K a xs)(H:Hp):SqT K H a xs:=.inr h
section
variable{H:Hp}{Q:VK}{K:Fg}
theorem EH{l b:Addr}{xs zs:List V}(e:H l=some (.lst xs))(eb:H b=some (.lst zs))(hz:xs.length+zs.length<=Kw)(h:∀H',Off l H H'->H' l=some (.lst (xs++zs))->Q .non H'):vG (.ref l) [.ref b] H Q:=⟨l,b,xs,zs,rfl,rfl,e,eb,hz,h _ jf ay⟩
theorem JG{a:Addr}{x:V}{xs:List V}{c:Bool}(e:SqT K H a xs)(fx:dt x=true)(fs:xs.all dt=true)(hc:inV x xs=c)(h:Q (.bl c) H):rIn K false x (.ref a) H Q:=⟨a,xs,rfl,.inr e,fx,fs,by rw[<-hc]at h;exact h⟩
end
noncomputable def Bl:TE:=fun _ H Q=>New H (.dK []) fun p H2=>Q (.ref p) H2
theorem IN{σ:St}{H:Hp}{Q:VK}(h:∀p H',H p=none->ap H H'->H' p=some (.dK [])->Q (.ref p) H'):Bl σ H Q:=h
end L2
end
local macro_rules | `(tactic| walk_at "rb1")=>`(tactic| first
 | ((with_reducible refine' L2.Bb (v:=?v) ?e ?h);(case e=>exact rfl))
 | (with_reducible first|refine L2.C6 ?_|refine L2.Ba ?_|refine L2.Ju ?_|refine L2.Iw ?_|refine L2.C7 ?_|refine L2.Ix ?_|refine L2.r_c ?_|refine L2.ED ?_|refine L2.JY ?_|refine L2.JZ ?_|refine L2.r_U ?_|refine L2.Jv ?_|refine L2.Jw ?_|refine L2.JF ?_|refine L2.Iy ?_|refine L2.J0 ?_|refine L2.Iz ?_|refine L2.Jz ?_|refine L2.J7 ?_|refine L2.Jx ?_|refine L2.IB ?_|refine L2.Jy ?_|refine L2.IC ?_|refine L2.F2 ?_|refine L2.C8 ?_|refine L2.ID ?_|refine L2.J8 ?_|refine L2.J9 ?_|refine L2.Ka ?_|refine L2.EE ?_|refine L2.IE ?_|refine L2.JA ?_|refine L2.IF ?_|refine L2.GH ?_|refine L2.IG ?_|refine L2.GI ?_|refine L2.GJ ?_|refine L2.IH ?_|refine L2.JC ?_|refine L2.JD ?_|refine L2.IJ ?_|refine L2.IL ?_|refine L2.r9 ?_|refine L2.r6 ?_|refine L2.Bd ?_|refine L2.JB ?_|refine L2.EF ?_)
 | ((with_reducible refine L2.r_I ?_ ?_);(first| (show(0:Int)<_;omega)| (show(0:Int)<_;decide)|exact⟨by decide,by decide,by decide⟩|exact And.intro (by omega) (by omega)|exact(PySem.IntMulOk.of_right (RB (by omega) (by omega)))|exact(PySem.IntMulOk.of_left (RB (by omega) (by omega)))))
 | ((with_reducible refine' L2.tO (ys:=?y) ?e ?h);(case e=>first|assumption|exact L2.SqL.of (by assumption)))
 | ((with_reducible refine' L2.Av (ys:=?y) ?e ?h);(case e=>first|assumption|exact L2.SqT.of (by assumption)))
 |dsimp only[RQ,RS,L2.sub,KL,NT,List.getElem?_cons_zero,List.getElem?_cons_succ])
local macro_rules | `(tactic| walk_at "rd")=>`(tactic| repeat (first | (with_reducible first | refine L2.bB ?_ | refine L2.F1 ?_) | walk_at "rb1"))
local macro_rules | `(tactic| walk_at "rs")=>`(tactic| repeat (first | (with_reducible refine L2.F1 ?_) | walk_at "rb1"))
local macro_rules | `(tactic| walk_at "ra")=>`(tactic| repeat (walk_at "rb1"))
local macro_rules | `(tactic| right) => `(tactic| walk_at "rd")
local macro_rules | `(tactic| nofun) => `(tactic| walk_at "rs")
namespace L2
open PySem PyProof.Rows
noncomputable abbrev IA:=Option Int
noncomputable abbrev IK:=Sum IA (List IA)
noncomputable abbrev MK:=Sum IA (List IK)
noncomputable def iaV:V->Option IA
 | .non=>some none
 | .bl b=>some (some (if b then 1 else 0))
 | .int i=>some (some i)
 |_=>none
noncomputable def mH(H:Hp)(x:V):IK->Prop
 | .inl a=>iaV x=some a
 | .inr as=>∃c ys,x=.ref c/\H c=some (.tup ys)/\ys.map iaV=as.map some
noncomputable def cR(H:Hp)(x:V):MK->Prop
 | .inl a=>iaV x=some a
 | .inr is=>∃c xs,x=.ref c/\H c=some (.tup xs)/\Paired (mH H) xs is
noncomputable def mI:MK->Bool
 | .inl _=>false
 | .inr _=>true
theorem mH.keep{H H':Hp}{x:V}{k:IK}(h:mH H x k)(kp:dF H H'):mH H' x k:=by
 cases k with
 |inl a=>exact h
 |inr as=>obtain⟨c,ys,e,q,r⟩:=h;exact⟨c,ys,e,kp _ _ q,r⟩
theorem cR.keep{H H':Hp}{x:V}{k:MK}(h:cR H x k)(kp:dF H H'):cR H' x k:=by
 cases k with
 |inl a=>exact h
 |inr as=>obtain⟨c,xs,e,q,r⟩:=h;exact⟨c,xs,e,kp _ _ q,Paired.mapP r fun _ _ z=>mH.keep z kp⟩
theorem wF{H H':Hp}{xs:List V}{ks:List MK}(h:Paired (cR H) xs ks)(kp:dF H H'):Paired (cR H') xs ks:=Paired.mapP h fun _ _ z=>cR.keep z kp
theorem cf{α β:Type}{F:α->β->Prop}:∀{xs:List α} {ys:List β} {i:Nat} {x:α},Paired F xs ys->xs[i]?=some x->∃y,ys[i]?=some y/\F x y
 |_,_,_,_,.nil,e=>by simp at e
 |_,_,0,_,.cons r _,e=>by simp at e;subst e;exact⟨_,rfl,r⟩
 |_,_,i+1,x,.cons _ t,e=>by
  obtain⟨u,h1,h2⟩:=cf (i:=i) (x:=x) t (by simpa using e);exact⟨u,by simpa using h1,h2⟩
theorem tQ(H:Hp):∀ns:List Int,Paired (mH H) (ns.map V.int) (ns.map fun n=>(MM (some n):IK))
 | []=>.nil
 |n::r=>.cons rfl (tQ H r)
theorem GK{H:Hp}{c:Addr}{ns:List Int}(e:H c=some (.tup (ns.map V.int))):cR H (.ref c) (.inr (ns.map fun n=>(MM (some n):IK))):=⟨c,_,rfl,e,tQ H ns⟩
theorem Off.keepD{H H':Hp}{l:Addr}(o:Off l H H')(h:∀xs,H l≠some (.tup xs)):dF H H':=fun b ys q=>by
 rw[o b (fun z=>by subst z;exact h _ q)];exact q
noncomputable def bq{α:Type}[DecidableEq α](ks:List α):List Nat:=ks.map fun k=>ks.idxOf k
theorem dC{α:Type}[DecidableEq α](ks:List α):(bq ks).length=ks.length:=Kk _
theorem Bm{α:Type}[DecidableEq α]{ks:List α}{i:Nat}{k:α}(h:k∈ks.take i):(ks.take i).idxOf k=ks.idxOf k:=by
 have:=R9 (l₁:=ks.take i) (l₂:=ks.drop i) (a:=k);rw[NU,if_pos h]at this;exact this.symm
theorem wG{α:Type}[DecidableEq α]{ks:List α}{i:Nat}{k:α}(hk:ks[i]?=some k)(h:k∉ks.take i):ks.idxOf k=i:=by
 obtain⟨hi,e⟩:=Kn.mp hk;have e1:ks=ks.take i++(k::ks.drop (i+1)):=by
  rw[<-e,List.getElem_cons_drop,NU]
 have:=R9 (l₁:=ks.take i) (l₂:=k::ks.drop (i+1)) (a:=k);rw[<-e1,if_neg h,List.idxOf_cons_self,Mn]at this;omega
theorem cI{α:Type}{ks:List α}{i:Nat}{k:α}(hk:ks[i]?=some k):ks.take (i+1)=ks.take i++[k]:=by
 rw[LJ,hk];rfl
theorem rG{α β:Type}[DecidableEq α][DecidableEq β]{f:α->β}(inj:∀a b,f a=f b->a=b)(ks:List α):bq (ks.map f)=bq ks:=by
 unfold bq;rw[MW];refine My fun k hk=>?_;show(ks.map f).idxOf (f k)=ks.idxOf k;clear hk
 induction ks with
 |nil=>rfl
 |cons a r ih=>
  rw[KL,S7,S7,ih];by_cases e:a=k
  ·rw[e,beq_self_eq_true,beq_self_eq_true]
  ·rw[beq_eq_false_iff_ne.mpr e,beq_eq_false_iff_ne.mpr (fun z=>e (inj _ _ z))]
theorem tR{α:Type}[DecidableEq α]{ks:List α}{i:Nat}{z:Nat}(h:(bq ks)[i]?=some z):∃k,ks[i]?=some k/\z=ks.idxOf k/\z<=i:=by
 unfold bq at h;rw[Kz]at h;cases e:ks[i]? with
 |none=>rw[e]at h;cases h
 |some k=>
  rw[e]at h;refine⟨k,rfl,(KA h).symm,?_⟩;rw[<-KA h];show ks.idxOf k<=i;by_cases q:k∈ks.take i
  ·have:=Py q
   rw[Bm q,Mn]at this;omega
  ·rw[wG e q];exact Km _
section
open PySem.Spec
section
variable{κ:Type}[DecidableEq κ]
noncomputable def fZ(kvs:List (κ×V))(k:κ):Option V:=(kvs.find? fun kv=>decide (kv.1=k)).map (·.2)
noncomputable def pT(kvs:List (κ×V))(k:κ)(v:V):List (κ×V):=
 if(kvs.any fun kv=>decide (kv.1=k))=true then kvs.map (fun kv=>if kv.1=k then(kv.1,v)else kv)else kvs++[(k,v)]
theorem eZ{p:κ×V}{r:List (κ×V)}{k:κ}(e:p.1=k):fZ (p::r) k=some p.2:=by simp[fZ,La,e]
theorem fb{p:κ×V}{r:List (κ×V)}{k:κ}(e:¬p.1=k):fZ (p::r) k=fZ r k:=by simp[fZ,La,e]
theorem se(k:κ):∀kvs:List (κ×V),(kvs.any fun kv=>decide (kv.1=k))=(fZ kvs k).isSome
 | []=>rfl
 |p::r=>by
  rw[ON];by_cases e:p.1=k
  ·simp only[eZ e,decide_eq_true e,Bool.true_or,RU]
  ·rw[fb e,decide_eq_false e,Bool.false_or];exact se k r
theorem yu(k j:κ)(y:V):∀kvs:List (κ×V),fZ (kvs.map fun kv=>if kv.1=k then(kv.1,y)else kv) j=(fZ kvs j).map fun x=>if j=k then y else x
 | []=>rfl
 |p::r=>by
  have ih:=yu k j y r;rw[KL];by_cases h:p.1=k
  ·rw[if_pos h]
   by_cases e:p.1=j
   ·rw[eZ (p:=(p.1,y)) e,eZ e,O5,if_pos (e.symm.trans h)]
   ·rw[fb (p:=(p.1,y)) e,fb e,ih]
  ·rw[if_neg h]
   by_cases e:p.1=j
   ·rw[eZ (p:=p) e,eZ e,O5,if_neg (fun z=>h (e.trans z))]
   ·rw[fb (p:=p) e,fb e,ih]
theorem wH(k j:κ)(y:V):∀kvs:List (κ×V),fZ kvs k=none->fZ (kvs++[(k,y)]) j=if j=k then some y else fZ kvs j
 | [],_=>by
  by_cases e:k=j
  ·rw[if_pos e.symm];exact eZ (p:=(k,y)) e
  ·rw[if_neg (fun z=>e z.symm)];exact fb (p:=(k,y)) e
 |p::r,hn=>by
  rw[SG];have hk:¬p.1=k:=fun z=>by rw[eZ z]at hn;cases hn
  rw[fb hk]at hn;have ih:=wH k j y r hn;by_cases e:p.1=j
  ·rw[eZ e,eZ e,if_neg (fun z=>hk (e.trans z))]
  ·rw[fb e,fb e,ih]
theorem EI(kvs:List (κ×V))(k j:κ)(y:V):fZ (pT kvs k y) j=if j=k then some y else fZ kvs j:=by
 unfold pT;by_cases a:(kvs.any fun kv=>decide (kv.1=k))=true
 ·rw[if_pos a,yu]
  rw[se]at a;by_cases e:j=k
  ·obtain⟨x,hx⟩:=Qc.mp a
   rw[if_pos e,e,hx,O5,if_pos rfl]
  ·rw[if_neg e]
   cases fZ kvs j with
   |none=>rfl
   |some x=>rw[O5,if_neg e]
 ·rw[if_neg a]
  refine wH k j y kvs ?_;rw[se]at a;cases q:fZ kvs k with
  |none=>rfl
  |some x=>rw[q]at a;exact(a rfl).elim
theorem rH(kvs:List (κ×V))(k:κ)(v:V):(pT kvs k v).length<=kvs.length+1:=by
 unfold pT
 split
 ·rw[Kk];omega
 ·rw[KP,KQ,Mj];omega
theorem fX.isSome_eq{o:Option V}{u:Option Value}(r:fX o u):o.isSome=u.isSome:=by
 cases o with
 |none=>cases u with
  |none=>rfl
  |some _=>exact(show False from r).elim
 |some _=>cases u with
  |none=>exact(show False from r).elim
  |some _=>rfl
theorem fX.getD{o:Option V}{u:Option Value}{d:V}{d':Value}(r:fX o u)(rd:aI d d'):aI (o.getD d) (u.getD d'):=by
 cases o with
 |none=>cases u with
  |none=>exact rd
  |some _=>exact(show False from r).elim
 |some _=>cases u with
  |none=>exact(show False from r).elim
  |some _=>exact r
theorem KV.val{kvs:List (κ×V)}{vs:List (κ×Value)}(r:KV kvs vs)(k:κ):fX (fZ kvs k) (valueAt vs k):=by
 unfold KV at r
 induction r with
 |nil=>exact MT
 | @cons p q ps qs h t ih=>
  obtain⟨h1,h2⟩:=h;by_cases e:p.1=k
  ·have e':q.1=k:=h1.symm.trans e
   have b:valueAt (q::qs) k=some q.2:=by simp[valueAt,La,e']
   rw[eZ e,b];exact h2
  ·have e':¬q.1=k:=fun z=>e (h1.trans z)
   have b:valueAt (q::qs) k=valueAt qs k:=by simp[valueAt,La,e']
   rw[fb e,b];exact ih
theorem KV.any{kvs:List (κ×V)}{vs:List (κ×Value)}(r:KV kvs vs)(k:κ):(kvs.any fun kv=>decide (kv.1=k))=vs.any fun kv=>decide (kv.1=k):=by
 unfold KV at r
 induction r with
 |nil=>rfl
 |cons h t ih=>rw[ON,ON,ih,h.1]
theorem KV.repl{kvs:List (κ×V)}{vs:List (κ×Value)}(r:KV kvs vs)(k:κ){y:V}{u:Value}(ry:aI y u):
  KV (kvs.map fun kv=>if kv.1=k then(kv.1,y)else kv) (vs.map fun kv=>if kv.1=k then(kv.1,u)else kv):=by
 unfold KV at r ⊢
 induction r with
 |nil=>exact .nil
 | @cons p q ps qs h t ih=>
  rw[KL,KL];refine .cons ?_ ih;obtain⟨h1,h2⟩:=h;by_cases e:p.1=k
  ·rw[if_pos e,if_pos (h1.symm.trans e)];exact⟨h1,ry⟩
  ·rw[if_neg e,if_neg (fun z=>e (h1.trans z))];exact⟨h1,h2⟩
theorem KV.put{kvs:List (κ×V)}{vs:List (κ×Value)}(r:KV kvs vs)(k:κ){y:V}{u:Value}(ry:aI y u):KV (pT kvs k y) (stored vs k u):=by
 unfold pT stored;rw[r.any k];by_cases e:(vs.any fun kv=>decide (kv.1=k))=true
 ·rw[if_pos e,if_pos e];exact r.repl k ry
 ·rw[if_neg e,if_neg e];exact Paired.snoc r ⟨rfl,ry⟩
theorem KV.length{kvs:List (κ×V)}{vs:List (κ×Value)}(r:KV kvs vs):kvs.length=vs.length:=Lv r
end
theorem F7{P:Program}{w:World}{k:Key}{u:Value}(r:aI (kV k) u):(jd P w).is k u=true:=by
 cases k with
 |inl i=>obtain⟨t,e⟩:=(show∃t,u=Nf i t from r);subst e;exact zA P w i t
 |inr x=>obtain⟨t,e⟩:=(show∃t,u=Qy x t from r);subst e;exact bt P w x t
noncomputable abbrev KT(H:Hp):List (List Key×V)->List (List Key×Addr×Value)->Prop:=Paired fun p q=>p.1=q.1/\H q.2.1=some (.tup (p.1.map kV))/\aI p.2 q.2.2
theorem KT.keeps{H H':Hp}{kvs:List (List Key×V)}{xs:List (List Key×Addr×Value)}(r:KT H kvs xs)(ht:∀b ys,H b=some (.tup ys)->H' b=some (.tup ys)):KT H' kvs xs:=
 Paired.mapP r fun _ _ z=>⟨z.1,ht _ _ z.2.1,z.2.2⟩
section
variable{P:Program}{w:World}{H:Hp}{h:Heap}{a:Addr}
end
section
variable{X:Cx}{pins:List (Addr×Obj)}{σ:St}{H:Hp}{s:Shared}{a:Addr}{y v:V}{u r:Value}{o:Option V}{A:Around}{E:Value->Shared->Prop}
theorem Inv.big(I:Inv X pins σ H s):Mb<s.heap.objs.size:=by
 have h:KW<s.heap.objs.size:=(I.mod.glob.keeps I.bk).lt;exact Nat.lt_trans (by decide) h
theorem Ax{h':Heap}{t':Nat}{ob:HO}(I:Inv X pins σ H s)(mu:Mut (H a))(hs:KJ a s.heap h')(he:∃q,h'.get? a=some q)(new:bE X.prog X.w (upd H a ob) h' a ob):
  Inv X pins σ (upd H a ob) { s with heap:=h',toks:=t' }:=
 I.write (x:=a) (e:=a) mu (.inl rfl) (fun b q hb z=>(hs.2 b hb).trans z) he new
end
section
variable{X:Cx}{pins:List (Addr×Obj)}{σ:St}{H:Hp}{s:Shared}{a:Addr}{kvs:List (Key×V)}{k:Key}{u:Value}{A:Around}{E:Value->Shared->Prop}
end
noncomputable def EJ(i:Expr):Prop:=∀ov iv,QL i false ov iv=operate [ov,iv] (getItem ov iv)
theorem Ay{prog:Program}{w:World}{A:Around}{E:Value->Shared->Prop}{s:Shared}{env:Env}{value slice:Expr}{pos:Pos}{T id:String}{Q:Value->Shared->Prop}
  (hl:Q6 (.type T) "__getitem__"=pure (some (.builtin id))) (hs:EJ slice)
  (h:wpAny (model prog w) A (eval value env) (fun o s₁=>wpAny (model prog w) A (eval slice env) (fun i s₂=>s₂.TypeIs o T/\wpAny (model prog w) A (getItem o i) Q E s₂) E s₁) E s):
  wpAny (model prog w) A (eval (.Subscript value slice pos) env) Q E s:=by
 refine SV (LM h (fun o s₁ h₁=>LM h₁ (fun i s₂ h₂=>?_) fun _ _ x=>x) fun _ _ x=>x);obtain⟨hT,h₂⟩:=h₂;unfold Rp;refine Kg ?_;rw[getitemInPython_of_ne hT.not_modules];refine Kg (LY hT hl ?_);have fin:wpAny (model prog w) A (QL slice false o i) (fun r s₃=>wpAny (model prog w) A (letTemporaryGo value o r>>=fun _=>pure r) Q E s₃) E s₂:=by
  rw[hs o i];exact wpAny_operating (LM h₂ (fun r s₃ h₃=>Kg (wpAny_letTemporaryGo (Ki h₃))) fun _ _ x=>x)
 first
  |exact Ki (Kg fin)
  |exact Kg (Ki (Kg fin))
  |exact Kg fin
section
variable{X:Cx}{o i e value:Expr}{pos pos' tpos:Pos}{td ty tv:TE}
end
theorem EK{P:Program}{w:World}{H:Hp}(h:Heap)(hb:Mb<h.objs.size):bE P w H (h.push { cls:=.type "dict",data:=.dict #[] }) h.objs.size (.dK []):=
 ⟨Lk _,beq_eq_false_iff_ne.mpr (LK (K3 hb)),[],.nil,S8 h⟩
noncomputable def IO:TE:=fun _ H Q=>∀p,H p=none->Q (.ref p) (upd H p (.dK []))
section
variable{X:Cx}{pos:Pos}
theorem EL:PE X (.Dict [] [] pos) IO:=fun pins s σ H Q I h=>
 Qj ⟨.ref s.heap.objs.size,_,I.laid (a:=s.heap.objs.size) (o:=.dK []) (t':=s.toks) (fun _ _ q=>Kh _ q) (Km _) (EK s.heap I.big),rfl,h _ (I.hok.fresh (Km _))⟩
end
structure M2(X:Cx)(o:Expr)(m:Str)(apos:Pos)(e f:Expr)(cpos:Pos):Prop where
 base:N4 o m X.env (eval o X.env)=eval o X.env
 few:((backTo cpos (KC [e,f] X.env)).all (fun x=>!x.1)&&(Pj cpos (N8 [] X.env)).all (fun x=>x.1.isSome)
  &&decide (([e,f]:List Expr).length+([]:List Keyword).length+(if([]:List Keyword).isEmpty then 0 else 1)<30))=true
 line:(apos.endLine==cpos.line)=true
 trees:backTo cpos (KC [e,f] X.env)=[(false,eval e X.env),(false,eval f X.env)]
section
variable{X:Cx}{pins:List (Addr×Obj)}{σ:St}{H:Hp}{s:Shared}{a:Addr}{y d:V}{u r:Value}{o:Option V}{A:Around}{E:Value->Shared->Prop}
end
section
variable{X:Cx}{o e f:Expr}{apos cpos:Pos}{td ty tx:TE}
end
section
variable{X:Cx}{pins:List (Addr×Obj)}{σ:St}{H:Hp}{s:Shared}{a:Addr}{kvs:List (Key×V)}{A:Around}{E:Value->Shared->Prop}
end
section
variable{X:Cx}{pins:List (Addr×Obj)}{σ:St}{H:Hp}{s:Shared}{a:Addr}{y:V}{u:Value}{A:Around}{E:Value->Shared->Prop}
end
end
section
open PySem.Spec
section
variable{prog:Program}{w:World}{A:Around}{E:Value->Shared->Prop}{s:Shared}
theorem rg{b:Bool}{Q:Int->Shared->Prop}(h:Q (hashInt (if b then 1 else 0)) { s with toks:=s.toks+1 }):wpAny (model prog w) A (pyHash (.bool b)) Q E s:=by
 have hr:=rawHash_range (if b then 1 else 0);unfold pyHash;have hv:[L5 b].any Value.onHeap=false:=rfl;refine Kg ?_;rw[cRoomFor,if_neg (by rw[hv];exact Kv)];refine Ki ?_;have hT:s.TypeIs (.bool b) "bool":=rfl;refine Kg (LY hT NL.lookup ?_);show wpAny _ _ (if(some (Ny "int.__hash__")==some LL)=true then _ else _) Q E s;rw[if_neg (by rw[Qk];exact Kv)];refine Kg (LY hT NL.lookup ?_);show wpAny _ _ (NM (.bool b) "__hash__" _>>=_) Q E s;refine Kg (ML hT NL (Lc NL hT entry_int_hash ?_ (args_int_hash _)));cases b with
 |true=>
  refine(show wpAny _ _ (do ret (<-mkInt (rawHash 1))) _ _ s from O6 ?_);show wpAny _ _ (if(decide (-(2:Int)^63<=rawHash 1)&&decide (rawHash 1<2^63))=true then _ else _) Q E _;rw[if_pos (by decide)];exact Ki h
 |false=>
  refine(show wpAny _ _ (do ret (<-mkInt (rawHash 0))) _ _ s from O6 ?_);show wpAny _ _ (if(decide (-(2:Int)^63<=rawHash 0)&&decide (rawHash 0<2^63))=true then _ else _) Q E _;rw[if_pos (by decide)];exact Ki h
theorem rj{Q:Int->Shared->Prop}(h:Q 4238894112 { s with toks:=s.toks+1 }):wpAny (model prog w) A (pyHash .none) Q E s:=by
 unfold pyHash;have hv:[LL].any Value.onHeap=false:=rfl;refine Kg ?_;rw[cRoomFor,if_neg (by rw[hv];exact Kv)];refine Ki ?_;have hT:s.TypeIs .none "NoneType":=rfl;refine Kg (LY hT M7.lookup ?_);show wpAny _ _ (if(some (Ny "NoneType.__hash__")==some LL)=true then _ else _) Q E s;rw[if_neg (by rw[Qk];exact Kv)];refine Kg (LY hT M7.lookup ?_);show wpAny _ _ (NM .none "__hash__" _>>=_) Q E s;refine Kg (ML hT M7 (Lc M7 hT PySem.F.entry_NoneType_hash ?_ (PySem.F.args_NoneType_hash_1 _)));refine(show wpAny _ _ (do ret (<-mkInt 4238894112)) _ _ s from O6 ?_);show wpAny _ _ (if(decide (-(2:Int)^63<=4238894112)&&decide ((4238894112:Int)<2^63))=true then _ else _) Q E _;rw[if_pos (by decide)];exact Ki h
end
noncomputable def yv:IA->Int
 |none=>4238894112
 |some i=>hashInt i
noncomputable def oj:IA->Value->Bool
 |none,.none=>true
 |some i,.int j _=>i==j
 |some i,.bool b=>i==(if b then 1 else 0)
 |_,_=>false
theorem dG{k:IA}{v:Value}(h:oj k v=true):(k=none/\v=.none)\/(∃i t,k=some i/\v=.int i t)\/∃b,k=some (if b then 1 else 0)/\v=.bool b:=by
 rcases k with _|i<;>cases v<;>(delta oj at h;simp at h)
 ·exact .inl ⟨rfl,rfl⟩
 ·subst h;exact .inr (.inr ⟨_,rfl,rfl⟩)
 ·subst h;exact .inr (.inl ⟨_,_,rfl,rfl⟩)
noncomputable def cS(prog:Program)(w:World):PySem.KeyKind prog w IA where
 is:=oj
 hash:=yv
 inj:=fun v a b ha hb=>by
  rcases dG ha with⟨rfl,rfl⟩|⟨i,t,rfl,rfl⟩|⟨c,rfl,rfl⟩<;>rcases dG hb with⟨rfl,e⟩|⟨j,u,rfl,e⟩|⟨d,rfl,e⟩<;>first|rfl| (cases e;rfl)|cases e
 byValue:=fun k v h=>by
  rcases dG h with⟨rfl,rfl⟩|⟨i,t,rfl,rfl⟩|⟨c,rfl,rfl⟩<;>rfl
 pyHash:=fun hv h=>by
  rcases dG hv with⟨rfl,rfl⟩|⟨i,t,rfl,rfl⟩|⟨c,rfl,rfl⟩
  ·exact rj h
  ·exact Sw h
  ·exact rg h
 eqBool:=fun{A E s a b u v Q} hu hv h=>by
  rcases dG hu with⟨rfl,rfl⟩|⟨i,t,rfl,rfl⟩|⟨c,rfl,rfl⟩<;>rcases dG hv with⟨rfl,rfl⟩|⟨j,u,rfl,rfl⟩|⟨d,rfl,rfl⟩
  ·exact QE _ _ _ _ _ (by simpa using h)
  ·exact Rw _ _ _ _ _ _ (by simpa using h)
  ·exact Q7 _ _ _ _ _ (by simpa using h)
  ·exact Ry _ _ _ _ _ _ (by simpa using h)
  ·exact RN _ _ _ _ _ _ _ _ (by simpa[OU]using h)
  ·exact RA _ _ _ _ _ _ _ (by simpa[OU]using h)
  ·exact Q8 _ _ _ _ _ (by simpa using h)
  ·exact Rx _ _ _ _ _ _ _ (by simpa[OU]using h)
  ·refine Q9 _ _ _ _ _ _ ?_
   cases c<;>cases d<;>simpa using h
 «strs»:=fun k x t v h=>by
  rcases dG h with⟨rfl,e⟩|⟨i,u,rfl,e⟩|⟨c,rfl,e⟩<;>cases e
noncomputable def lU:IK->Int
 | .inl a=>yv a
 | .inr as=>S9 (L4 (as.map yv))
noncomputable def xK(is:List IK):Int:=S9 (L4 (is.map lU))
noncomputable def nI:IK->Nat
 | .inl _=>1
 | .inr as=>as.length+1
section
variable(prog:Program)(w:World)
noncomputable def cM(h:Heap):IK->Value->Prop
 | .inl a,v=>oj a v=true
 | .inr as,v=>∃b,v=.ref b/\Ta (cS prog w) h as b
noncomputable def im(h:Heap)(is:List IK)(a:Addr):Prop:=∃o items n,h.get? a=some o/\o.cls=.type "tuple"/\o.data=.seq items n/\Paired (cM prog w h) is items.toList
end
section
variable{prog:Program}{w:World}
theorem cM.inj{h:Heap}{x y:IK}{v:Value}(hx:cM prog w h x v)(hy:cM prog w h y v):x=y:=by
 cases x with
 |inl a=>cases y with
  |inl b=>rw[(cS prog w).inj v a b hx hy]
  |inr bs=>
   obtain⟨c,rfl,_⟩:=hy;rcases dG hx with⟨_,e⟩|⟨_,_,_,e⟩|⟨_,_,e⟩<;>cases e
 |inr as=>cases y with
  |inl b=>
   obtain⟨c,rfl,_⟩:=hx;rcases dG hy with⟨_,e⟩|⟨_,_,_,e⟩|⟨_,_,e⟩<;>cases e
  |inr bs=>
   obtain⟨c,rfl,h1⟩:=hx;obtain⟨d,e,h2⟩:=hy;cases e;rw[h1.inj h2]
theorem Da{h:Heap}{xs ys:List IK}{vs:List Value}(p:Paired (cM prog w h) xs vs):Paired (cM prog w h) ys vs->xs=ys:=by
 induction p generalizing ys with
 |nil=>intro q;cases q;rfl
 |cons a t ih=>intro q;cases q with
  |cons b u=>rw[a.inj b,ih u]
theorem im.inj{h:Heap}{a:Addr}{x y:List IK}(hx:im prog w h x a)(hy:im prog w h y a):x=y:=by
 obtain⟨o,items,n,ho,_,hd,hi⟩:=hx;obtain⟨o',items',n',ho',_,hd',hi'⟩:=hy;obtain rfl:o=o':=KA (ho.symm.trans ho');rw[hd]at hd';injection hd' with h1 _
 subst h1;exact Da hi hi'
theorem cM.keeps{h h':Heap}{k:IK}{v:Value}{d:Addr}{o:Obj}{es ep}(x:cM prog w h k v)(ho:h.get? d=some o)(hd:o.data=.dict es ep)(hs:KJ d h h'):cM prog w h' k v:=by
 cases k with
 |inl a=>exact x
 |inr as=>obtain⟨b,e,q⟩:=x;exact⟨b,e,q.keeps ho hd hs⟩
theorem im.keeps{h h':Heap}{ks:List IK}{a d:Addr}{o:Obj}{es ep}(x:im prog w h ks a)(ho:h.get? d=some o)(hd:o.data=.dict es ep)(hs:KJ d h h'):im prog w h' ks a:=by
 obtain⟨o',items,n,ho',hc,hd',hi⟩:=x;have hne:a≠d:=by
  rintro rfl;obtain rfl:o'=o:=KA (ho'.symm.trans ho);rw[hd]at hd';exact nomatch hd'
 exact⟨o',items,n,(hs.2 a hne).trans ho',hc,hd',Paired.mapP hi fun _ _ z=>z.keeps ho hd hs⟩
theorem im.typeIs{s:Shared}{ks:List IK}{a:Addr}(x:im prog w s.heap ks a):s.TypeIs (.ref a) "tuple":=let⟨o,_,_,ho,hc,_⟩:=x;⟨o,ho,hc⟩
theorem tS{h:Heap}{ks:List IA}{a:Addr}(x:Ta (cS prog w) h ks a):∃items,h.IsTuple a items:=let⟨o,items,n,h1,h2,h3,_⟩:=x;⟨items,o,h1,h2,n,h3⟩
variable{A:Around}{E:Value->Shared->Prop}{s:Shared}
theorem Db{k:IK}{v:Value}{Q:Int->Shared->Prop}(hu:A.units<cLine)(hk:cM prog w s.heap k v)(h:Q (lU k) { s with toks:=s.toks+nI k }):wpAny (model prog w) A (pyHash v) Q E s:=by
 cases k with
 |inl a=>exact(cS prog w).pyHash (k:=a) hk h
 |inr as=>
  obtain⟨b,rfl,q⟩:=hk;exact wpAny_pyHash_tuple (knd:=cS prog w) hu q h
theorem EM{a:IA}{v:Value}{b:Addr}{items:Array Value}{Q:Bool->Shared->Prop}(hu:A.units<cLine)(hk:oj a v=true)(ht:s.heap.IsTuple b items)(h:Q false s):wpAny (model prog w) A (RV v (.ref b)) Q E s:=by
 rcases dG hk with⟨rfl,rfl⟩|⟨i,t,rfl,rfl⟩|⟨c,rfl,rfl⟩
 ·exact K1.none_tuple ht hu _ _ _ _ h
 ·exact K1.int_tuple _ _ ht hu _ _ _ _ h
 ·exact K1.bool_tuple _ ht hu _ _ _ _ h
theorem EN{a:IA}{v:Value}{b:Addr}{items:Array Value}{Q:Bool->Shared->Prop}(hu:A.units<cLine)(hk:oj a v=true)(ht:s.heap.IsTuple b items)(h:Q false s):wpAny (model prog w) A (RV (.ref b) v) Q E s:=by
 rcases dG hk with⟨rfl,rfl⟩|⟨i,t,rfl,rfl⟩|⟨c,rfl,rfl⟩
 ·exact K1.tuple_none ht hu _ _ _ _ h
 ·exact K1.tuple_int _ _ ht hu _ _ _ _ h
 ·exact K1.tuple_bool _ ht hu _ _ _ _ h
theorem GL{x y:IK}{u v:Value}{Q:Bool->Shared->Prop}(hu:A.units<cLine)(hx:cM prog w s.heap x u)(hy:cM prog w s.heap y v)(h:Q (decide (x=y)) s):wpAny (model prog w) A (RV u v) Q E s:=by
 cases x with
 |inl a=>cases y with
  |inl b=>
   refine(cS prog w).eqBool (a:=a) (b:=b) hx hy ?_;rw[show decide (a=b)=decide ((MM a:IK)=MM b)from decide_eq_decide.mpr ⟨fun e=>by rw[e],fun e=>Sk e⟩];exact h
  |inr bs=>
   obtain⟨c,rfl,q⟩:=hy;obtain⟨items,ht⟩:=tS q;refine EM hu hx ht ?_;rw[decide_eq_false (fun e=>nomatch e)]at h;exact h
 |inr as=>cases y with
  |inl b=>
   obtain⟨c,rfl,q⟩:=hx;obtain⟨items,ht⟩:=tS q;refine EN hu hy ht ?_;rw[decide_eq_false (fun e=>nomatch e)]at h;exact h
  |inr bs=>
   obtain⟨c,rfl,q⟩:=hx;obtain⟨d,rfl,q'⟩:=hy;refine wpAny_eqBool_tuple (knd:=cS prog w) hu q q' ?_;rw[show decide (as=bs)=decide ((Me as:IK)=Me bs)from decide_eq_decide.mpr ⟨fun e=>by rw[e],fun e=>N7 e⟩];exact h
noncomputable def yw(ks:List IK):Nat:=(ks.map nI).sum+1
theorem Dc{ks:List IK}{a:Addr}{Q:Int->Shared->Prop}(hu:A.units+1<cLine)(hk:im prog w s.heap ks a)(h:Q (xK ks) { s with toks:=s.toks+yw ks }):
  wpAny (model prog w) A (pyHash (.ref a)) Q E s:=by
 have hT:=hk.typeIs;obtain⟨o,items,n,ho,_,hd,hi⟩:=hk;have hu0:A.units<cLine:=by omega
 unfold pyHash
 first|unfold pyHashByItsType|skip
 first|refine Kg (wpAny_cRoomFor_or (.inr hu0) ?_)|skip
 refine Kg (LY hT OF.lookup ?_);show wpAny _ _ (if(some (Ny "tuple.__hash__")==some LL)=true then _ else _) Q E s;rw[if_neg (by rw[Qk];exact Kv)];refine Kg (LY hT OF.lookup ?_);show wpAny _ _ (NM (.ref a) "__hash__" _>>=_) Q E s;refine Kg (ML hT OF (Lc OF hT F.entry_tuple_hash ?_ (F.args_tuple_hash_1 _)));show wpAny _ _ (PL (.ref a)>>=_) _ _ s;refine Kg (Pz ho hd ?_);refine Kg ?_;rw[<-ND];refine OS _
  (fun da (b:Array Int) s'=>∃done left,ks=done++left/\Paired (cM prog w s.heap) left da/\b.toList=done.map lU/\s'={ s with toks:=s.toks+(done.map nI).sum })
  _ ?_ ?_ _ _ ⟨[],ks,rfl,hi,rfl,rfl⟩
 ·rintro x da b s' ⟨done,left,rfl,hl,hb,rfl⟩
  cases hl with
  | @cons k _ ks' _ h1 hl'=>
   refine Kg (Db (k:=k) hu h1 ?_);have e:(done.map nI).sum+nI k=((done++[k]).map nI).sum:=by simp
   first
    |exact Ki ⟨done++[k],ks',by simp,hl',by simp[hb],by rw[<-e];simp[PM]⟩
    |exact Kg (Ki (Ki ⟨done++[k],ks',by simp,hl',by simp[hb],by rw[<-e];simp[PM]⟩))
 ·rintro b s' ⟨done,left,rfl,hl,hb,rfl⟩
  cases hl;rw[MI]at h;show wpAny _ _ (retInt (L4 b.toList)) _ _ _;rw[hb];refine O6 ?_;show wpAny _ _ (if(decide (-(2:Int)^63<=L4 (done.map lU))&&decide (L4 (done.map lU)<2^63))=true then _ else _) Q E _;unfold xK S9 yw at h;by_cases hr:(decide (-(2:Int)^63<=L4 (done.map lU))&&decide (L4 (done.map lU)<2^63))=true
  ·rw[if_pos hr]
   rw[if_pos hr]at h;exact Ki (by simpa[PM]using h)
  ·rw[if_neg hr]
   rw[if_neg hr]at h;exact Kg (MB (Ki (by simpa[PM]using h)))
theorem Bo{x y:List IK}{a b:Addr}{P:Fin->Shared->Prop}(hu:A.units<cLine)(hx:im prog w s.heap x a)(hy:im prog w s.heap y b)(h:P (.done (.ret (.bool (decide (x=y))))) s):
  wpAny (model prog w) A (Builtin.«tuple.__eq__» ⟨[.ref a,.ref b],[]⟩) P E s:=by
 have hTb:=hy.typeIs;obtain⟨oa,xs,na,hoa,_,hda,hia⟩:=hx;obtain⟨ob,ys,nb,hob,_,hdb,hib⟩:=hy;show wpAny _ _ (Rc (.ref b) (.type "tuple")>>=_) _ _ s;refine Kg (Mq hTb OV ?_);simp only[N6,LC,if_false];refine Kg (Pz hoa hda ?_);refine Kg (Pz hob hdb ?_);refine Kg ?_;refine OS _
  (fun da r s'=>r.1=none/\s'=s/\∃x' y' xs' ys',da=List.zip xs' ys'/\Paired (cM prog w s.heap) x' xs'/\Paired (cM prog w s.heap) y' ys'/\decide (x'=y')=decide (x=y)/\(xs'.length==ys'.length)=(xs.size==ys.size))
  _ ?_ ?_ _ _ ⟨rfl,rfl,x,y,xs.toList,ys.toList,rfl,hia,hib,rfl,by simp⟩
 ·rintro⟨u,v⟩ da r s' ⟨hr,rfl,x',y',xs',ys',hz,hx',hy',hdec,hlen⟩
  cases hx' with
  |nil=>simp at hz
  | @cons k1 u' x'' xs'' h1 hx''=>
   cases hy' with
   |nil=>simp at hz
   | @cons k2 v' y'' ys'' h2 hy''=>
    simp only[LO,List.cons.injEq,Prod.mk.injEq]at hz;obtain⟨⟨rfl,rfl⟩,rfl⟩:=hz;refine Kg (GL (x:=k1) (y:=k2) hu h1 h2 ?_);by_cases hk:k1=k2
    ·subst hk
     rw[decide_eq_true rfl];simp only[N6,LC,if_false];refine Ki ⟨rfl,rfl,x'',y'',xs'',ys'',rfl,hx'',hy'',?_,by simpa using hlen⟩;rw[<-hdec];by_cases hxy:x''=y''
     ·simp[hxy]
     ·simp[hxy]
    ·rw[decide_eq_false hk]
     simp only[Bool.not_false,if_true];have hf:decide (x=y)=false:=by rw[<-hdec];simp[hk]
     rw[hf]at h;exact Kg (Ki (Ki (Ki h)))
 ·rintro⟨r1,r2⟩ s' ⟨hr,rfl,x',y',xs',ys',hz,hx',hy',hdec,hlen⟩
  simp only at hr;subst hr;refine Ki ?_;have hfin:(xs.size==ys.size)=decide (x=y):=by
   rw[<-hdec,<-hlen];cases hx' with
   |nil=>
    cases hy' with
    |nil=>simp
    |cons _ _=>simp
   |cons _ _=>
    cases hy' with
    |nil=>simp
    |cons _ _=>simp at hz
  show P (.done (.ret (.bool (xs.size==ys.size)))) s';rw[hfin];exact h
theorem Dd{x y:List IK}{a b:Addr}{Q:Bool->Shared->Prop}(hu:A.units+1<cLine)(hx:im prog w s.heap x a)(hy:im prog w s.heap y b)(h:Q (decide (x=y)) s):
  wpAny (model prog w) A (eqBool (.ref a) (.ref b)) Q E s:=by
 unfold eqBool
 try with_reducible refine LH ?_
 show wpAny _ _ (if(KY a==KY b)=true then _ else _) Q E s;by_cases hab:(KY a==KY b)=true
 ·rw[if_pos hab]
  have e:a=b:=by have:=eq_of_beq hab;injection this
  subst e;obtain rfl:=hx.inj hy;exact Kg (MB (Ki (by simpa using h)))
 ·rw[if_neg hab]
  exact Kg (wpAny_richCompare_same_room (op:=.Eq) hx.typeIs hy.typeIs O7
   (Lc O7 hx.typeIs F.entry_tuple_eq (Bo hu hx hy ⟨_,rfl,(fun e=>nomatch e),Mu h⟩) (F.args_tuple_eq_2 _ _)) (by omega))
theorem zG{n:Nat}{ks:List IA}{a:Addr}{Q:Bool->Shared->Prop}(hk:Ta (cS prog w) s.heap ks a)(h:Q true s):wpAny (model prog w) A (QG (n+1) (.ref a)) Q E s:=by
 have hT:=hk.typeIs;obtain⟨o,items,_,ho,_,hd,hi⟩:=hk;unfold QG;refine Kg (LY hT O7.lookup ?_);show wpAny _ _ (Rc (.ref a) (.type "tuple")>>=_) _ _ s;refine Kg (Mq hT OV ?_);simp only[N6,LC,if_false];refine Kg (LG ho hd ?_);refine Kg ?_;show wpAny _ _ (forIn items _ _) _ _ s;rw[<-ND];refine OS _ (fun da r s'=>r.1=none/\s'=s/\∀v∈da,carriedByValue v=true) _ ?_ ?_ _ _ ⟨rfl,rfl,hi.byValue⟩
 ·rintro v da r s' ⟨hr,rfl,hall⟩
  rw[Sa _ (hall v Ks)];refine Kg (Ki ?_);simp only[N6,LC,if_false];exact Ki ⟨rfl,rfl,fun u hu'=>hall u (Ku _ hu')⟩
 ·rintro⟨r1,r2⟩ s' ⟨hr,rfl,_⟩
  simp only at hr;subst hr;exact Ki h
theorem EO{ks:List IK}{a:Addr}{Q:Bool->Shared->Prop}(hk:im prog w s.heap ks a)(h:Q true s):wpAny (model prog w) A (QG 8 (.ref a)) Q E s:=by
 have hT:=hk.typeIs;obtain⟨o,items,n,ho,_,hd,hi⟩:=hk;unfold QG;refine Kg (LY hT O7.lookup ?_);show wpAny _ _ (Rc (.ref a) (.type "tuple")>>=_) _ _ s;refine Kg (Mq hT OV ?_);simp only[N6,LC,if_false];refine Kg (LG ho hd ?_);refine Kg ?_;show wpAny _ _ (forIn items _ _) _ _ s;rw[<-ND];refine OS _ (fun da r s'=>r.1=none/\s'=s/\∃ks,Paired (cM prog w s.heap) ks da) _ ?_ ?_ _ _ ⟨rfl,rfl,ks,hi⟩
 ·rintro v da r s' ⟨hr,rfl,ks,hall⟩
  cases hall with
  | @cons k _ ks' _ h1 hl=>
   refine Kg ?_;have fin:wpAny (model prog w) A (QG 7 v) (fun b s2=>b=true/\s2=s') E s':=by
    cases k with
    |inl a'=>rw[Sa _ ((cS prog w).byValue _ _ h1)];exact Ki ⟨rfl,rfl⟩
    |inr as=>obtain⟨b,rfl,q⟩:=h1;exact zG (n:=6) q ⟨rfl,rfl⟩
   refine LM fin (fun b s2 ⟨e1,e2⟩=>?_) fun _ _ x=>x;subst e1 e2;simp only[N6,LC,if_false];exact Ki ⟨rfl,rfl,ks',hl⟩
 ·rintro⟨r1,r2⟩ s' ⟨hr,rfl,_⟩
  simp only at hr;subst hr;exact Ki h
end
noncomputable def pU(prog:Program)(w:World):HeapKind prog w (List IK) where
 is:=im prog w
 hash:=xK
 draws:=yw
 room:=fun A=>A.units+1<cLine
 inj:=fun hx hy=>hx.inj hy
 keeps:=fun x ho hd hs=>x.keeps ho hd hs
 pyHash:=fun hu hk h=>Dc hu hk h
 eqBool:=fun hu hx hy h=>Dd hu hx hy h
 quiet:=fun hk h=>EO hk h
noncomputable def DA(a:Addr)(kvs:List (IA×V))(h:Heap):Prop:=kvs.length<=Kw/\(a==Mb)=false/\∃(P:Program)(w:World)(vs:List (IA×Value)),KV kvs vs/\h.DictOf (cS P w) a vs
noncomputable def ZX:List (List IK×Addr×V)->List (List IK×Addr×Value)->Prop:=Paired fun z x=>z.1=x.1/\z.2.1=x.2.1/\aI z.2.2 x.2.2
noncomputable def DB(a:Addr)(zs:List (List IK×Addr×V))(h:Heap):Prop:=zs.length<=Kw/\(a==Mb)=false/\∃xs:List (List IK×Addr×Value),ZX zs xs/\
 ∃o es ep,h.get? a=some o/\o.ExactDict/\o.data=.dict es ep/\es.toList=xs.map (fun x=>⟨xK x.1,.ref x.2.1,x.2.2⟩)/\(xs.map (·.1)).Nodup
noncomputable def dA(a:Addr)(kvs:List (IA×V)):HO:=.ext (DA a kvs)
noncomputable def dB(a:Addr)(zs:List (List IK×Addr×V)):HO:=.ext (DB a zs)
noncomputable def atZ(zs:List (List IK×Addr×V))(k:List IK):Option V:=(zs.find? fun p=>decide (p.1=k)).map (·.2.2)
noncomputable def Dx(H:Hp)(a:Addr)(s:Bool)(f:MK->Option V)(n:Nat):Prop:=
 (s=false/\∃kvs,H a=some (dA a kvs)/\(∀k,fZ kvs k=f (.inl k))/\kvs.length<=n)\/
 (s=true/\∃zs,H a=some (dB a zs)/\(∀z∈zs,cR H (.ref z.2.1) (.inr z.1))/\(∀k,atZ zs k=f (.inr k))/\zs.length<=n)
section
variable{H H':Hp}{a b:Addr}{s:Bool}{f g:MK->Option V}{n m:Nat}
theorem Dx.ext(h:Dx H a s f n):∃φ,H a=some (.ext φ):=by
 rcases h with⟨_,kvs,e,_⟩|⟨_,zs,e,_⟩
 ·exact⟨_,e⟩
 ·exact⟨_,e⟩
theorem Dx.keep(h:Dx H a s f n)(e:H' a=H a)(kp:dF H H'):Dx H' a s f n:=by
 rcases h with⟨hs,kvs,h1,h2⟩|⟨hs,zs,h1,h2,h3⟩
 ·exact .inl ⟨hs,kvs,e.trans h1,h2⟩
 ·exact .inr ⟨hs,zs,e.trans h1,fun z hz=>(h2 z hz).keep kp,h3⟩
theorem Dx.same(h:Dx H a s f n)(q:ap H H'):Dx H' a s f n:=by
 obtain⟨φ,h1⟩:=h.ext;exact h.keep ((q _ _ h1).trans h1.symm) q.keep
theorem Dx.le(h:Dx H a s f n)(e:n<=m):Dx H a s f m:=by
 rcases h with⟨hs,kvs,h1,h2,h3⟩|⟨hs,zs,h1,h2,h3,h4⟩
 ·exact .inl ⟨hs,kvs,h1,h2,K4 h3 e⟩
 ·exact .inr ⟨hs,zs,h1,h2,h3,K4 h4 e⟩
theorem Dx.congr(h:Dx H a s f n)(e:∀k,f k=g k):Dx H a s g n:=by
 rcases h with⟨hs,kvs,h1,h2,h3⟩|⟨hs,zs,h1,h2,h3,h4⟩
 ·exact .inl ⟨hs,kvs,h1,fun k=>(h2 k).trans (e _),h3⟩
 ·exact .inr ⟨hs,zs,h1,h2,fun k=>(h3 k).trans (e _),h4⟩
end
end
noncomputable def yx:TE:=fun _ H Q=>∃s,∀p H',H p=none->ap H H'->Dx H' p s (fun _=>none) 0->Q (.ref p) H'
theorem GM{σ:St}{H:Hp}{Q:VK}(s:Bool)(h:∀p H',H p=none->ap H H'->Dx H' p s (fun _=>none) 0->Q (.ref p) H'):yx σ H Q:=⟨s,h⟩
noncomputable def Bp:R2:=fun x y H Q=>∃a s f n k v,x=.ref a/\Dx H a s f n/\cR H y k/\mI k=s/\f k=some v/\Q v H
noncomputable def om(f:MK->Option V)(k:MK)(v:V):MK->Option V:=fun j=>if j=k then some v else f j
noncomputable def yy:V->List V->Hp->VK->Prop:=fun x ys H Q=>∃a s f n k y v,x=.ref a/\ys=[y,v]/\Dx H a s f n/\cR H y k/\mI k=s/\n<Kw/\(∀u,f k=some u->Q u H)/\
 (f k=none->∀H',Off a H H'->Dx H' a s (om f k v) (n+1)->Q v H')
noncomputable def tXM(r:V->List V->Hp->VK->Prop)(to:TE)(t:TA):TE:=fun σ H Q=>to σ H fun x H1=>(∃a s f n,x=.ref a/\Dx H1 a s f n)/\t σ H1 fun ys H2=>r x ys H2 Q
section
variable{σ:St}{H:Hp}{Q:VK}{a:Addr}{s:Bool}{f:MK->Option V}{n:Nat}{k:MK}{y v:V}
theorem IP(d:Dx H a s f n)(hk:cR H y k)(hs:mI k=s)(e:f k=some v)(h:Q v H):Bp (.ref a) y H Q:=⟨a,s,f,n,k,v,rfl,d,hk,hs,e,h⟩
theorem GN(d:Dx H a s f n)(hk:cR H y k)(hs:mI k=s)(hn:n<Kw)(h1:∀u,f k=some u->Q u H)(h2:f k=none->∀H',Off a H H'->Dx H' a s (om f k v) (n+1)->Q v H'):yy (.ref a) [y,v] H Q:=⟨a,s,f,n,k,y,v,rfl,rfl,d,hk,hs,hn,h1,h2⟩
theorem Kb{r:V->List V->Hp->VK->Prop}{to:TE}{t:TA}(h:to σ H fun x H1=>(∃a s f n,x=.ref a/\Dx H1 a s f n)/\t σ H1 fun ys H2=>r x ys H2 Q):tXM r to t σ H Q:=h
end
section
variable{α:Type}[DecidableEq α]{ks:List α}{i:Nat}{k:α}
noncomputable def ir(ks:List α)(i:Nat):α->Option V:=fun k=>if k∈ks.take i then some (.int (ks.idxOf k:Nat))else none
theorem Bq(hk:ks[i]?=some k)(h:k∈ks.take i)(j:α):ir ks i j=ir ks (i+1) j:=by
 unfold ir;rw[cI hk];by_cases q:j∈ks.take i
 ·rw[if_pos q,if_pos (Ll _ q)]
 ·rw[if_neg q,if_neg]
  intro z;rcases Lf.mp z with z|z
  ·exact q z
  ·rw[Kr.mp z]at q;exact q h
theorem Br(hk:ks[i]?=some k)(h:k∉ks.take i)(j:α):(if j=k then some (V.int (i:Nat))else ir ks i j)=ir ks (i+1) j:=by
 unfold ir;rw[cI hk];by_cases q:j=k
 ·subst q
  rw[if_pos rfl,if_pos (by simp),wG hk h]
 ·rw[if_neg q]
  by_cases z:j∈ks.take i
  ·rw[if_pos z,if_pos (Ll _ z)]
  ·rw[if_neg z,if_neg]
   intro w;rcases Lf.mp w with w|w
   ·exact z w
   ·exact q (Kr.mp w)
theorem wI(h:k∈ks.take i):ir ks i k=some (.int (ks.idxOf k:Nat)):=if_pos h
theorem zH(h:k∉ks.take i):ir ks i k=none:=if_neg h
theorem zI(k:α):none=ir ks 0 k:=(if_neg (by simp)).symm
theorem yz(hk:ks[i]?=some k):(bq ks).take (i+1)=(bq ks).take i++[ks.idxOf k]:=cI (by unfold bq;rw[Kz,hk];rfl)
end
end L2
section
namespace KM
noncomputable def aQ:Nat->Nat
 |0=>1
 |n+1=>aQ n*(n+1)
noncomputable def choose:Nat->Nat->Nat
 |_,0=>1
 |0,_+1=>0
 |n+1,k+1=>choose n k+choose n (k+1)
theorem gq:∀n,0<aQ n
 |0=>by decide
 |n+1=>Sr (gq n) (RW n)
theorem j8(n:Nat):choose n 0=1:=by cases n<;>rfl
theorem mJ:∀(n k:Nat),n<k->choose n k=0
 |_,0,h=>absurd h (O8 _)
 |0,_+1,_=>rfl
 |n+1,k+1,h=>by rw[choose,mJ n k (by omega),mJ n (k+1) (by omega)]
theorem rJ:∀n,choose n n=1
 |0=>rfl
 |n+1=>by rw[choose,rJ n,mJ n (n+1) (by omega)]
theorem iu:∀(n k:Nat),k<=n->choose n k*(aQ k*aQ (n-k))=aQ n
 |n,0,_=>by rw[j8,aQ,Nat.sub_zero,Ss,Ss]
 |0,_+1,h=>absurd h (by omega)
 |n+1,k+1,h=>by
  rw[choose,Su];by_cases hk:k=n
  ·subst hk
   rw[rJ,mJ k (k+1) (by omega),O9];simp[aQ]
  ·have hk':k+1<=n:=by omega
   have e1:=iu n k (by omega);have e2:=iu n (k+1) hk';have s1:n+1-(k+1)=n-k:=by omega
   have s2:n-k=(n-(k+1))+1:=by omega
   rw[s1];have a1:choose n k*(aQ (k+1)*aQ (n-k))=(k+1)*aQ n:=by
    rw[<-e1,aQ];simp only[Md,Mp,MO]
   have a2:choose n (k+1)*(aQ (k+1)*aQ (n-k))=(n-k)*aQ n:=by
    have s3:aQ (n-k)=aQ (n-(k+1))*(n-k):=by
     rw[s2,aQ,<-s2]
    rw[<-e2,s3];simp only[Md,Mp,MO]
   rw[a1,a2,<-Su,aQ,Mp]
   congr 1
   omega
theorem zJ(n k:Nat)(h:k+1<=n):choose n k*(n-k)/(k+1)=choose n (k+1):=by
 have e1:=iu n k (by omega);have e2:=iu n (k+1) h;have s2:n-k=(n-(k+1))+1:=by omega
 have p:0<aQ k*aQ (n-(k+1)):=Sr (gq _) (gq _);have q:choose n k*(n-k)=choose n (k+1)*(k+1):=by
  have:choose n k*(n-k)*(aQ k*aQ (n-(k+1)))=choose n (k+1)*(k+1)*(aQ k*aQ (n-(k+1))):=by
   have l:choose n k*(n-k)*(aQ k*aQ (n-(k+1)))=aQ n:=by
    rw[<-e1,show aQ (n-k)=aQ (n-(k+1))*(n-k) by rw[s2,aQ,<-s2]];simp only[Md,Mp,MO]
   have r:choose n (k+1)*(k+1)*(aQ k*aQ (n-(k+1)))=aQ n:=by
    rw[<-e2,aQ];simp only[Md,Mp,MO]
   rw[l,r]
  exact PN p this
 rw[q,Nat.mul_div_cancel _ (RW k)]
noncomputable def cg:Nat->List Nat->Nat
 |_,[]=>1
 |n,s::r=>choose n s*cg (n-s) r
theorem tT:∀(ss:List Nat)(n:Nat),ss.sum<=n->cg n ss*((ss.map aQ).foldr (· * ·) 1*aQ (n-ss.sum))=aQ n
 | [],n,_=>by simp[cg]
 |s::r,n,h=>by
  rw[K0]at h;have ih:=tT r (n-s) (by omega);have c:=iu n s (by omega);rw[cg,KL,List.foldr_cons,K0,<-c,<-ih,Nat.sub_sub];simp only[Md,Mp,MO]
end KM
end
section
namespace KM
noncomputable def qG(room:List Nat)(w:List Nat):List Nat:=(KS room.length).filter fun j=>decide (w.count j<room.getD j 0)
noncomputable def fc(room:List Nat)(ws:List (List Nat)):List (List Nat):=ws.flatMap fun w=>(qG room w).map fun j=>w++[j]
noncomputable def ci(room:List Nat):Nat->List (List Nat)
 |0=>[[]]
 |i+1=>fc room (ci room i)
noncomputable def words:Nat->List Nat->Nat
 |0,_=>1
 |n+1,r=>(((KS r.length).filter fun j=>decide (0<r.getD j 0)).map fun j=>words n (r.set j (r.getD j 0-1))).sum
noncomputable def left(room w:List Nat):List Nat:=(KS room.length).map fun j=>room.getD j 0-w.count j
theorem lV(room w:List Nat):(left room w).length=room.length:=by unfold left;rw[Kk,L6]
theorem yA(room w:List Nat)(j:Nat)(h:j<room.length):(left room w).getD j 0=room.getD j 0-w.count j:=by
 unfold left;rw[KG,Kz,Mg h];rfl
theorem De(room w:List Nat)(j:Nat)(h:j<room.length):left room (w++[j])=(left room w).set j ((left room w).getD j 0-1):=by
 apply MN;intro k;by_cases hk:k<room.length
 ·have e1:(left room (w++[j]))[k]?=some (room.getD k 0-(w++[j]).count k):=by
   unfold left;rw[Kz,Mg hk];rfl
  rw[e1,NP,yA room w j h,lV];by_cases hjk:j=k
  ·subst hjk
   rw[if_pos rfl,if_pos h,PZ];simp;omega
  ·rw[if_neg hjk]
   unfold left;rw[Kz,Mg hk,PZ];simp[Tc,hjk]
 ·rw[K6 (by rw[lV];omega),K6 (by rw[Mw,lV];omega)]
theorem Bs(room w:List Nat):qG room w=(KS (left room w).length).filter fun j=>decide (0<(left room w).getD j 0):=by
 unfold qG;rw[lV];apply List.filter_congr;intro j hj;rw[MC]at hj;rw[yA room w j hj];by_cases h:w.count j<room.getD j 0
 ·simp[h]
  omega
 ·simp[h]
  omega
noncomputable def qH(room:List Nat):Nat->List (List Nat)->List (List Nat)
 |0,ws=>ws
 |n+1,ws=>qH room n (fc room ws)
theorem mX(room:List Nat):∀n i,qH room n (ci room i)=ci room (i+n)
 |0,i=>rfl
 |n+1,i=>by
  rw[qH,show fc room (ci room i)=ci room (i+1)from rfl,mX room n (i+1)]
  congr 1
  omega
theorem mK(f:List Nat->Nat)(room:List Nat):∀ws:List (List Nat),((fc room ws).map f).sum=(ws.map fun w=>((qG room w).map fun j=>f (w++[j])).sum).sum
 | []=>rfl
 |w::r=>by
  have ih:=mK f room r;unfold fc at ih ⊢;rw[OG,KU,L9,ih,KL,K0,MW];rfl
theorem pV(room:List Nat):∀(n:Nat)(ws:List (List Nat)),(qH room n ws).length=(ws.map fun w=>words n (left room w)).sum
 |0,ws=>by
  rw[qH]
  induction ws with
  |nil=>rfl
  |cons w r ih=>rw[KQ,ih,KL,K0,words];omega
 |n+1,ws=>by
  rw[qH,pV room n,mK]
  congr 1
  apply My;intro w _;rw[words,Bs]
  congr 1
  apply My;intro j hj;have hj':=Mh.mp hj;rw[MC,lV]at hj';rw[De room w j hj'.1]
noncomputable def cC(r:List Nat):Nat:=(r.map aQ).foldr (· * ·) 1
theorem gM(a:Nat)(r:List Nat):cC (a::r)=aQ a*cC r:=rfl
theorem wJ:∀r,0<cC r
 | []=>by decide
 |a::r=>Sr (gq a) (wJ r)
theorem wK:∀(r:List Nat)(j:Nat),j<r.length->0<r.getD j 0->cC r=cC (r.set j (r.getD j 0-1))*r.getD j 0
 | [],j,h,_=>absurd h (by simp)
 |a::r,0,_,h=>by
  have h':0<a:=h;show cC (a::r)=cC ((a-1)::r)*a;rw[gM,gM];obtain⟨b,rfl⟩:∃b,a=b+1:=⟨a-1,by omega⟩;rw[show b+1-1=b by omega,aQ];simp only[Md,Mp,MO]
 |a::r,j+1,h,hp=>by
  have ih:=wK r j (by simpa using h) hp;show cC (a::r)=cC (a::r.set j (r.getD j 0-1))*r.getD j 0;rw[gM,gM,ih];simp only[Md,Mp,MO]
theorem vJ:∀(r:List Nat)(j:Nat),j<r.length->0<r.getD j 0->(r.set j (r.getD j 0-1)).sum+1=r.sum
 | [],j,h,_=>absurd h (by simp)
 |a::r,0,_,h=>by
  have h':0<a:=h;show((a-1)::r).sum+1=(a::r).sum;rw[K0,K0];omega
 |a::r,j+1,h,hp=>by
  have ih:=vJ r j (by simpa using h) hp;show(a::r.set j (r.getD j 0-1)).sum+1=(a::r).sum;rw[K0,K0];omega
theorem vK(c:Nat)(f:Nat->Nat):∀l:List Nat,(l.map f).sum*c=(l.map fun j=>f j*c).sum
 | []=>by simp
 |a::r=>by rw[KL,K0,Su,vK c f r,KL,K0]
theorem yB(r:List Nat):(((KS r.length).filter fun j=>decide (0<r.getD j 0)).map fun j=>r.getD j 0).sum=r.sum:=by
 have go:∀(l:List Nat)(g:Nat->Nat),((l.filter fun j=>decide (0<g j)).map g).sum=(l.map g).sum:=by
  intro l g
  induction l with
  |nil=>rfl
  |cons a t ih=>
   rw[List.filter_cons];by_cases h:0<g a
   ·rw[if_pos (by simpa using h),KL,K0,ih,KL,K0]
   ·rw[if_neg (by simpa using h),ih,KL,K0]
    omega
 rw[go]
 congr 1
 apply MN;intro k;rw[Kz];by_cases hk:k<r.length
 ·rw[Mg hk,Kj hk]
  show some (r.getD k 0)=some r[k];rw[KG,Kj hk];rfl
 ·rw[K6 (by simpa using hk),K6 (by simpa using hk)]
  rfl
theorem oq:∀(n:Nat)(r:List Nat),r.sum=n->words n r*cC r=aQ n
 |0,r,h=>by
  have:cC r=1:=by
   induction r with
   |nil=>rfl
   |cons a t ih=>
    rw[K0]at h;have ha:a=0:=by omega
    subst ha;rw[gM,ih (by omega)];rfl
  rw[words,this];rfl
 |n+1,r,h=>by
  rw[words,vK];have e:((KS r.length).filter fun j=>decide (0<r.getD j 0)).map (fun j=>words n (r.set j (r.getD j 0-1))*cC r)=((KS r.length).filter fun j=>decide (0<r.getD j 0)).map (fun j=>r.getD j 0*aQ n):=by
   apply My;intro j hj;have hj':=Mh.mp hj;rw[MC]at hj';have hp:0<r.getD j 0:=of_decide_eq_true hj'.2;rw[wK r j hj'.1 hp,<-Md,oq n _ (by have:=vJ r j hj'.1 hp;omega),Mp]
  rw[e,<-vK,yB,h,aQ,Mp]
theorem EQ(room:List Nat):left room []=room:=by
 apply MN;intro k;unfold left;rw[Kz];by_cases hk:k<room.length
 ·rw[Mg hk,Kj hk]
  show some (room.getD k 0-([]:List Nat).count k)=some room[k];rw[KG,Kj hk];simp
 ·rw[K6 (by simpa using hk),K6 (by simpa using hk)]
  rfl
theorem Df(room:List Nat):(ci room room.sum).length*cC room=aQ room.sum:=by
 have e:=mX room room.sum 0;rw[Nat.zero_add]at e;rw[<-e,pV];show(List.map (fun w=>words room.sum (left room w)) [[]]).sum*cC room=aQ room.sum;rw[KL,NT,K0,NV,EQ,Nat.add_zero];exact oq _ _ rfl
structure F8(room:List Nat)(i:Nat)(w:List Nat):Prop where
 len:w.length=i
 all:∀j∈w,j<room.length
 cnt:∀j,j<room.length->w.count j<=room.getD j 0
theorem iw(room:List Nat):∀i,∀w∈ci room i,F8 room i w
 |0,w,h=>by
  have:w=[]:=by simpa[ci]using h
  subst this;exact⟨rfl,fun _ h=>(nomatch h),fun j _=>by simp⟩
 |i+1,w,h=>by
  rw[ci,fc,Ql]at h;obtain⟨v,hv,h⟩:=h;obtain⟨j,hj,rfl⟩:=Lr.mp h;have b:=iw room i v hv;have hj':=Mh.mp hj;rw[MC]at hj';have hc:v.count j<room.getD j 0:=of_decide_eq_true hj'.2;refine⟨by rw[KP,b.len];rfl,fun k hk=>?_,fun k hk=>?_⟩
  ·rcases Lf.mp hk with hk|hk
   ·exact b.all k hk
   ·rw[Kr]at hk
    omega
  ·rw[PZ]
   by_cases e:j=k
   ·subst e
    rw[List.count_singleton_self];omega
   ·have:=b.cnt k hk
    rw[List.count_singleton,if_neg (by simpa using e)];omega
theorem tU:∀(n:Nat)(w:List Nat),(∀j∈w,j<n)->((KS n).map fun j=>w.count j).sum=w.length
 |n,[], _=>by
  have:((KS n).map fun j=>([]:List Nat).count j)=(KS n).map fun _=>0:=by simp
  rw[this];have go:∀m,((KS m).map fun _=>0).sum=0:=by
   intro m
   induction m with
   |zero=>rfl
   |succ m ih=>rw[NF,KU,L9,ih];rfl
  exact go n
 |n,a::w,h=>by
  have ih:=tU n w fun j hj=>h j (Ku _ hj);have ha:a<n:=h a Ks;rw[KQ,<-ih];clear ih h;have go:∀m,((KS m).map fun j=>(a::w).count j).sum=((KS m).map fun j=>w.count j).sum+(if a<m then 1 else 0):=by
   intro m
   induction m with
   |zero=>simp
   |succ m ih=>
    rw[NF,KU,L9,KU,L9,ih];simp only[KL,NT,K0,NV,Tc];by_cases e:a=m
    ·subst e
     rw[if_neg (Lz a),if_pos (L0 a),if_pos (beq_self_eq_true a)];omega
    ·rw[if_neg (show¬(a==m)=true by simpa using e)]
     by_cases hl:a<m
     ·rw[if_pos hl,if_pos (show a<m+1 by omega)]
      omega
     ·rw[if_neg hl,if_neg (show¬a<m+1 by omega)]
      omega
  rw[go,if_pos ha]
theorem ow(room:List Nat):(KS room.length).map (fun j=>room.getD j 0)=room:=by
 apply MN;intro k;rw[Kz];by_cases hk:k<room.length
 ·rw[Mg hk,Kj hk]
  show some (room.getD k 0)=some room[k];rw[KG,Kj hk];rfl
 ·rw[K6 (by simpa using hk),K6 (by simpa using hk)]
  rfl
end KM
end
section
namespace KM
theorem Dg(n k:Nat):choose n k<=2^n:=by
 induction n generalizing k with
 |zero=>cases k<;>simp[choose]
 |succ n ih=>
  cases k with
  |zero=>rw[j8];exact Nat.one_le_two_pow
  |succ k=>
   rw[choose,Nat.pow_succ];have:=ih k;have:=ih (k+1);omega
theorem yC{n i:Nat}(h:i+1<=n):((choose n i:Nat):Int)*((n:Int)-(0+(i:Int)))/(0+(i:Int)+1)=((choose n (i+1):Nat):Int):=by
 have e1:(n:Int)-(0+(i:Int))=((n-i:Nat):Int):=by omega
 have e2:(0+(i:Int)+1)=((i+1:Nat):Int):=by omega
 rw[e1,e2,<-QH,<-SH,zJ n i h]
theorem mY(n:Nat)(ss:List Nat)(h:ss.sum<=n):cg n ss*cC (ss++[n-ss.sum])=aQ n:=by
 have e:cC (ss++[n-ss.sum])=(ss.map aQ).foldr (· * ·) 1*aQ (n-ss.sum):=by
  generalize n-ss.sum=k
  induction ss with
  |nil=>simp[cC]
  |cons a r ih=>
   have hr:r.sum<=n:=by rw[K0]at h;omega
   show aQ a*cC (r++[k])=aQ a*(r.map aQ).foldr (· * ·) 1*aQ k;rw[ih hr,Md]
 rw[e];exact tT ss n h
theorem Dh{n:Nat}{ss:List Nat}(h:ss.sum<=n):0<cg n ss:=by
 have e:=mY n ss h;have f:=gq n;rcases On (cg n ss)with z|z
 ·rw[z,Nat.zero_mul]at e
  omega
 ·exact z
theorem j9{n:Nat}{ss:List Nat}(h:ss.sum<=n):(ci (ss++[n-ss.sum]) n).length=cg n ss:=by
 have e1:=mY n ss h;have hs:(ss++[n-ss.sum]).sum=n:=by
  rw[L9,K0,NV];omega
 have e2:=Df (ss++[n-ss.sum]);rw[hs]at e2;exact PN (wJ _) (e2.trans e1.symm)
theorem words_pos(n:Nat)(r:List Nat)(h:r.sum=n):0<words n r:=by
 have e:=oq n r h;have f:=gq n;rcases On (words n r)with z|z
 ·rw[z,Nat.zero_mul]at e
  omega
 ·exact z
theorem ER{room w:List Nat}{i:Nat}(h:F8 room i w):(left room w).sum+i=room.sum:=by
 have go:∀m,m<=room.length->((KS m).map fun j=>room.getD j 0-w.count j).sum+((KS m).map fun j=>w.count j).sum=((KS m).map fun j=>room.getD j 0).sum:=by
  intro m
  induction m with
  |zero=>intro _;rfl
  |succ m ih=>
   intro hm;have:=ih (by omega);have:=h.cnt m (by omega);simp only[NF,KU,L9,KL,NT,K0,NV]at *;omega
 have e:=go room.length (Km _);rw[tU room.length w h.all,ow,h.len]at e;exact e
theorem ES{room:List Nat}{i:Nat}(h:i<=room.sum):(ci room i).length<=(ci room room.sum).length:=by
 have e:=mX room (room.sum-i) i;rw[show i+(room.sum-i)=room.sum by omega]at e;rw[<-e,pV];have hb:=iw room i;generalize ci room i=ws at hb
 induction ws with
 |nil=>exact Lk _
 |cons w r ih=>
  rw[KL,K0,KQ];have:=ih fun v hv=>hb v (Ku _ hv);have:=words_pos (room.sum-i) (left room w) (by have:=ER (hb w Ks);omega);omega
theorem IQ:∀(rs:List Nat)(m:Nat),rs.foldl (fun f s=>f/aQ s) (m*cC rs)=m
 | [],m=>by simp[cC]
 |a::r,m=>by
  rw[SY,gM];have e:m*(aQ a*cC r)/aQ a=m*cC r:=by
   rw[<-Md,Mp m,Md,Nat.mul_div_cancel_left _ (gq a)]
  rw[e];exact IQ r m
noncomputable def fq(room w:List Nat)(k:Nat):List Nat:=(KS k).filter fun j=>decide (w.count j<room.getD j 0)
theorem rK(room w:List Nat):fq room w room.length=qG room w:=rfl
theorem yD(room w:List Nat)(k:Nat):fq room w (k+1)=fq room w k++(if w.count k<room.getD k 0 then[k]else[]):=by
 unfold fq;rw[NF,Oo];by_cases h:w.count k<room.getD k 0
 ·rw[if_pos h,Nw (by simpa using h)]
  rfl
 ·rw[if_neg h,Nx (by simpa using h)]
  rfl
theorem Di(room:List Nat)(ws:List (List Nat))(i:Nat)(w:List Nat)(h:ws[i]?=some w):fc room (ws.take (i+1))=fc room (ws.take i)++(qG room w).map fun j=>w++[j]:=by
 unfold fc;rw[LJ,h,Ph];simp
theorem yE(room:List Nat)(ws:List (List Nat))(i:Nat):(fc room (ws.take i)).length<=(fc room ws).length:=by
 have:fc room ws=fc room (ws.take i)++fc room (ws.drop i):=by
  unfold fc;rw[<-Ph,NU]
 rw[this,KP];omega
end KM
end
namespace L2
open PySem PyProof.Rows
section
variable{K:Fg}{vs:List V}{H:Hp}{Q:VK}{E:XK}
noncomputable def Dj:V->Bool
 | .int _=>true
 |_=>false
noncomputable def aJ:V->Int->Int->Bool
 | .int i,lo,hi=>decide (lo<=i)&&decide (i<=hi)
 |_,_,_=>false
noncomputable def fF(K:Fg)(H:Hp)(x:V):Prop:=∃t b1 b2,fo K H x t/\LW K t (.type "int")=some b1/\LW K t (.type "bool")=some b2/\(b1&& !b2)=Dj x
theorem fF.int{K:Fg}{H:Hp}(i:Int):fF K H (.int i):=⟨_,_,_,.int i,zD K,yj K,rfl⟩
theorem Dl{K:Fg}{H H':Hp}{x:V}{t:Value}(h:fo K H x t)(s:ap H H'):fo K H' x t:=by
 cases h with
 |non=>exact .non
 |bl b=>exact .bl b
 |int i=>exact .int i
 |str x=>exact .str x
 |flt x=>exact .flt x
 |lst e=>exact .lst (s _ _ e)
 |frz e=>exact .frz (s _ _ e)
 |tup e=>exact .tup (s _ _ e)
 |dK e=>exact .dK (s _ _ e)
 |dT e=>exact .dT (s _ _ e)
 |ins e cl ha hn htk hm=>exact .ins (s _ _ e) cl ha hn htk hm
theorem fF.same{K:Fg}{H H':Hp}{x:V}(h:fF K H x)(s:ap H H'):fF K H' x:=by
 obtain⟨t,b1,b2,ty,r⟩:=h;exact⟨t,b1,b2,Dl ty s,r⟩
noncomputable def GO(K:Fg):Sp:=fun vs H Q _=>∃x,vs=[x]/\fF K H x/\Q (.bl (Dj x)) H
noncomputable abbrev iy(K:Fg):Sp:=GO K
noncomputable def tV(K:Fg):TS:=(aN (mD (tCB (mW K) (aa (ad 0) (aa (tC (.ty "int")) ag))) (xH (tCB (mW K) (aa (ad 0) (aa (tC (.ty "bool")) ag))))))
theorem zK(h:iy K vs H Q E):tV K { nx:=fun _ H'=>Q .non H',rt:=Q } (start ["thing"] vs) H:=by
 obtain⟨x,rfl,⟨t,b1,b2,ty,k1,k2,e⟩,q⟩:=h;refine⟨_,rfl,_,_,_,_,rfl,ty,k1,_,rfl,jn (fun c=>?_) (fun c=>?_)⟩
 ·subst c
  refine⟨_,rfl,_,_,_,_,rfl,ty,k2,_,rfl,?_⟩;rw[<-e,LP]at q;exact q
 ·subst c
  rw[<-e,Nh]at q;exact q
noncomputable def ET(K:Fg):Sp:=fun vs H Q _=>∃x lo hi,vs=[x,.int lo,.int hi]/\fF K H x/\Q (.bl (aJ x lo hi)) H
noncomputable abbrev dH(K:Fg):Sp:=ET K
noncomputable def rL(K:Fg):TS:=(aN (mD (aq (iy K) [] E0 (aa (ad 0) ag)) (CH (rI0 fun i j=>.bl (decide (i<=j))) (rI0 fun i j=>.bl (decide (i<=j))) (ad 1) (ad 0) (ad 2))))
theorem yF(h:dH K vs H Q E):rL K { nx:=fun _ H'=>Q .non H',rt:=Q } (start ["thing","least","most"] vs) H:=by
 obtain⟨x,lo,hi,rfl,pl,q⟩:=h;refine⟨_,rfl,x,rfl,pl,_,rfl,jn (fun c=>?_) (fun c=>?_)⟩
 ·cases x with
  |int i=>
   refine⟨_,rfl,_,rfl,_,_,rfl,rfl,_,rfl,jn (fun d=>?_) (fun d=>?_)⟩
   ·refine⟨_,rfl,_,_,rfl,rfl,?_⟩
    have q':Q (.bl (decide (lo<=i)&&decide (i<=hi))) H:=q;rw[d,LP]at q';exact q'
   ·have q':Q (.bl (decide (lo<=i)&&decide (i<=hi))) H:=q
    rw[d,Nh]at q';exact q'
  |_=>cases c
 ·cases x with
  |int i=>cases c
  |_=>exact q
noncomputable def mZ(zs:List V):Int:=(zs.map fun z=>match z with | .int i=>i|_=>0).sum
noncomputable def F9(x:V)(zs:List V):Bool:=match x with
 | .int c=>(decide (0<=c)&&decide (c<=12))&&(decide (1<=zs.length)&&decide (zs.length<=5))&&zs.all (fun z=>aJ z 0 c)&&decide (mZ zs<=c)
 |_=>false
theorem vL{zs:List V}{lo hi:Int}(h:zs.all (fun z=>aJ z lo hi)=true):∃ns:List Int,zs=ns.map V.int/\mZ zs=ns.sum:=by
 induction zs with
 |nil=>exact⟨[],rfl,rfl⟩
 |cons z r ih=>
  rw[Lw,LI]at h;obtain⟨ns,e,es⟩:=ih h.2;cases z with
  |int i=>
   refine⟨i::ns,by rw[e];rfl,?_⟩;show i+mZ r=(i::ns).sum;rw[es,K0]
  |_=>exact absurd h.1 Kv
noncomputable def Ga(K:Fg)(H:Hp)(y:V)(zs:Option (List V)):Prop:=match zs with
 |some zs=>∃a,y=.ref a/\(H a=some (.lst zs)\/∃o,H a=some (.frz o (.lst zs)))/\zs.length<=1000/\∀z∈zs,fF K H z
 |none=>∃t,fo K H y t/\LW K t (.type "list")=some false
noncomputable def tW(x:V):Option (List V)->Bool
 |some zs=>F9 x zs
 |none=>false
noncomputable def IR(K:Fg):Sp:=fun vs H Q _=>∃x y zs,vs=[x,y]/\fF K H x/\Ga K H y zs/\∀H',ap H H'->Q (.bl (tW x zs)) H'
noncomputable abbrev ox(K:Fg):Sp:=IR K
noncomputable def wL(K:Fg):TS:=(ar (bD (fY (tB (aq (dH K) [] E0 (aa (ad 0) (aa (tC (.int 0)) (aa (tC (.int 12)) ag)))))) (aN (tC (.bl false))) bv)
 (ar (bD (tOr (fY (tB (tCB (mW K) (aa (ad 1) (aa (tC (.ty "list")) ag))))) (fY (tB (aq (dH K) [] E0 (aa (tCB (dP K) (aa (ad 1) ag)) (aa (tC (.int 1)) (aa (tC (.int 5)) ag))))))) (aN (tC (.bl false))) bv)
 (aN (mD (tCB (Bg K) (aa (cc (cX K (ad 1)) (fun _ _ _ _=>(ao 0)) (fun _ _ _ _=>bM) (fun _ _ _ _=>(aq (dH K) [] E0 (aa (ad 0) (aa (tC (.int 0)) (aa (ad 1) ag))))) [none,some 0]) ag)) (tOp (rI0 fun i j=>.bl (decide (i<=j))) (tCB (sd K) (aa (ad 1) ag)) (ad 0))))))
theorem Bt(h:ox K vs H Q E):wL K { nx:=fun _ H'=>Q .non H',rt:=Q } (start ["cards","sizes"] vs) H:=by
 obtain⟨x,y,zs,rfl,px,hz,q⟩:=h;refine⟨_,rfl,x,0,12,rfl,px,_,rfl,jn (fun c=>?_) (fun c=>?_)⟩
 ·
  have e:tW x zs=false:=by
   have c':aJ x 0 12=false:=by simpa using c
   cases zs with
   |none=>rfl
   |some zs=>
    cases x with
    |int i=>
     show((decide (0<=i)&&decide (i<=12))&&(decide (1<=zs.length)&&decide (zs.length<=5))&&zs.all (fun z=>aJ z 0 i)&&decide (mZ zs<=i))=false;rw[show(decide (0<=i)&&decide (i<=12))=false from c'];rfl
    |_=>rfl
  have:=q H (ap.refl H);rw[e]at this;exact this
 ·have c':aJ x 0 12=true:=by simpa using c
  cases x with
  |int i=>
   cases zs with
   |none=>
    obtain⟨t,ty,k⟩:=hz;refine⟨_,rfl,_,_,_,_,rfl,ty,k,_,rfl,r9 (r9 ?_)⟩;exact q H (ap.refl H)
   |some zs=>
    obtain⟨a,rfl,ha,hlen,hp⟩:=hz;have hS:SqL K H a zs:=ha.elim (fun h=>.inl (.inl h)) (fun h=>.inl (.inr h));have ty:fo K H (.ref a) (.type "list"):=ha.elim (fun h=>.lst h) (fun⟨o,h⟩=>.frz h);refine⟨_,rfl,_,_,_,_,rfl,ty,rE K,_,rfl,r6 ?_⟩;refine⟨_,rfl,a,_,rfl,.inl hS,_,1,5,rfl,fF.int _,_,rfl,jn (fun d=>?_) (fun d=>?_)⟩
    ·have e:tW (.int i) (some zs)=false:=by
      have d0:aJ (.int (zs.length:Int)) 1 5=false:=by simpa using d
      have d':(decide ((1:Int)<=(zs.length:Int))&&decide ((zs.length:Int)<=5))=false:=d0;show((decide (0<=i)&&decide (i<=12))&&(decide (1<=zs.length)&&decide (zs.length<=5))&&zs.all (fun z=>aJ z 0 i)&&decide (mZ zs<=i))=false;have e1:decide (1<=zs.length)=decide ((1:Int)<=(zs.length:Int)):=decide_eq_decide.mpr (by omega);have e2:decide (zs.length<=5)=decide ((zs.length:Int)<=5):=decide_eq_decide.mpr (by omega);rw[e1,e2,d',Ni];rfl
     have:=q H (ap.refl H);rw[e]at this;exact this
    ·have d0:aJ (.int (zs.length:Int)) 1 5=true:=by simpa using d
     have d':(decide ((1:Int)<=(zs.length:Int))&&decide ((zs.length:Int)<=5))=true:=d0;have e0:tW (.int i) (some zs)=(zs.all (fun z=>aJ z 0 i)&&decide (mZ zs<=i)):=by
      show((decide (0<=i)&&decide (i<=12))&&(decide (1<=zs.length)&&decide (zs.length<=5))&&zs.all (fun z=>aJ z 0 i)&&decide (mZ zs<=i))=_;have e1:decide (1<=zs.length)=decide ((1:Int)<=(zs.length:Int)):=decide_eq_decide.mpr (by omega);have e2:decide (zs.length<=5)=decide ((zs.length:Int)<=5):=decide_eq_decide.mpr (by omega);rw[e1,e2,d',show(decide (0<=i)&&decide (i<=12))=true from c',LP,LP]
     rw[e0]at q;refine⟨_,rfl,a,rfl,⟨_,hS⟩,fun p hp'=>wB (K:=K) (a:=a) (xs:=zs) (fun k acc H2=>acc=((zs.take k).map fun z=>aJ z 0 i).map V.bl/\ap H H2/\H2 p=some (.lst acc)) ⟨rfl,bi hp' _,ay⟩ ?_ ?_ (small hlen) ?_ ?_⟩
     ·rintro k acc H2 hk ⟨rfl,s2,e2⟩
      exact⟨e2,by rw[Kk,Kk,Mn];omega⟩
     ·rintro k acc H2 hk ⟨rfl,s2,e2⟩
      exact s2.seq hS
     ·rintro _ _ _ _ k z acc H2 hzk ⟨rfl,s2,e2⟩
      refine⟨_,rfl,_,rfl,z,0,i,rfl,(hp z (Ky hzk)).same s2,e2,?_,s2.upd hp' _,ay⟩;rw[LJ,hzk,KU,KU];rfl
     ·rintro acc H2 ⟨rfl,s2,e2⟩
      rw[Le]at e2;refine⟨p,_,rfl,SqL.of e2,_,rfl,?_⟩;have ea:(zs.map fun z=>aJ z 0 i).all id=zs.all fun z=>aJ z 0 i:=by
       rw[MV];rfl
      rw[ea];refine jn (fun g=>?_) (fun g=>?_)
      ·obtain⟨ns,en,es⟩:=vL g
       rw[g,LP,es]at q;refine⟨_,rfl,a,ns,rfl,by rw[<-en];exact s2.seq hS,_,rfl,_,_,rfl,rfl,?_⟩;exact q H2 s2
      ·rw[g,Nh]at q
       exact q H2 s2
  |_=>exact absurd c' Kv
noncomputable def Dm:Sp:=fun vs H Q _=>∃n k:Nat,vs=[.int n,.int k]/\k<=n/\n<=50/\Q (.int (KM.choose n k:Nat)) H
noncomputable abbrev oy(K:Fg):Sp:=Dm
noncomputable def wM(K:Fg):TS:=(ar (aK (tC (.int 1)) (ao 2))
 (ar (eX (iI (aa (ad 1) ag)) (ao 3) (aK (tOp (rI kX fun i j=>.int (i/j)) (tOp (rI NJ fun i j=>.int (i*j)) (ad 2) (tOp (rI0 fun i j=>.int (i-j)) (ad 0) (ad 3))) (tOp (rI0 fun i j=>.int (i+j)) (ad 3) (tC (.int 1)))) (ao 2)))
 (aN (ad 2))))
theorem Bu(h:oy K vs H Q E):wM K { nx:=fun _ H'=>Q .non H',rt:=Q } (start ["many","taken","ways","step"] vs) H:=by
 obtain⟨n,k,rfl,hk,hn,q⟩:=h;refine⟨_,rfl,_,rfl,by omega,by omega,pF (lo:=0) (n:=((k:Nat):Int).toNat) (fun i σ H2=>∃st,σ=[some (.int n),some (.int k),some (.int (KM.choose n i:Nat)),st]/\H2=H) ⟨none,by rw[KM.j8];rfl,rfl⟩ ?_ ?_⟩
 ·rintro i σ H2 hi ⟨st,rfl,rfl⟩
  have hi':i+1<=n:=by omega
  refine⟨_,rfl,_,rfl,_,rfl,_,_,rfl,rfl,_,_,rfl,rfl,.of_right (PH (by omega) (by omega)),_,rfl,_,_,rfl,rfl,_,_,rfl,rfl,⟨by omega,by omega⟩,?_⟩;dsimp only;rw[KM.yC hi'];exact⟨_,rfl,rfl⟩
 ·rintro σ H2 ⟨st,rfl,rfl⟩
  refine⟨_,rfl,?_⟩;rw[show((k:Nat):Int).toNat=k by omega];exact q
structure pW(c:Nat)(ss:List Nat):Prop where
 c12:c<=12
 l1:1<=ss.length
 l5:ss.length<=5
 sum:ss.sum<=c
noncomputable def av(ss:List Nat):List V:=ss.map fun(s:Nat)=>V.int ((s:Nat):Int)
theorem cT(ss:List Nat):av ss=(ss.map fun(s:Nat)=>((s:Nat):Int)).map V.int:=by unfold av;rw[MW];rfl
theorem bo(ss:List Nat):(av ss).length=ss.length:=Kk _
theorem iZ:∀ss:List Nat,(ss.map fun(s:Nat)=>((s:Nat):Int)).sum=((ss.sum:Nat):Int)
 | []=>rfl
 |a::r=>by rw[KL,K0,K0,iZ r];omega
theorem lp:∀{ss:List Nat} {s:Nat},s∈ss->s<=ss.sum
 |a::r,s,h=>by
  rw[K0];rcases Kq.mp h with rfl|h
  ·omega
  ·have:=lp h
   omega
theorem EU{c:Nat}{ss:List Nat}(p:pW c ss):F9 (.int c) (av ss)=true:=by
 have h1:=p.c12;have h2:=p.l1;have h3:=p.l5;have h4:=p.sum;show((decide ((0:Int)<=(c:Int))&&decide ((c:Int)<=12))&&(decide (1<=(av ss).length)&&decide ((av ss).length<=5))&&(av ss).all (fun z=>aJ z 0 c)&&decide (mZ (av ss)<=c))=true;have e1:(av ss).all (fun z=>aJ z 0 c)=true:=by
  unfold av;rw[MV,Np];intro s hs;have:=lp hs;show(decide ((0:Int)<=(s:Int))&&decide ((s:Int)<=(c:Int)))=true;rw[decide_eq_true (by omega),decide_eq_true (by omega)];rfl
 have e2:mZ (av ss)=((ss.sum:Nat):Int):=by
  rw[<-iZ];unfold mZ av;rw[MW];rfl
 rw[e1,e2,bo,decide_eq_true (by omega),decide_eq_true (by omega),decide_eq_true h2,decide_eq_true h3,decide_eq_true (by omega)];rfl
theorem EV{K:Fg}{H:Hp}{a:Addr}{ss:List Nat}(h:H a=some (.lst (av ss)))(hl:ss.length<=1000):Ga K H (.ref a) (some (av ss)):=
 ⟨a,rfl,.inl h,by rw[bo];exact hl,fun z hz=>by
  obtain⟨s,_,rfl⟩:=Lr.mp hz;exact fF.int _⟩
noncomputable def JH(K:Fg):Sp:=fun vs H Q _=>∃(c:Nat)(a:Addr)(ss:List Nat),vs=[.int c,.ref a]/\H a=some (.lst (av ss))/\pW c ss/\∀H',ap H H'->Q (.int (KM.cg c ss:Nat)) H'
noncomputable abbrev m7(K:Fg):Sp:=JH K
noncomputable def tX(K:Fg):TS:=(ar (bD (fY (tB (aq (ox K) [] E0 (aa (ad 0) (aa (ad 1) ag))))) dD bv)
 (ar (aK (tC (.int 1)) (ao 2))
 (ar (aK (ad 0) (ao 3))
 (ar (eX (cX K (ad 1)) (ao 4) (ar (aK (tOp (rI NJ fun i j=>.int (i*j)) (ad 2) (aq (oy K) [] E0 (aa (ad 3) (aa (ad 4) ag)))) (ao 2))
 (aK (tOp (rI0 fun i j=>.int (i-j)) (ad 3) (ad 4)) (ao 3))))
 (aN (ad 2))))))
theorem zL(h:m7 K vs H Q E):tX K { nx:=fun _ H'=>Q .non H',rt:=Q } (start ["cards","sizes","many","left","size"] vs) H:=by
 obtain⟨c,a,ss,rfl,ha,p,q⟩:=h;have h12:=p.c12;have h5:=p.l5;refine⟨_,rfl,_,rfl,_,_,some (av ss),rfl,fF.int _,EV ha (by omega),fun H1 s1=>⟨_,rfl,?_⟩⟩;rw[show tW (.int c) (some (av ss))=true from EU p];refine r6 ?_;refine⟨_,rfl,?_⟩;refine⟨_,rfl,a,rfl,⟨_,SqL.of (s1 _ _ ha)⟩,rW (K:=K) (a:=a) (xs:=av ss) (fun i σ H2=>∃(m l:Nat)(st:Option V),σ=[some (.int c),some (.ref a),some (.int m),some (.int l),st]/\H2=H1/\m*KM.cg l (ss.drop i)=KM.cg c ss/\(ss.drop i).sum<=l/\l<=12)
  ⟨1,c,none,rfl,rfl,by rw[Ss];rfl,p.sum,h12⟩ (fun i σ H2 _ ⟨_,_,_,_,e,_⟩=>by subst e;exact SqL.of (s1 _ _ ha)) ?_ ?_⟩
 ·rintro i x σ H2 hx ⟨m,l,st,rfl,rfl,hm,hs,hl⟩
  obtain⟨z,hz,rfl⟩:∃z:Nat,ss[i]?=some z/\x=.int (z:Int):=by
   unfold av at hx;rw[Kz]at hx;cases e:ss[i]? with
   |none=>rw[e]at hx;cases hx
   |some z=>rw[e]at hx;exact⟨z,rfl,(KA hx).symm⟩
  have hd:ss.drop i=z::ss.drop (i+1):=by
   obtain⟨h1,h2⟩:=Kn.mp hz;rw[P5 h1,h2]
  rw[hd,K0]at hs;rw[hd,KM.cg]at hm;have hle:=KM.Dg l z;have h2:(2:Nat)^l<=2^12:=Nat.pow_le_pow_right (by decide) hl;refine⟨_,rfl,_,rfl,_,rfl,l,z,rfl,by omega,by omega,_,_,rfl,rfl,.of_right (PH (by omega) (by omega)),?_⟩;refine⟨_,rfl,_,rfl,_,_,rfl,rfl,m*KM.choose l z,l-z,some (.int (z:Int)),?_,rfl,by rw[Md];exact hm,by omega,by omega⟩;have e1:((m:Nat):Int)*((KM.choose l z:Nat):Int)=((m*KM.choose l z:Nat):Int):=(QH _ _).symm;have e2:((l:Nat):Int)-((z:Nat):Int)=((l-z:Nat):Int):=by omega
  dsimp only;rw[e1,e2];rfl
 ·rintro σ H2 ⟨m,l,st,rfl,rfl,hm,hs,hl⟩
  refine⟨_,rfl,?_⟩;rw[bo,SI,KM.cg,Nat.mul_one]at hm;rw[hm];exact q _ s1
noncomputable def bH(H:Hp)(p:Addr)(ws:List (List Nat)):Prop:=∃rs:List Addr,H p=some (.lst (rs.map V.ref))/\Paired (fun(a:Addr)(w:List Nat)=>H a=some (.tup (av w))) rs ws
theorem ka{H H':Hp}{rs:List Addr}{ws:List (List Nat)}(h:Paired (fun(a:Addr)(w:List Nat)=>H a=some (.tup (av w))) rs ws)(s:∀a xs,H a=some (.tup xs)->H' a=some (.tup xs)):Paired (fun(a:Addr)(w:List Nat)=>H' a=some (.tup (av w))) rs ws:=
 Paired.mapP h fun a w e=>s _ _ e
theorem oz{α β:Type}{F:α->β->Prop}:∀{l:List α} {m:List β} {i:Nat} {a:α},Paired F l m->l[i]?=some a->∃b,m[i]?=some b/\F a b
 |_,_,_,_,.nil,h=>by simp at h
 |_,_,0,_,.cons r _,h=>by simp at h;subst h;exact⟨_,rfl,r⟩
 |_,_,i+1,a,.cons _ t,h=>by
  obtain⟨b,h1,h2⟩:=oz (i:=i) (a:=a) t (by simpa using h);exact⟨b,by simpa using h1,h2⟩
theorem oA{α β:Type}{F:α->β->Prop}:∀{l:List α} {m:List β} {l':List α} {m':List β},Paired F l m->Paired F l' m'->Paired F (l++l') (m++m')
 |_,_,_,_,.nil,h=>h
 |_,_,_,_,.cons r t,h=>.cons r (oA t h)
theorem Bv(w:List Nat)(j:Nat):(av w).countP (fun z=>eqV z (.int (j:Int)))=w.count j:=by
 unfold av;rw[List.countP_map,List.count_eq_countP]
 congr 1
 funext k
 show((k:Int)==(j:Int))=(k==j);by_cases h:k=j
 ·subst h;simp
 ·rw[beq_eq_false_iff_ne.mpr h,beq_eq_false_iff_ne.mpr (by omega)]
theorem Dn(w:List Nat):(av w).all dt=true:=by unfold av;rw[MV];simp[dt]
noncomputable def IS(K:Fg):Sp:=fun vs H Q _=>∃(b r:Addr)(ws:List (List Nat))(room:List Nat),vs=[.ref b,.ref r]/\bH H b ws/\H r=some (.lst (av room))/\room.length<=6/\(KM.fc room ws).length<=2000/\(∀w∈ws,w.length<=12)/\
 ∀(p:Addr)(H':Hp),ap H H'->H p=none->bH H' p (KM.fc room ws)->Q (.ref p) H'
noncomputable abbrev i8(K:Fg):Sp:=IS K
noncomputable def mL(K:Fg):TS:=(ar (aK (A2 ag) (ao 2))
 (ar (eX (cX K (ad 0)) (ao 3) (eX (qC bP K (aa (ad 1) ag)) (ik K 2 (bx (ao 4) (bx (ao 5) ij))) (bD (br (tOp (rI0 fun i j=>.bl (decide (i<j))) (tBT Au (ad 3) (aa (ad 4) ag)) (ad 5))) (bR (tBM K "list" nD (ad 2) (aa (tOp (F0 K) (ad 3) (Es (aa (ad 4) ag))) ag))) bv)))
 (aN (ad 2))))
theorem sf(h:i8 K vs H Q E):mL K { nx:=fun _ H'=>Q .non H',rt:=Q } (start ["begun","room","longer","deal","who","most"] vs) H:=by
 obtain⟨b,r,ws,room,rfl,⟨rs,hb,hp⟩,hrm,h6,h2000,h12,q⟩:=h;refine⟨(by show 0<=Kw;decide),fun l hl=>?_⟩;have sl:ap H (upd H l (.lst [])):=bi hl _;have hrl:ws.length=rs.length:=hp.length.symm;refine⟨_,rfl,b,rfl,⟨_,SqL.of (sl _ _ hb)⟩,rW (K:=K) (a:=b) (xs:=rs.map V.ref)
  (fun i σ H2=>∃d wh mo:Option V,σ=[some (.ref b),some (.ref r),some (.ref l),d,wh,mo]/\ap H H2/\bH H2 l (KM.fc room (ws.take i)))
  ⟨none,none,none,rfl,sl,[],by rw[ay];rfl,.nil⟩ (fun i σ H2 _ ⟨_,_,_,_,s2,_⟩=>SqL.of (s2 _ _ hb)) ?_ ?_⟩
 ·rintro i x σ H2 hx ⟨d,wh,mo,rfl,s2,D2⟩
  obtain⟨a,ea,rfl⟩:∃a,rs[i]?=some a/\x=.ref a:=by
   rw[Kz]at hx;cases e:rs[i]? with
   |none=>rw[e]at hx;cases hx
   |some a=>rw[e]at hx;exact⟨a,rfl,(KA hx).symm⟩
  obtain⟨u,hu,ha⟩:=oz hp ea;have hu12:=h12 u (Ky hu);have gt:=KM.Di room ws i u hu;have gle:=KM.yE room ws (i+1);refine⟨_,rfl,r,_,rfl,SqL.of (s2 _ _ hrm),yk (S:=bP) (K:=K) (a:=r) (xs:=av room)
   (fun j σ H3=>∃wh mo:Option V,σ=[some (.ref b),some (.ref r),some (.ref l),some (.ref a),wh,mo]/\ap H H3/\bH H3 l (KM.fc room (ws.take i)++(KM.fq room u j).map fun k=>u++[k]))
   ⟨wh,mo,rfl,s2,by simpa[KM.fq]using D2⟩ (fun j σ H3 _ ⟨_,_,_,s3,_⟩=>SqL.of (s3 _ _ hrm)) ?_ ?_⟩
  ·rintro j x T σ H3 hxj ⟨wh',mo',rfl,s3,qs,hq,pq⟩ hT
   obtain⟨m,hm,rfl⟩:∃m:Nat,room[j]?=some m/\x=.int (m:Int):=by
    unfold av at hxj;rw[Kz]at hxj;cases e:room[j]? with
    |none=>rw[e]at hxj;cases hxj
    |some z=>rw[e]at hxj;exact⟨z,rfl,(KA hxj).symm⟩
   have hmD:room.getD j 0=m:=by rw[KG,hm];rfl
   have hjl:j<room.length:=(Kn.mp hm).1;have nT:H T=none:=s3.free hT;have s4:ap H (upd H3 T (.tup [.int (j:Int),.int (m:Int)])):=s3.upd nT _;have a4:(upd H3 T (.tup [.int (j:Int),.int (m:Int)])) a=some (.tup (av u)):=s4 _ _ ha;have nlT:l≠T:=bd hq hT;have q4:(upd H3 T (.tup [.int (j:Int),.int (m:Int)])) l=some (.lst (qs.map V.ref)):=by rw[aM nlT];exact hq
   have p4:Paired (fun(a:Addr)(w:List Nat)=>(upd H3 T (.tup [.int (j:Int),.int (m:Int)])) a=some (.tup (av w))) qs (KM.fc room (ws.take i)++(KM.fq room u j).map fun k=>u++[k]):=
    ka pq fun a xs e=>by rw[aM (bd e hT)];exact e
   have hqlen:qs.length<=2000:=by
    have e1:=pq.length;rw[KP,Kk]at e1;rw[gt,KP,Kk,<-KM.rK]at gle;have e3:(KM.fq room u j).length<=(KM.fq room u room.length).length:=by
     unfold KM.fq;have:(KS j).Sublist (KS room.length):=List.range_sublist.mpr (by omega);exact(this.filter _).length_le
    omega
   have t4:(upd H3 T (.tup [.int (j:Int),.int (m:Int)])) T=some (.tup [.int (j:Int),.int (m:Int)]):=ay;generalize upd H3 T (.tup [.int (j:Int),.int (m:Int)])=H4 at s4 a4 q4 p4 t4;have ns:=KM.yD room u j;rw[hmD]at ns;refine⟨T,_,rfl,SqT.of t4,rfl,_,_,rfl,_,_,rfl,rfl,?_⟩;refine⟨_,rfl,⟨a,_,rfl,a4⟩,_,rfl,a,_,_,rfl,rfl,a4,rfl,Dn u,_,rfl,_,_,rfl,rfl,_,rfl,?_⟩;rw[Bv];refine jn (fun c=>?_) (fun c=>?_)
   ·have c':u.count j<m:=by have:=of_decide_eq_true c;omega
    rw[if_pos c']at ns;have fin:∀(d:Addr)(H5:Hp),ap H4 H5->H5 d=some (.tup (av (u++[j])))->∃(l':Addr)(xs:List V)(y:V),V.ref l=.ref l'/\[V.ref d]=[y]/\H5 l'=some (.lst xs)/\xs.length<Kw/\
      ∃wh mo:Option V,([some (.ref b),some (.ref r),some (.ref l),some (.ref a),some (.int (j:Int)),some (.int (m:Int))]:L2.St)=[some (.ref b),some (.ref r),some (.ref l),some (.ref a),wh,mo]/\ap H (upd H5 l' (.lst (xs++[y])))/\
       bH (upd H5 l' (.lst (xs++[y]))) l (KM.fc room (ws.take i)++(KM.fq room u (j+1)).map fun k=>u++[k]):=by
     intro d H5 s5 e5;refine⟨l,_,_,rfl,rfl,s5 _ _ q4,NB (by rw[Kk];exact hqlen) (by decide),_,_,rfl,(s4.trans s5).upd hl _,qs++[d],by rw[ay,KU];rfl,?_⟩;have keep:∀(c:Addr)(xs:List V),H5 c=some (.tup xs)->upd H5 l (.lst (qs.map V.ref++[V.ref d])) c=some (.tup xs):=fun c xs e=>by
      rw[aM (FW e (s5 _ _ q4) (by intro z;cases z))];exact e
     rw[ns,KU,<-PX];exact oA (ka (ka p4 fun c xs e=>s5 _ _ e) keep) (.cons (keep _ _ e5) .nil)
    refine⟨_,rfl,.inl ⟨rfl,_,SqL.of q4⟩,_,rfl,_,rfl,(by show 1<=Kw;decide),fun t ht=>?_⟩;have st:ap H4 (upd H4 t (.tup [.int (j:Int)])):=bi ht _;have ej:av (u++[j])=av u++[.int (j:Int)]:=by unfold av;rw[KU];rfl
    refine⟨a,t,av u,[.int (j:Int)],rfl,rfl,SqT.of (st _ _ a4),SqT.of ay,small (by rw[bo];show u.length+1<=1000;omega),fun e0=>?_,fun _ e0=>(nomatch e0),fun _ _ p hp'=>?_⟩
    ·exact fin t _ st (by rw[ay,ej,e0];rfl)
    ·exact fin p _ (st.trans (bi hp' _)) (by rw[ay,ej])
   ·have c':¬u.count j<m:=by have:=of_decide_eq_false c;omega
    rw[if_neg c',MI]at ns;exact⟨_,_,rfl,s4,qs,q4,by rw[ns];exact p4⟩
  ·rintro σ H3 ⟨wh',mo',rfl,s3,D3⟩
   rw[bo,KM.rK,<-gt]at D3;exact⟨_,_,_,rfl,s3,D3⟩
 ·rintro σ H2 ⟨d,wh,mo,rfl,s2,D2⟩
  refine⟨_,rfl,?_⟩;rw[Kk,<-hrl,Le]at D2;exact q l H2 s2 hl D2
noncomputable def GP(K:Fg):Sp:=fun vs H Q _=>∃(c:Nat)(a:Addr)(ss:List Nat),vs=[.int c,.ref a]/\H a=some (.lst (av ss))/\pW c ss/\KM.cg c ss<=2000/\
 ∀(p:Addr)(H':Hp),ap H H'->H p=none->bH H' p (KM.ci (ss++[c-ss.sum]) c)->Q (.ref p) H'
theorem kL(ss:List Nat)(c:Nat):av ss++[.int (c:Int)]=av (ss++[c]):=by unfold av;rw[KU];rfl
noncomputable abbrev ke(K:Fg):Sp:=GP K
noncomputable def tY(K:Fg):TS:=(ar (bD (br (tOp (rI0 fun i j=>.bl (decide (j<i))) (aq (m7 K) [] E0 (aa (ad 0) (aa (ad 1) ag))) (tC (.int 2000)))) dD bv)
 (ar (aK (tOp Io (ad 1) (A2 (aa (tOp (rI0 fun i j=>.int (i-j)) (ad 0) (tCB (sd K) (aa (ad 1) ag))) ag))) (ao 2))
 (ar (aK (A2 (aa (Es ag) ag)) (ao 3))
 (ar (eX (iI (aa (ad 0) ag)) (ao 4) (aK (aq (i8 K) [] E0 (aa (ad 3) (aa (ad 2) ag))) (ao 3)))
 (aN (ad 3))))))
theorem zM(h:ke K vs H Q E):tY K { nx:=fun _ H'=>Q .non H',rt:=Q } (start ["cards","sizes","room","begun","card"] vs) H:=by
 obtain⟨c,a,ss,rfl,ha,p,hm,q⟩:=h;have h12:=p.c12;have h5:=p.l5;have hsum:=p.sum;refine⟨_,rfl,_,rfl,c,a,ss,rfl,ha,p,fun H1 s1=>?_⟩;refine⟨_,_,rfl,rfl,_,rfl,jn (fun k=>?_) (fun _=>?_)⟩
 ·have k':(2000:Int)<((KM.cg c ss:Nat):Int):=of_decide_eq_true k
  omega
 have a1:=s1 _ _ ha;refine⟨_,rfl,_,rfl,_,rfl,a,_,rfl,by rw[<-cT];exact SqL.of a1,_,_,rfl,rfl,(by show 1<=Kw;decide),fun l hl=>?_⟩;have s2:ap H (upd H1 l (.lst [.int ((c:Int)-(ss.map fun(s:Nat)=>((s:Nat):Int)).sum)])):=s1.trans (bi hl _);have e2:(upd H1 l (.lst [.int ((c:Int)-(ss.map fun(s:Nat)=>((s:Nat):Int)).sum)])) l=some (.lst [.int ((c:Int)-(ss.map fun(s:Nat)=>((s:Nat):Int)).sum)]):=ay;rw[show(c:Int)-(ss.map fun(s:Nat)=>((s:Nat):Int)).sum=((c-ss.sum:Nat):Int) by rw[iZ];omega]at s2 e2;dsimp only;rw[show(c:Int)-(ss.map fun(s:Nat)=>((s:Nat):Int)).sum=((c-ss.sum:Nat):Int) by rw[iZ];omega];generalize upd H1 l (.lst [.int ((c-ss.sum:Nat):Int)])=H2 at s2 e2;refine⟨a,l,_,_,rfl,rfl,s2 _ _ ha,e2,small (by rw[bo];show ss.length+1<=1000;omega),fun rm hrm=>?_⟩;rw[kL];have hRs:(ss++[c-ss.sum]).sum=c:=by rw[L9,K0,NV];omega
 have hRl:(ss++[c-ss.sum]).length<=6:=by rw[KP];show ss.length+1<=6;omega
 have hlev:=KM.j9 hsum;have s3:ap H (upd H2 rm (.lst (av (ss++[c-ss.sum])))):=s2.trans (bi hrm _);have e3:(upd H2 rm (.lst (av (ss++[c-ss.sum])))) rm=some (.lst (av (ss++[c-ss.sum]))):=ay;generalize ss++[c-ss.sum]=R at *;generalize upd H2 rm (.lst (av R))=H3 at s3 e3;refine⟨(by show 0<=Kw;decide),fun t ht=>⟨(by show 1<=Kw;decide),fun b hb=>?_⟩⟩;have s4:ap H3 (upd (upd H3 t (.tup [])) b (.lst [.ref t])):=(bi ht _).trans (bi hb _);have D4:bH (upd (upd H3 t (.tup [])) b (.lst [.ref t])) b (KM.ci R 0):=⟨[t],ay,.cons (by rw[aM (bd (ay (o:=HO.tup [])) hb)];exact ay) .nil⟩;have f4:H b=none:=by
  have:H3 b=none:=(bi ht _).free hb;exact s3.free this
 generalize upd (upd H3 t (.tup [])) b (.lst [.ref t])=H4 at s4 D4;refine⟨_,rfl,_,rfl,by omega,by omega,pF (lo:=0) (n:=((c:Nat):Int).toNat) (fun i σ H5=>∃(b:Addr)(st:Option V),σ=[some (.int c),some (.ref a),some (.ref rm),some (.ref b),st]/\ap H3 H5/\H b=none/\bH H5 b (KM.ci R i)) ⟨b,none,rfl,s4,f4,D4⟩ ?_ ?_⟩
 ·rintro i σ H5 hi ⟨b',st,rfl,s5,f5,D5⟩
  have hi':i+1<=c:=by omega
  refine⟨_,rfl,_,rfl,b',rm,_,R,rfl,D5,s5 _ _ e3,hRl,?_,fun u hu=>?_,fun p' H6 s6 f6 D6=>?_⟩
  ·have h1:=KM.ES (room:=R) (i:=i+1) (by omega)
   rw[hRs,hlev]at h1;exact K4 h1 hm
  ·have:=(KM.iw R i u hu).len
   omega
  ·exact⟨p',_,rfl,s5.trans s6,(s3.trans s5).free f6,D6⟩
 ·rintro σ H5 ⟨b',st,rfl,s5,f5,D5⟩
  refine⟨_,rfl,?_⟩;rw[show((c:Nat):Int).toNat=c by omega]at D5;exact q b' H5 (s3.trans s5) f5 D5
noncomputable def pX(xs:List Int)(w:Int)(i:Nat):List Int:=((KS i).filter fun j=>decide (xs[j]?=some w)).map fun(j:Nat)=>((j:Nat):Int)
theorem Do(xs:List Int)(w:Int)(i:Nat):pX xs w (i+1)=pX xs w i++(if xs[i]?=some w then[(i:Int)]else[]):=by
 unfold pX;rw[NF,Oo,KU];by_cases h:xs[i]?=some w
 ·rw[if_pos h,Nw (by simpa using h)]
  rfl
 ·rw[if_neg h,Nx (by simpa using h)]
  rfl
theorem EW(xs:List Int)(w:Int)(i:Nat):(pX xs w i).length<=i:=by
 unfold pX;rw[Kk];have h:=OW (fun j=>decide (xs[j]?=some w)) (KS i);rw[L6]at h;exact h
noncomputable def GR(K:Fg):Sp:=fun vs H Q _=>∃(d:Addr)(xs:List Int)(v:Int),vs=[.ref d,.int v]/\SqT K H d (xs.map V.int)/\xs.length<=1000/\
 ∀(r:Addr)(H':Hp),ap H H'->H' r=some (.tup ((pX xs v xs.length).map V.int))->Q (.ref r) H'
theorem IT{xs:List Int}{i:Nat}{x:V}(h:(xs.map V.int)[i]?=some x):∃z,xs[i]?=some z/\x=.int z:=by
 rw[Kz]at h;cases e:xs[i]? with
 |none=>rw[e]at h;cases h
 |some z=>rw[e]at h;exact⟨z,rfl,(KA h).symm⟩
noncomputable abbrev iz(K:Fg):Sp:=GR K
noncomputable def tZ(K:Fg):TS:=(aN (tCB (II K) (aa (cc (qC iX K (aa (ad 0) ag)) (fun _ _ _ _=>(ik K 2 (bx (ao 0) (bx (ao 1) ij)))) (fun _ _ _ _=>(br (tOp rEq (ad 1) (ad 2)))) (fun _ _ _ _=>(ad 0)) [none,none,some 1]) ag)))
theorem zN(h:iz K vs H Q E):tZ K { nx:=fun _ H'=>Q .non H',rt:=Q } (start ["deal","who"] vs) H:=by
 obtain⟨d,xs,v,rfl,hd,hlen,q⟩:=h;have hl:(xs.map V.int).length=xs.length:=Kk _;refine⟨_,rfl,d,_,rfl,hd,fun p hp=>C3 (S:=iX) (K:=K) (a:=d) (xs:=xs.map V.int) (fun i acc H2=>acc=(pX xs v i).map V.int/\ap H H2/\H2 p=some (.lst acc)) ⟨rfl,bi hp _,ay⟩ ?_ ?_ ?_ ?_ ?_⟩
 ·rintro i acc H2 hi ⟨rfl,s2,e2⟩
  exact⟨e2,by rw[Kk];exact EW _ _ _⟩
 ·rintro i acc H2 hi ⟨rfl,s2,e2⟩
  exact s2.tup hd
 ·rw[hl]
  exact small hlen
 ·rintro _ _ _ _ i x T acc H2 hx ⟨rfl,s2,e2⟩ hT
  obtain⟨z,hz,rfl⟩:=IT hx;have nTp:p≠T:=bd e2 hT;have nT:H T=none:=s2.free hT;refine⟨T,_,rfl,SqT.of ay,rfl,_,_,rfl,_,_,rfl,rfl,_,rfl,_,rfl,rfl,_,rfl,?_⟩;have eu:=Do xs v i;refine jn (fun c=>?_) (fun c=>?_)
  ·have c':z=v:=by
    have:=of_decide_eq_true c;injection this
   subst c';rw[if_pos hz]at eu;refine⟨_,rfl,by rw[aM nTp];exact e2,?_,(s2.upd nT _).upd hp _,ay⟩;rw[eu,KU];rfl
  ·have c':¬xs[i]?=some v:=by
    rw[hz];intro e;have:=of_decide_eq_false c;exact this (by rw[KA e])
   rw[if_neg c',MI]at eu;exact⟨by rw[eu],s2.upd nT _,by rw[aM nTp];exact e2⟩
 ·rintro acc H2 ⟨rfl,s2,e2⟩
  rw[hl]at e2;exact⟨p,_,rfl,.inl ⟨SqL.of e2,fun t ht=>q t _ (s2.trans (bi ht _)) ay⟩⟩
theorem jT{ss:List Nat}{i:Nat}{x:V}(hx:(av ss)[i]?=some x):∃z:Nat,ss[i]?=some z/\x=.int (z:Int):=by
 unfold av at hx;rw[Kz]at hx;cases e:ss[i]? with
 |none=>rw[e]at hx;cases hx
 |some z=>rw[e]at hx;exact⟨z,rfl,(KA hx).symm⟩
end
section
variable{K:Fg}{vs:List V}{H:Hp}{Q:VK}{E:XK}
noncomputable abbrev cD(K:Fg):Sp:=Iv K
noncomputable def kf(K:Fg):TS:=(ar (bD (br (tOp (rI0 fun i j=>.bl (decide (i<j))) (ad 1) (tCB (dP K) (aa (ad 0) ag)))) (aN (tOp (cz K) (ad 0) (ad 1))) bv)
 (ar (aK (tOp (rI0 fun i j=>.int (i+j)) (tOp (rI NJ fun i j=>.int (i*j)) (ad 1) (tC (.int 7919))) (tC (.int 5))) (ao 2))
 (ar (bD (br (tOp (rI0 fun i j=>.bl (decide (j<i))) (tCB (dP K) (aa (ad 0) ag)) (tC (.int 0)))) (aK (tOp (rI0 fun i j=>.int (i+j)) (tOp (rI NJ fun i j=>.int (i*j)) (tOp (cz K) (ad 0) (tOp (rI (fun _ j=>0<j) fun i j=>.int (i%j)) (tOp (rI NJ fun i j=>.int (i*j)) (ad 1) (tC (.int 7))) (tCB (dP K) (aa (ad 0) ag)))) (tC (.int 48271))) (tOp (rI NJ fun i j=>.int (i*j)) (ad 1) (tC (.int 7919)))) (ao 2)) bv)
 (ar (aK (tOp (rI (fun _ j=>0<j) fun i j=>.int (i%j)) (tOp (rI NJ fun i j=>.int (i*j)) (ad 2) (ad 2)) (tC (.int 2147483629))) (ao 2))
 (aN (tOp (rI (fun _ j=>0<j) fun i j=>.int (i%j)) (tOp (rI NJ fun i j=>.int (i*j)) (tOp (rI0 fun i j=>.int (i+j)) (ad 2) (ad 1)) (tOp (rI0 fun i j=>.int (i+j)) (ad 2) (tC (.int 69621)))) (tC (.int 2147483587))))))))
theorem yG(h:cD K vs H Q E):kf K { nx:=fun _ H'=>Q .non H',rt:=Q } (start ["_law_script","_law_k","_law_number"] vs) H:=by
 obtain⟨a,ns,k,rfl,⟨hS,h63,hbits⟩,h0,h1,q⟩:=h;show kf K _ [some _,some _,none] _;unfold kf;have hl:(ns.map V.int).length=ns.length:=Kk _;right;rw[hl];refine bN (fun c=>?_) (fun c=>?_)
 ·right
  refine bW hS (yl h0 c) ?_;have e:du ns k=ns.getD k.toNat 0:=by unfold du;rw[if_pos c]
  rw[e]at q;exact q
 ·refine C6 ?_
  dsimp only;refine bB ?_;nofun;refine qF fun NX hNX=>?_;have last:∀n0:Int,Lj n0<=1048600->du ns k=((n0*n0%2147483629)+k)*((n0*n0%2147483629)+69621)%2147483587->NX [some (.ref a),some (.int k),some (.int n0)] H:=by
   intro n0 hb e;refine hNX _ _ ?_;have z1:0<=n0*n0%2147483629:=NG _ (by decide);have z2:n0*n0%2147483629<2147483629:=PB _ (by decide);refine bB ?_;refine Ba ?_;refine ED ?_;refine ED ?_;refine Bb rfl ?_;refine Bb rfl ?_;refine r_I (.of_le hb hb (by decide)) ?_;right;rw[e]at q;exact q
  nofun;rw[hl];refine bN (fun d=>?_) (fun d=>?_)
  ·have m1:0<=k*7%(ns.length:Int):=NG _ (by omega)
   have m2:k*7%(ns.length:Int)<(ns.length:Int):=PB _ d;nofun;rw[hl];refine bW hS (yl m1 m2) ?_;nofun;refine last _ ?_ ?_
   ·have b1:=C4 hbits (k*7%(ns.length:Int)).toNat
    have b2:Lj (48271:Int)<=16:=by decide
    have b3:Lj k<=20:=intBits_le_iff.mpr (by have:(2:Nat)^20=1048576:=(by decide);omega);have b4:Lj (7919:Int)<=13:=by decide
    exact K4 (intBits_add_le (Q0 b1 b2) (Q0 b3 b4)) (by decide)
   ·unfold du
    rw[if_neg c,if_pos d]
  ·nofun
   refine last _ ?_ ?_
   ·have b3:Lj k<=20:=intBits_le_iff.mpr (by have:(2:Nat)^20=1048576:=(by decide);omega)
    have b4:Lj (7919:Int)<=13:=by decide
    have b5:Lj (5:Int)<=3:=by decide
    exact K4 (intBits_add_le (Q0 b3 b4) b5) (by decide)
   ·unfold du
    rw[if_neg c,if_neg d]
noncomputable def gc(_:Fg):Sp:=fun vs H Q _=>∃n:Nat,vs=[.int n]/\n<=12/\Q (.int (KM.aQ n:Nat)) H
noncomputable def gN(K:Fg):TS:=(ar (aK (tC (.int 1)) (ao 1))
 (ar (eX (iI (aa (ad 0) ag)) (ao 2) (aK (tOp (rI NJ fun i j=>.int (i*j)) (ad 1) (tOp (rI0 fun i j=>.int (i+j)) (ad 2) (tC (.int 1)))) (ao 1)))
 (aN (ad 1))))
theorem KM.fact_le{n m: Nat}(h: n ≤ m): KM.aQ n ≤ KM.aQ m:= by
  induction m with
  | zero => have : n = 0 := by omega
            subst this;exact Km _
  |succ m ih=>
    by_cases e: n= m+1
    · subst e;exact Km _
    · have := ih (by omega)
      rw[KM.aQ];exact K4 this (Nat.le_mul_of_pos_right _ (RW m))
theorem Dp{n:Nat}(h:n<=12):KM.aQ n<=479001600:=K4 (KM.fact_le h) (by decide)
theorem t9(h:gc K vs H Q E):gN K { nx:=fun _ H'=>Q .non H',rt:=Q } (start ["_law_many","_law_found","_law_k"] vs) H:=by
 obtain⟨n,rfl,hn,q⟩:=h;show gN K _ [some _,none,none] _;unfold gN;right;refine n9 n (by omega) (by omega) (by omega) (fun i σ H2=>∃st,σ=[some (.int n),some (.int (KM.aQ i:Nat)),st]/\H2=H) ⟨none,rfl,rfl⟩ ?_ ?_
 ·rintro i σ H2 hi ⟨st,rfl,rfl⟩
  have:=Dp (n:=i) (by omega);right;refine⟨some (.int i),?_,rfl⟩;rw[KM.aQ,QH,show((i:Int)+1)=((i+1:Nat):Int) by omega]
 ·rintro σ H2 ⟨st,rfl,rfl⟩
  right;exact q
noncomputable def iJ(_:Fg):Sp:=fun vs H Q _=>∃(c:Nat)(a:Addr)(ss:List Nat),vs=[.int c,.ref a]/\H a=some (.lst (av ss))/\ss.sum<=c/\c<=12/\ss.length<=100/\∀H',ap H H'->Q (.int (KM.cg c ss:Nat)) H'
noncomputable def jp(K:Fg):TS:=(ar (aK (aq (gc K) [] E0 (aa (ad 0) ag)) (ao 2))
 (ar (eX (cX K (tOp nY (ad 1) (bQ (aa (tOp (rI0 fun i j=>.int (i-j)) (ad 0) (tCB (sd K) (aa (ad 1) ag))) ag)))) (ao 3) (aK (tOp (rI kX fun i j=>.int (i/j)) (ad 2) (aq (gc K) [] E0 (aa (ad 3) ag))) (ao 2)))
 (aN (ad 2))))
theorem w9(h:iJ K vs H Q E):jp K { nx:=fun _ H'=>Q .non H',rt:=Q } (start ["_law_cards","_law_sizes","_law_found","_law_many"] vs) H:=by
 obtain⟨c,a,ss,rfl,ha,hs,hc,hl,q⟩:=h;show jp K _ [some _,some _,none,none] _;unfold jp;right;refine⟨c,rfl,hc,?_⟩;right;refine Bi (ns:=ss.map fun(s:Nat)=>((s:Nat):Int)) (SqL.of (by rw[<-cT];exact ha)) ?_;right;rw[iZ,show(c:Int)-((ss.sum:Nat):Int)=((c-ss.sum:Nat):Int) by omega];refine⟨by simp[Kl],fun b H1 hb s1 e1=>nZ (s1 _ _ ha) e1 (by rw[bo,Kl];simp;omega) fun p H2 hp s2 e2=>?_⟩;rw[kL]at e2;generalize hR:ss++[c-ss.sum]=R at e2;have hRs:R.sum=c:=by rw[<-hR,L9,K0,NV];omega
 have hpf:KM.cg c ss*KM.cC R=KM.aQ c:=by rw[<-hR];exact KM.mY c ss hs
 have hdv:R.foldl (fun f s=>f/KM.aQ s) (KM.aQ c)=KM.cg c ss:=by rw[<-hpf];exact KM.IQ R _
 have s12:=s1.trans s2;refine nH (av R) (SqL.of e2) (fun i σ H3=>∃st,σ=[some (.int c),some (.ref a),some (.int (((R.take i).foldl (fun f s=>f/KM.aQ s) (KM.aQ c):Nat):Int)),st]/\H3=H2) ⟨none,rfl,rfl⟩ (fun i σ H3 _ ⟨_,_,e⟩=>by subst e;exact SqL.of e2) ?_ ?_
 ·rintro i x σ H3 hx ⟨st,rfl,rfl⟩
  obtain⟨z,hz,rfl⟩:=jT hx;have hz12:z<=12:=by
   have:=lp (Ky hz);omega
  right;refine⟨z,rfl,hz12,?_⟩;have h1:=KM.gq z;have h2:=Dp hz12;right;refine⟨some (.int z),?_,rfl⟩;rw[LJ,hz,Sb,<-SH];rfl
 ·rintro σ H3 ⟨st,rfl,rfl⟩
  right;rw[bo,Le,hdv];exact q _ s12
noncomputable def lW(K:Fg):Sp:=fun vs H Q _=>∃(a:Addr)(ns:List Int)(at_ most:Int),vs=[.ref a,.int at_,.int most]/\jS K H a ns/\0<=at_/\at_<=1000/\1<=most/\
 ∀(c:Nat)(ss:List Nat)(p q:Addr)(H':Hp),ap H H'->H p=none->H q=none->H' p=some (.tup [.int c,.ref q])->H' q=some (.lst (av ss))->pW c ss->((KM.cg c ss:Nat):Int)<=most->Q (.ref p) H'
theorem uf:∀ss:List Nat,ss.sum<=0->KM.cg 0 ss=1
 | [],_=>rfl
 |a::r,h=>by
  rw[K0]at h;have ha:a=0:=by omega
  subst ha;rw[KM.cg,KM.j8,uf r (by omega)]
theorem sg(ss:List Nat)(j m:Nat):(av ss).set j (.int (m:Int))=av (ss.set j m):=by
 unfold av;rw[List.map_set]
theorem EX{ss:List Nat}{M:Int}(h:M∈ss.map fun(s:Nat)=>((s:Nat):Int)):∃m:Nat,m∈ss/\M=(m:Int):=by
 obtain⟨m,hm,e⟩:=Lr.mp h;exact⟨m,hm,e.symm⟩
theorem EY{ss:List Nat}{j m:Nat}(h:ss[j]?=some m)(hm:0<m):(ss.set j (m-1)).sum+1=ss.sum:=by
 obtain⟨h1,h2⟩:=Kn.mp h;have e:ss.getD j 0=m:=by rw[KG,h];rfl
 have:=KM.vJ ss j h1 (by rw[e];exact hm);rw[e]at this;exact this
noncomputable def Az(K:Fg):TS:=(ar (nA (br (tOp (rI0 fun i j=>.bl (decide (j<i))) (aq (iJ K) [] E0 (aa (ad 3) (aa (ad 4) ag))) (ad 2))) (ar (bD (br (tOp (rI0 fun i j=>.bl (decide (j<i))) (tCB (vI K) (aa (ad 4) ag)) (tOp (rI0 fun i j=>.int (i-j)) (ad 3) (tCB (sd K) (aa (ad 4) ag))))) (aK (tOp (rI0 fun i j=>.int (i-j)) (tCB (vI K) (aa (ad 4) ag)) (tC (.int 1))) (pB (ad 4) (tBM K "list" yn (ad 4) (aa (tCB (vI K) (aa (ad 4) ag)) ag)) mE)) bv)
 (aK (tOp (rI0 fun i j=>.int (i-j)) (ad 3) (tC (.int 1))) (ao 3))))
 (aN (bz (aa (ad 3) (aa (ad 4) ag)))))
theorem Dq{K:Fg}{H0 H:Hp}{Q:VK}{NX:St->Hp->Prop}{x y:V}{most:Int}{c:Nat}{q:Addr}{ss:List Nat}{da:St}(s0:ap H0 H)(hq0:H0 q=none)(hq:H q=some (.lst (av ss)))(h1:1<=ss.length)(h5:ss.length<=5)(hs:ss.sum<=c)(hc:c<=12)(hm:1<=most)
  (g:∀(c:Nat)(ss:List Nat)(p q:Addr)(H':Hp),ap H0 H'->H0 p=none->H0 q=none->H' p=some (.tup [.int c,.ref q])->H' q=some (.lst (av ss))->pW c ss->((KM.cg c ss:Nat):Int)<=most->Q (.ref p) H'):
  Az K { nx:=NX,rt:=Q } (some x::some y::some (.int most)::some (.int c)::some (.ref q)::da) H:=by
 unfold Az;refine bB ?_;refine Bf (fun m σ H2=>∃(c:Nat)(ss:List Nat),σ=(some x::some y::some (.int most)::some (.int c)::some (.ref q)::da)/\ap H0 H2/\H2 q=some (.lst (av ss))/\1<=ss.length/\ss.length<=5/\ss.sum<=c/\c<=12/\m=c) c ⟨c,ss,rfl,s0,hq,h1,h5,hs,hc,rfl⟩ ?_;clear s0 hq h1 h5 hs hc;rintro m σ H2 ⟨c,ss,rfl,s0,hq,h1,h5,hs,hc,hmc⟩;have hmc':=hmc.symm;subst hmc';right;refine⟨c,q,ss,rfl,hq,hs,hc,by omega,fun H3 s3=>?_⟩;have s3':=s0.trans s3;have hq3:=s3 _ _ hq;have hS:SqL K H3 q ((ss.map fun(s:Nat)=>((s:Nat):Int)).map V.int):=by rw[<-cT];exact SqL.of hq3
 right;refine bN (fun hgt=>?_) (fun hle=>?_)
 ·have hc1:1<=c:=by
   rcases On c with z|z
   ·subst z
    rw[uf ss hs]at hgt;omega
   ·exact z
  refine Be ?_;right;have hne:(ss.map fun(s:Nat)=>((s:Nat):Int))≠[]:=by
   intro z;have:=congrArg List.length z;rw[Kk]at this;simp at this;subst this;simp at h1
  refine⟨q,_,rfl,hS,hne,fun M hM hmax=>?_⟩;obtain⟨mx,hmx,rfl⟩:=EX hM;have hle:=lp hmx;right;refine Bi hS ?_;right;rw[iZ];refine bN (fun hbig=>?_) (fun hsm=>?_)
  ·right
   refine⟨q,_,rfl,hS,hne,fun M2 hM2 hmax2=>?_⟩;obtain rfl:M2=((mx:Nat):Int):=Td (hmax M2 hM2) (hmax2 _ hM);right;refine⟨Bc hq3,?_⟩;right;refine⟨q,_,rfl,hS,hne,fun M3 hM3 hmax3=>?_⟩;obtain rfl:M3=((mx:Nat):Int):=Td (hmax M3 hM3) (hmax3 _ hM);obtain⟨j,hj,hfirst⟩:=yr hM;have hj':ss[j]?=some mx:=by
    rw[Kz]at hj;cases e:ss[j]? with
    |none=>rw[e]at hj;cases hj
    |some z=>rw[e]at hj;have hzz:((z:Nat):Int)=(mx:Int):=KA hj;rw[show z=mx by omega]
   have hjl:j<ss.length:=(Kn.mp hj').1;right;refine⟨q,_,_,j,rfl,rfl,by rw[<-cT];exact hq3,hj,hfirst,by omega,?_⟩;right;refine pP hq3 (j:=j) (by unfold ixN;rw[bo,if_pos (by omega),if_pos (by omega)];simp) ?_;right;have hss:=EY hj' (by omega);refine⟨c-1,by omega,c-1,ss.set j (mx-1),?_,s3'.upd hq0 _,?_,by rw[Mw];exact h1,by rw[Mw];exact h5,by omega,by omega,rfl⟩
   ·rw[show(c:Int)-1=((c-1:Nat):Int) by omega]
   ·rw[ay,show((mx:Nat):Int)-1=((mx-1:Nat):Int) by omega,sg]
  ·right
   refine⟨c-1,by omega,c-1,ss,?_,s3',hq3,h1,h5,?_,by omega,rfl⟩
   ·rw[show(c:Int)-1=((c-1:Nat):Int) by omega]
   ·by_cases e:ss.sum=c
    ·have z:mx=0:=by omega
     have all0:∀s∈ss,s=0:=fun s hs'=>by
      have:=hmax _ (List.mem_map_of_mem (f:=fun(s:Nat)=>((s:Nat):Int)) hs');have:(s:Int)<=(mx:Int):=this;omega
     have:ss.sum=0:=by
      clear hmax hM hq hq3 hS hne hgt hsm hmx hle h1 h5 hs e
      induction ss with
      |nil=>rfl
      |cons b r ih=>rw[K0,all0 b Ks,ih fun s hs=>all0 s (Ku _ hs)]
     omega
    ·omega
 ·right
  exact⟨by simp[Kl],fun p H4 hp s4 e4=>g c ss p q H4 (s3'.trans s4) (s3'.free hp) hq0 e4 (s4 _ _ hq3) ⟨hc,h1,h5,hs⟩ (by omega)⟩
end
section
variable{K:Fg}{vs:List V}{H:Hp}{Q:VK}{E:XK}
end
section
variable{K:Fg}{vs:List V}{H:Hp}{Q:VK}{E:XK}
end
section
variable{K:Fg}{vs:List V}{H:Hp}{Q:VK}{E:XK}
theorem lX{ss:List Nat}{j z:Nat}(h:ss[j]?=some z):atI (av ss) (j:Int)=some (.int (z:Int)):=cN (by unfold av;rw[Kz,h];rfl)
end
noncomputable def oB:V->Bool
 | .non=>true
 | .bl _=>true
 | .int _=>true
 |_=>false
inductive cP(K:Fg)(H:Hp):Nat->V->V->Prop where
 |flat {n:Nat} {x:V} (h:oB x=true):cP K H n x x
 |str {n:Nat} {x:Str} (h:x.cps.all (· < 0x110000)=true):cP K H n (.str x) (.str x)
 |lst {n:Nat} {a b:Addr} {xs ys:List V} (e1:SqL K H a xs) (e2:SqL K H b ys) (hl:xs.length=ys.length) (h:∀(i:Nat)(x y:V),xs[i]?=some x->ys[i]?=some y->cP K H n x y):cP K H (n+1) (.ref a) (.ref b)
 |tup {n:Nat} {a b:Addr} {xs ys:List V} (e1:SqT K H a xs) (e2:SqT K H b ys) (hl:xs.length=ys.length) (h:∀(i:Nat)(x y:V),xs[i]?=some x->ys[i]?=some y->cP K H n x y):cP K H (n+1) (.ref a) (.ref b)
noncomputable def lY(K:Fg)(neg:Bool):R2:=fun x y H Q=>∃n,n<=30/\cP K H n x y/\Q (.bl (!neg)) H
section
variable{K:Fg}{H:Hp}{Q:VK}
theorem GS{x y:V}(n:Nat)(hn:n<=30)(h:cP K H n x y)(q:Q (.bl true) H):lY K false x y H Q:=⟨n,hn,h,q⟩
theorem AA{x y:V}(n:Nat)(hn:n<=30)(h:cP K H n x y)(q:Q (.bl false) H):lY K true x y H Q:=⟨n,hn,h,q⟩
theorem oC{a b:Addr}{xs:List V}(e1:SqL K H a xs)(e2:SqL K H b xs)(hf:∀x∈xs,oB x=true):cP K H 1 (.ref a) (.ref b):=
 .lst e1 e2 rfl fun i x y hx hy=>by
  rw[hx]at hy;cases hy;exact .flat (hf x (Ky hx))
theorem Bw{a b:Addr}{xs:List V}(e1:SqT K H a xs)(e2:SqT K H b xs)(hf:∀x∈xs,oB x=true):cP K H 1 (.ref a) (.ref b):=
 .tup e1 e2 rfl fun i x y hx hy=>by
  rw[hx]at hy;cases hy;exact .flat (hf x (Ky hx))
theorem cP.up{n m:Nat}{x y:V}(h:cP K H n x y)(hm:n<=m):cP K H m x y:=by
 induction h generalizing m with
 |flat h=>exact .flat h
 |str h=>exact .str h
 |lst e1 e2 hl _ ih=>
  obtain⟨k,rfl⟩:∃k,m=k+1:=⟨m-1,by omega⟩;exact .lst e1 e2 hl fun i x y hx hy=>ih i x y hx hy (by omega)
 |tup e1 e2 hl _ ih=>
  obtain⟨k,rfl⟩:∃k,m=k+1:=⟨m-1,by omega⟩;exact .tup e1 e2 hl fun i x y hx hy=>ih i x y hx hy (by omega)
theorem Bx{n:Nat}{a b:Addr}{x y u v:V}(e1:SqT K H a [x,y])(e2:SqT K H b [u,v])(h1:cP K H n x u)(h2:cP K H n y v):cP K H (n+1) (.ref a) (.ref b):=
 .tup e1 e2 rfl fun i p q hp hq=>by
  match i,hp,hq with
  |0,hp,hq=>cases hp;cases hq;exact h1
  |1,hp,hq=>cases hp;cases hq;exact h2
theorem wN(ns:List Int):∀x∈ns.map V.int,oB x=true:=fun x hx=>by obtain⟨n,_,rfl⟩:=Lr.mp hx;rfl
end
section
variable{g:CF TG}{tt:CF TT}{te:CF TE}{σ₀:St}{Q:VK}{H:Hp}{K:Fg}
end
section
variable{K:Fg}{vs:List V}{H:Hp}{Q:VK}{E:XK}
noncomputable def eh(K:Fg):Sp:=fun vs H Q _=>∃(a:Addr)(xs:List V)(ks:List MK)(s:Bool),vs=[.ref a]/\H a=some (.lst xs)/\Paired (cR H) xs ks/\(∀k∈ks,mI k=s)/\ks.length<=100000/\
 ∀p H',H p=none->ap H H'->H' p=some (.lst (av (bq ks)))->Q (.ref p) H'
noncomputable def fj(K:Fg):TS:=(ar (aK yx (ao 1))
 (ar (eX (qC bP K (aa (ad 0) ag)) (ik K 2 (bx (ao 2) (bx (ao 3) ij))) (bR (tXM yy (ad 1) (aa (ad 3) (aa (ad 2) ag)))))
 (aN (cc (cX K (ad 0)) (fun _ _ _ _=>(ao 0)) (fun _ _ _ _=>bM) (fun _ _ _ _=>(tOp Bp (ad 1) (ad 0))) [none,some 1]))))
theorem pY(h:eh K vs H Q E):fj K { nx:=fun _ H'=>Q .non H',rt:=Q } (start ["marks","firsts","thing","mark"] vs) H:=by
 obtain⟨a,xs,ks,s,rfl,e,hk,hs,hl,q⟩:=h;show fj K _ [some _,none,none,none] _;unfold fj;have hlen:xs.length=ks.length:=Lv hk;right;refine GM s fun d H1 hd s1 dx1=>?_;right;refine Aw (S:=bP) xs (SqL.of (s1 _ _ e)) (fun i σ H3=>∃(u v:Option V),σ=[some (.ref a),some (.ref d),u,v]/\ap H H3/\Dx H3 d s (ir ks i) i) ?_ ?_ ?_ ?_
 ·exact⟨none,none,rfl,s1,dx1.congr zI⟩
 ·rintro i σ H3 hi ⟨u,v,rfl,s3,dx3⟩
  exact SqL.of (s3 _ _ e)
 ·rintro i x T σ H3 H4 hx ⟨u,v,rfl,s3,dx3⟩ hT s4 eT
  obtain⟨k,hki,hkv⟩:=cf hk hx;have hks:=hs k (Ky hki);have hi:i<ks.length:=(Kn.mp hki).1;refine iq (SqT.of eT) ?_;have s34:=s3.trans s4;have hkv4:=hkv.keep s34.keep;have dx4:=dx3.same s4;right;refine Kb ?_;right;refine⟨⟨d,s,_,_,rfl,dx4⟩,?_⟩;right;refine GN dx4 hkv4 hks (by rw[Kl];omega) (fun w hw=>?_) (fun hn H5 o5 dx5=>?_)
  ·have hm:k∈ks.take i:=by
    by_cases q:k∈ks.take i
    ·exact q
    ·rw[zH q]at hw;cases hw
   exact⟨_,_,rfl,s34,(dx4.congr (Bq hki hm)).le (Ng i)⟩
  ·have hm:k∉ks.take i:=fun q=>by rw[wI q]at hn;cases hn
   exact⟨_,_,rfl,s34.off hd o5,dx5.congr (Br hki hm)⟩
 ·rintro σ H3 ⟨u,v,rfl,s3,dx3⟩
  right;refine fU xs (SqL.of (s3 _ _ e)) (by omega) (fun i acc _=>acc=av ((bq ks).take i)) (fun H' _=>rfl) ?_ ?_
  ·rintro p hp C s' H' fp i x acc H4 hx ⟨s4,e4,l4,rfl⟩
   obtain⟨k,hki,hkv⟩:=cf hk hx;have hks:=hs k (Ky hki);have hi:i<ks.length:=(Kn.mp hki).1;right;refine IP (dx3.same s4) (hkv.keep (s3.trans s4).keep) hks (wI (by rw[hlen,Le];exact Ky hki)) ?_;refine bJ.put hp (fun _ _ _ _ r _=>r) s4 e4 l4 ?_;rw[yz hki,kL]
  ·rintro p acc H4 hp s4 e4 rfl
   refine q _ _ (s3.free hp) (s3.trans s4) ?_;rw[e4,OL (by rw[dC,hlen];exact Km _)]
noncomputable def oE(w:List Nat)(h:Int):List Int:=pX (w.map fun(s:Nat)=>((s:Nat):Int)) h w.length
noncomputable def yH(ns:List Int):MK:=.inr (ns.map fun n=>(MM (some n):IK))
theorem EZ(a b:List Int)(e:yH a=yH b):a=b:=by
 have h:a.map (fun n=>(MM (some n):IK))=b.map (fun n=>(MM (some n):IK)):=N7 e;clear e
 induction a generalizing b with
 |nil=>cases b with
  |nil=>rfl
  |cons _ _=>simp at h
 |cons x r ih=>cases b with
  |nil=>simp at h
  |cons y t=>
   rw[KL,KL]at h;injection h with h1 h2
   injection h1 with h1
   injection h1 with h1
   rw[h1,ih t h2]
noncomputable def lZ(ws:List (List Nat))(h:Int):List Nat:=bq (ws.map fun w=>oE w h)
theorem zO(ws:List (List Nat))(h:Int):bq (ws.map fun w=>yH (oE w h))=lZ ws h:=by
 unfold lZ;rw[<-rG (f:=yH) EZ,MW];rfl
theorem bH.to'{H H':Hp}{p:Addr}{ws:List (List Nat)}(d:bH H p ws)(k:dF H H')(e:∀rs:List Addr,H p=some (.lst (rs.map V.ref))->H' p=some (.lst (rs.map V.ref))):bH H' p ws:=by
 obtain⟨rs,h1,h2⟩:=d;exact⟨rs,e rs h1,ka h2 fun a xs e=>k _ _ e⟩
theorem bH.same'{H H':Hp}{p:Addr}{ws:List (List Nat)}(d:bH H p ws)(s:ap H H'):bH H' p ws:=d.to' s.keep fun rs e=>s _ _ e
theorem nJ{rs:List Addr}{i:Nat}{x:V}(hx:(rs.map V.ref)[i]?=some x):∃a,rs[i]?=some a/\x=.ref a:=by
 rw[Kz]at hx;cases e:rs[i]? with
 |none=>rw[e]at hx;cases hx
 |some z=>rw[e]at hx;exact⟨z,rfl,(KA hx).symm⟩
noncomputable def lf(K:Fg):Sp:=fun vs H Q _=>∃(a:Addr)(ws:List (List Nat))(h:Int),vs=[.ref a,.int h]/\bH H a ws/\(∀w∈ws,w.length<=1000)/\ws.length<=100000/\
 ∀p H',H p=none->ap H H'->H' p=some (.lst (av (lZ ws h)))->Q (.ref p) H'
theorem Dr{H:Hp}{xs:List V}{ks:List MK}{x:V}{k:MK}(h:Paired (cR H) xs ks)(q:cR H x k):Paired (cR H) (xs++[x]) (ks++[k]):=by
 induction h with
 |nil=>exact .cons q .nil
 |cons r _ ih=>exact .cons r ih
noncomputable def jq(K:Fg):TS:=(aN (aq (eh K) [] E0 (aa (cc (cX K (ad 0)) (fun _ _ _ _=>(ao 0)) (fun _ _ _ _=>bM) (fun _ _ _ _=>(aq (iz K) [] E0 (aa (ad 0) (aa (ad 1) ag)))) [none,some 1]) ag)))
theorem xa(h:lf K vs H Q E):jq K { nx:=fun _ H'=>Q .non H',rt:=Q } (start ["deals","hand"] vs) H:=by
 obtain⟨a,ws,h,rfl,hD,hw,hl,q⟩:=h;show jq K _ [some _,some _] _;unfold jq;obtain⟨rs,e,hr⟩:=id hD;have hlr:rs.length=ws.length:=Lv hr;right;refine fU (rs.map V.ref) (SqL.of e) (by rw[Kk];omega) (fun i acc H'=>Paired (cR H') acc ((ws.take i).map fun w=>yH (oE w h))) (fun H' _=>.nil) ?_ ?_
 ·rintro p hp C s' H' fp i x acc H2 hx ⟨s2,e2,l2,r2⟩
  obtain⟨b,hb,rfl⟩:=nJ hx;obtain⟨w,hwi,ew⟩:=cf hr hb;right;refine⟨b,w.map fun(s:Nat)=>((s:Nat):Int),h,rfl,by rw[<-cT];exact SqT.of (s2 _ _ ew),by rw[Kk];exact hw w (Ky hwi),fun r H3 s3 e3=>?_⟩;rw[Kk]at e3;refine bJ.put hp (fun _ _ _ _ r k=>wF r k) (s2.trans s3) (s3 _ _ e2) l2 ?_;rw[cI hwi,KU];exact Dr (wF r2 s3.keep) (GK (ns:=oE w h) e3)
 ·rintro p acc H2 hp s2 e2 r2
  rw[Kk,hlr,Le]at r2;right;refine⟨p,acc,_,true,rfl,e2,r2,?_,by rw[Kk];omega,fun p3 H3 hp3 s3 e3=>?_⟩
  ·intro k hk
   obtain⟨w,_,rfl⟩:=Lr.mp hk;rfl
  ·rw[zO]at e3
   exact q _ _ (s2.free hp3) (s2.trans s3) e3
end
noncomputable def Gb:List V->Hp->VK->Prop:=fun xs H Q=>∃n:Nat,xs=[.int (n:Int)]/\n<=1000000/\New H (.rng 0 (n:Int)) fun p H2=>Q (.ref p) H2
noncomputable def xL:List V->Hp->VK->Prop:=fun xs H Q=>∃(p:Addr)(n:Nat),xs=[.ref p]/\H p=some (.rng 0 (n:Int))/\n<=1000000/\New H (.lst ((KS n).map fun(i:Nat)=>V.int ((i:Nat):Int))) fun p H2=>Q (.ref p) H2
noncomputable def By(ta:TA):TE:=tCB xL (aa (tCB Gb ta) ag)
theorem Gc{H:Hp}{Q:VK}{n:Nat}(hn:n<=1000000)(h:New H (.lst ((KS n).map fun(i:Nat)=>V.int ((i:Nat):Int))) fun p H2=>Q (.ref p) H2):New H (.rng 0 (n:Int)) fun p H2=>xL [.ref p] H2 Q:=
 fun p H' _ s e=>⟨p,n,rfl,e,hn,fun l H2 hl s2 e2=>h l H2 (s.free hl) (s.trans s2) e2⟩
noncomputable def qI(H:Hp)(ts:List Addr)(ps:List (V×V)):Prop:=Paired (fun(t:Addr)(p:V×V)=>H t=some (.tup [p.1,p.2])) ts ps
noncomputable def Bz(S1 S2:Src)(K:Fg)(ta:TA):TE:=fun σ H Q=>ta σ H fun vs H1=>∃a b xs ys,vs=[.ref a,.ref b]/\S1.Sq K H1 a xs/\S2.Sq K H1 b ys/\xs.length<=1000000/\
 ∀p H',H1 p=none->ap H1 H'->(∃ts:List Addr,H' p=some (.lst (ts.map V.ref))/\qI H' ts (xs.zip ys))->Q (.ref p) H'
section
variable{σ:St}{H:Hp}{Q:VK}{K:Fg}
theorem Dt{ta:TA}(h:ta σ H fun vs H1=>∃n:Nat,vs=[.int (n:Int)]/\n<=1000000/\New H1 (.rng 0 (n:Int)) fun p H2=>xL [.ref p] H2 Q):By ta σ H Q:=h
theorem IU{S1 S2:Src}{ta:TA} (h:ta σ H fun vs H1=>∃a b xs ys,vs=[.ref a,.ref b]/\S1.Sq K H1 a xs/\S2.Sq K H1 b ys/\xs.length<=1000000/\
 ∀p H',H1 p=none->ap H1 H'->(∃ts:List Addr,H' p=some (.lst (ts.map V.ref))/\qI H' ts (xs.zip ys))->Q (.ref p) H'):Bz S1 S2 K ta σ H Q:=h
end
end L2
section
namespace KF
noncomputable def ek(ps:List Nat):Prop:=∀x y:Nat,ps[x]?=some y->y<=x
inductive bw(ps:List Nat):Nat->Nat->Prop where
 |stop {x:Nat} (h:ps[x]?=some x):bw ps x x
 |step {x y r:Nat} (h:ps[x]?=some y) (hl:y<x) (t:bw ps y r):bw ps x r
theorem bw.inj{ps:List Nat}{x r r':Nat}(a:bw ps x r)(b:bw ps x r'):r=r':=by
 induction a with
 |stop h=>cases b with
  |stop _=>rfl
  |step h' hl _=>rw[h]at h';cases h';omega
 |step h hl _ ih=>cases b with
  |stop h'=>rw[h]at h';cases h';omega
  |step h' _ t=>rw[h]at h';cases h';exact ih t
theorem ek.root{ps:List Nat}(f:ek ps):∀x,x<ps.length->∃r,bw ps x r:=by
 intro x
 induction x using Nat.strongRecOn with
 |ind x ih=>
  intro hx;have e:=Kj hx;have hy:=f x _ e;rcases Oq hy with h|h
  ·obtain⟨r,hr⟩:=ih _ h (by omega)
   exact⟨r,.step e h hr⟩
  ·rw[h]at e
   exact⟨x,.stop e⟩
theorem bw.le{ps:List Nat}{x r:Nat}(a:bw ps x r):r<=x:=by
 induction a with
 |stop _=>exact Km _
 |step _ hl _ ih=>omega
theorem bw.self{ps:List Nat}{x r:Nat}(a:bw ps x r):ps[r]?=some r:=by
 induction a with
 |stop h=>exact h
 |step _ _ _ ih=>exact ih
theorem bw.lt{ps:List Nat}{x r:Nat}(a:bw ps x r):x<ps.length:=by
 cases a with
 |stop h=>exact(Kn.mp h).1
 |step h _ _=>exact(Kn.mp h).1
theorem ek.range(n:Nat):ek (KS n):=fun x y h=>by
 obtain⟨h1,h2⟩:=Kn.mp h;rw[PC]at h2;omega
theorem bw.range{n x:Nat}(h:x<n):bw (KS n) x x:=.stop (by rw[Mg h])
theorem IV{ps:List Nat}{e g y z:Nat}(h:(ps.set e g)[y]?=some z):(y=e/\z=g)\/(y≠e/\ps[y]?=some z):=by
 rw[NP]at h;by_cases q:e=y
 ·rw[if_pos q]at h
  split at h
  ·cases h;exact .inl ⟨q.symm,rfl⟩
  ·cases h
 ·rw[if_neg q]at h
  exact .inr ⟨fun z=>q z.symm,h⟩
theorem nK{ps:List Nat}{e g y:Nat}(h:y≠e):(ps.set e g)[y]?=ps[y]?:=by
 rw[NP,if_neg (fun z=>h z.symm)]
theorem kM{ps:List Nat}{e g:Nat}(h:e<ps.length):(ps.set e g)[e]?=some g:=by
 rw[NP,if_pos rfl,if_pos h]
theorem ek.set{ps:List Nat}(f:ek ps){e g:Nat}(h:g<=e):ek (ps.set e g):=fun x y q=>by
 rcases IV q with⟨rfl,rfl⟩|⟨_,q⟩
 ·exact h
 ·exact f x y q
theorem bw.halve{ps:List Nat}(f:ek ps){e p g:Nat}(h1:ps[e]?=some p)(h2:ps[p]?=some g){y r:Nat}(a:bw ps y r):bw (ps.set e g) y r:=by
 have he:e<ps.length:=(Kn.mp h1).1
 induction a with
 | @stop x h=>
  by_cases q:x=e
  ·subst q
   rw[h]at h1;cases h1;rw[h]at h2;cases h2;exact .stop (kM he)
  ·exact .stop (by rw[nK q];exact h)
 | @step x y r h hl t ih=>
  by_cases q:x=e
  ·subst q
   rw[h]at h1;cases h1;have e1:(ps.set x g)[p]?=some g:=by rw[nK (by omega)];exact h2
   cases ih with
   |stop h'=>
    rw[e1]at h';cases h';exact .step (kM he) hl (.stop e1)
   |step h' hl' t'=>
    rw[e1]at h';cases h';exact .step (kM he) (by omega) t'
  ·exact .step (by rw[nK q];exact h) hl ih
theorem bw.link{ps:List Nat}{M m:Nat}(hM:ps[M]?=some M)(hm:ps[m]?=some m)(hle:m<=M){y r:Nat}(a:bw ps y r):bw (ps.set M m) y (if r=M then m else r):=by
 have hMl:M<ps.length:=(Kn.mp hM).1
 induction a with
 | @stop x h=>
  by_cases q:x=M
  ·subst q
   rw[if_pos rfl];rcases Oq hle with l|l
   ·exact .step (kM hMl) l (.stop (by rw[nK (by omega)];exact hm))
   ·subst l
    exact .stop (kM hMl)
  ·rw[if_neg q]
   exact .stop (by rw[nK q];exact h)
 | @step x y r h hl t ih=>
  have q:x≠M:=by
   intro q;subst q;rw[h]at hM;cases hM;omega
  exact .step (by rw[nK q];exact h) hl ih
inductive dI(P:Nat->Nat->Prop):Nat->Nat->Prop where
 |refl (x:Nat):dI P x x
 |one {x y:Nat} (h:P x y):dI P x y
 |symm {x y:Nat} (h:dI P x y):dI P y x
 |trans {x y z:Nat} (h:dI P x y) (t:dI P y z):dI P x z
theorem dI.mono{P P':Nat->Nat->Prop}(h:∀x y,P x y->P' x y){x y:Nat}(c:dI P x y):dI P' x y:=by
 induction c with
 |refl x=>exact .refl x
 |one q=>exact .one (h _ _ q)
 |symm _ ih=>exact .symm ih
 |trans _ _ a b=>exact .trans a b
theorem dI.keeps{P:Nat->Nat->Prop}{α:Type}{f:Nat->α}(h:∀x y,P x y->f x=f y){x y:Nat}(c:dI P x y):f x=f y:=by
 induction c with
 |refl x=>rfl
 |one q=>exact h _ _ q
 |symm _ ih=>exact ih.symm
 |trans _ _ a b=>exact a.trans b
noncomputable def lv(n:Nat)(vs:List (List Nat))(x y:Nat):Prop:=∃v∈vs,x<n/\v[x]?=some y
structure pZ(n:Nat)(P:Nat->Nat->Prop)(r:List Nat):Prop where
 len:r.length=n
 le:∀i x:Nat,r[i]?=some x->x<=i
 conn:∀i x:Nat,r[i]?=some x->dI P i x
 same:∀i j:Nat,i<n->j<n->dI P i j->r[i]?=r[j]?
structure cU(n:Nat)(P:Nat->Nat->Prop)(ps:List Nat):Prop where
 len:ps.length=n
 forest:ek ps
 conn:∀x r,bw ps x r->dI P x r
 same:∀x y,P x y->∃r,bw ps x r/\bw ps y r
theorem cU.join{n:Nat}{P:Nat->Nat->Prop}{ps r:List Nat}(t:cU n P ps)(hl:r.length=n)(hr:∀i x:Nat,r[i]?=some x->bw ps i x):pZ n P r where
 len:=hl
 le:=fun i x h=>(hr i x h).le
 conn:=fun i x h=>t.conn _ _ (hr i x h)
 same:=by
  have key:∀i j,dI P i j->∀x,(bw ps i x↔bw ps j x):=by
   intro i j c
   induction c with
   |refl x=>intro x;exact Iff.rfl
   |one q=>
    intro x;obtain⟨r,h1,h2⟩:=t.same _ _ q;exact⟨fun a=>by rw[a.inj h1];exact h2,fun a=>by rw[a.inj h2];exact h1⟩
   |symm _ ih=>intro x;exact(ih x).symm
   |trans _ _ a b=>intro x;exact(a x).trans (b x)
  intro i j hi hj c;have e1:=Kj (l:=r) (i:=i) (by rw[hl];exact hi);have e2:=Kj (l:=r) (i:=j) (by rw[hl];exact hj);have q1:=(key i j c _).mp (hr _ _ e1);rw[e1,e2,q1.inj (hr _ _ e2)]
theorem cU.start(n:Nat):cU n (fun _ _=>False) (KS n) where
 len:=L6
 forest:=ek.range n
 conn:=fun x r h=>by
  have hx:x<n:=by have:=h.lt;rw[L6]at this;exact this
  rw[h.inj (bw.range hx)];exact .refl x
 same:=fun _ _ h=>h.elim
theorem cU.moved{n:Nat}{P:Nat->Nat->Prop}{ps ps':List Nat}(t:cU n P ps)(f:ek ps')(hl:ps'.length=n)(h:∀y r,bw ps y r->bw ps' y r):cU n P ps' where
 len:=hl
 forest:=f
 conn:=fun x r a=>by
  obtain⟨r',b⟩:=t.forest.root x (by rw[t.len,<-hl];exact a.lt);rw[a.inj (h _ _ b)];exact t.conn _ _ b
 same:=fun x y q=>by
  obtain⟨r,h1,h2⟩:=t.same x y q;exact⟨r,h _ _ h1,h _ _ h2⟩
theorem cU.link{n:Nat}{P P':Nat->Nat->Prop}{ps:List Nat}{a b ra rb M m:Nat}(t:cU n P ps)(ha:bw ps a ra)(hb:bw ps b rb)(hM:(M=ra/\m=rb)\/(M=rb/\m=ra))(hle:m<=M)
  (h1:∀x y,P x y->P' x y) (h2:∀x y,P' x y->P x y\/(x=a/\y=b)) (h3:P' a b):cU n P' (ps.set M m):=by
 have sM:ps[M]?=some M:=by
  rcases hM with⟨rfl,_⟩|⟨rfl,_⟩
  ·exact ha.self
  ·exact hb.self
 have sm:ps[m]?=some m:=by
  rcases hM with⟨_,rfl⟩|⟨_,rfl⟩
  ·exact hb.self
  ·exact ha.self
 have cMm:dI P' M m:=by
  have c1:dI P' a ra:=(t.conn _ _ ha).mono h1;have c2:dI P' b rb:=(t.conn _ _ hb).mono h1;rcases hM with⟨rfl,rfl⟩|⟨rfl,rfl⟩
  ·exact .trans (.symm c1) (.trans (.one h3) c2)
  ·exact .trans (.symm c2) (.trans (.symm (.one h3)) c1)
 have rt:∀{y r:Nat},bw ps y r->bw (ps.set M m) y (if r=M then m else r):=fun q=>bw.link sM sm hle q;refine⟨by rw[Mw];exact t.len,t.forest.set hle,fun x r q=>?_,fun x y q=>?_⟩
 ·obtain⟨r',h⟩:=t.forest.root x (by have:=q.lt;rw[Mw]at this;exact this)
  rw[q.inj (rt h)];have c:dI P' x r':=(t.conn _ _ h).mono h1
  split
  ·rename_i e
   rw[e]at c;exact .trans c cMm
  ·exact c
 ·rcases h2 x y q with q|⟨rfl,rfl⟩
  ·obtain⟨r,q1,q2⟩:=t.same x y q
   exact⟨_,rt q1,rt q2⟩
  ·refine⟨m,?_,?_⟩
   ·have:=rt ha
    rcases hM with⟨e1,e2⟩|⟨e1,e2⟩
    ·rw[if_pos e1.symm]at this;exact this
    ·by_cases z:ra=M
     ·rw[if_pos z]at this;exact this
     ·rw[if_neg z,<-e2]at this;exact this
   ·have:=rt hb
    rcases hM with⟨e1,e2⟩|⟨e1,e2⟩
    ·by_cases z:rb=M
     ·rw[if_pos z]at this;exact this
     ·rw[if_neg z,<-e2]at this;exact this
    ·rw[if_pos e1.symm]at this;exact this
end KF
end
namespace L2
open PySem PyProof.Rows
section
variable{K:Fg}{vs:List V}{H:Hp}{Q:VK}{E:XK}
open KF
section
variable{g:CF TG}{tt:CF TT}{te:CF TE}{σ₀:St}{Q:VK}{H:Hp}{K:Fg}
theorem Du{j:Int}(n:Nat)(hn:j.toNat=n)(hj:j<=1000000)(hj0:-1000000<=j)(R:Addr->Nat->List V->Hp->Prop)(h0:∀p H',H p=none->ap H H'->H' p=some (.lst [])->R p 0 [] H')
  (hp:∀p i acc H',R p i acc H'->H' p=some (.lst acc)/\acc.length<=i)
  (hs:∀p,H p=none->∀C s' H' fp,∀i acc H2,i<n->R p i acc H2->g C s' H' fp (.int i) σ₀ H2 fun σ2 H3=>tt C s' H' fp σ2 H3 fun b H4=>if b=true then te C s' H' fp σ2 H4 fun y H5=>H5 p=some (.lst acc)/\R p (i+1) (acc++[y]) (upd H5 p (.lst (acc++[y])))else R p (i+1) acc H4)
  (hd:∀p acc H2,H p=none->R p n acc H2->Q (.ref p) H2):
  ∃j':Int,[V.int j]=[.int j']/\-(2^62)<=j'/\j'<2^62/\∀p,H p=none->∃W:Nat->Nat->List V->Hp->Prop,(∃m,W 0 m [] (upd H p (.lst [])))/\∀C s' H' fp,cB (Itr 0 j'.toNat) (g C s' H' fp) (tt C s' H' fp) (te C s' H' fp) σ₀ p Q W:=by
 refine⟨j,rfl,by omega,by omega,fun p hpn=>?_⟩;subst hn;exact tK (lo:=0) (R p) (h0 p _ hpn (bi hpn _) ay) (fun i acc H2 _ c=>hp p i acc H2 c) (by rw[Kl];omega) (fun C s' H' fp i acc H2 hi c=>by rw[RP];exact hs p hpn C s' H' fp i acc H2 hi c) fun acc H2 c=>hd p acc H2 hpn c
end
theorem vM{n j:Nat}(h:j<n):ixN n (j:Int)=some j:=by unfold ixN;rw[if_pos (by omega),if_pos (by omega)];simp
theorem ug(n:Nat):(KS n).map (fun(i:Nat)=>V.int ((i:Nat):Int))=av (KS n):=rfl
noncomputable def kN(_:Fg):Sp:=fun vs H Q _=>∃(p:Addr)(ps:List Nat)(x r:Nat),vs=[.ref p,.int (x:Int)]/\H p=some (.lst (av ps))/\ek ps/\bw ps x r/\
 ∀H' ps',Off p H H'->H' p=some (.lst (av ps'))->ps'.length=ps.length->ek ps'->(∀y s,bw ps y s->bw ps' y s)->Q (.int (r:Int)) H'
noncomputable def oF(K:Fg):TS:=(ar (aK (ad 1) (ao 2))
 (ar (nA (br (tOp rNe (tOp (cz K) (ad 0) (ad 2)) (ad 2))) (ar (aK (tOp (cz K) (ad 0) (tOp (cz K) (ad 0) (ad 2))) (pB (ad 0) (ad 2) mE))
 (aK (tOp (cz K) (ad 0) (ad 2)) (ao 2))))
 (aN (ad 2))))
theorem E1{p:Addr}{H:Hp}:Off p H H:=fun _ _=>rfl
theorem p0{p:Addr}{H H1 H2:Hp}(a:Off p H H1)(b:Off p H1 H2):Off p H H2:=fun c hc=>(b c hc).trans (a c hc)
theorem Dv(h:kN K vs H Q E):oF K { nx:=fun _ H'=>Q .non H',rt:=Q } (start ["points","thing","end"] vs) H:=by
 obtain⟨p,ps,x,r,rfl,e,hf,hr,q⟩:=h;show oF K _ [some _,some _,none] _;unfold oF;right;refine Bf (fun m σ H1=>∃(ps':List Nat),σ=[some (.ref p),some (.int (x:Int)),some (.int (m:Int))]/\Off p H H1/\H1 p=some (.lst (av ps'))/\ps'.length=ps.length/\ek ps'/\(∀y s,bw ps y s->bw ps' y s)/\bw ps' m r) x ⟨ps,rfl,E1,e,rfl,hf,fun _ _ h=>h,hr⟩ ?_;rintro m σ H1 ⟨ps',rfl,o1,e1,hl,hf1,hk,hr1⟩;have hm:=hr1.lt;obtain⟨y,hy⟩:∃y,ps'[m]?=some y:=⟨_,Kj hm⟩;right;refine bW (SqL.of e1) (lX hy) ?_;right;refine yp (fun c=>?_) (fun c=>?_)
 ·have hym:y<m:=by have:=hf1 m y hy;omega
  obtain⟨g,hg⟩:∃g,ps'[y]?=some g:=⟨_,Kj (by omega)⟩;have hgy:=hf1 y g hg;refine Be ?_;right;refine bW (SqL.of e1) (lX hy) ?_;right;refine bW (SqL.of e1) (lX hg) ?_;right;refine pP e1 (vM (by rw[bo];exact hm)) ?_;rw[sg];right;refine bW (SqL.of ay) (lX (z:=g) (kM hm)) ?_;right;refine⟨g,by omega,ps'.set m g,rfl,p0 o1 jf,ay,by rw[Mw];exact hl,hf1.set (by omega),fun a s h=>bw.halve hf1 hy hg (hk a s h),?_⟩;have:=bw.halve hf1 hy hg hr1;cases this with
  |stop h=>
   rw[kM hm]at h;cases h;omega
  |step h _ t=>
   rw[kM hm]at h;cases h;exact t
 ·have:y=m:=by omega
  subst this;right;have er:y=r:=(bw.stop hy).inj hr1;rw[er];exact q H1 ps' o1 e1 hl hf1 hk
noncomputable def vN(_:Fg):Sp:=fun vs H Q _=>∃(p:Addr)(ps:List Nat)(n:Nat)(P P':Nat->Nat->Prop)(a b:Nat),vs=[.ref p,.int (a:Int),.int (b:Int)]/\H p=some (.lst (av ps))/\cU n P ps/\a<n/\b<n/\
 (∀x y,P x y->P' x y)/\(∀x y,P' x y->P x y\/(x=a/\y=b))/\P' a b/\∀H' ps',Off p H H'->H' p=some (.lst (av ps'))->cU n P' ps'->Q .non H'
noncomputable def uh(K:Fg):TS:=(ar (aK (aq (kN K) [] E0 (aa (ad 0) (aa (ad 1) ag))) (ao 3))
 (ar (aK (aq (kN K) [] E0 (aa (ad 0) (aa (ad 2) ag))) (ao 4))
 (aK (tCB Bh (aa (ad 3) (aa (ad 4) ag))) (pB (ad 0) (tCB F3 (aa (ad 3) (aa (ad 4) ag))) mE))))
theorem GT(h:vN K vs H Q E):uh K { nx:=fun _ H'=>Q .non H',rt:=Q } (start ["points","one","other","first","second"] vs) H:=by
 obtain⟨p,ps,n,P,P',a,b,rfl,e,ht,ha,hb,h1,h2,h3,q⟩:=h;show uh K _ [some _,some _,some _,none,none] _;unfold uh;obtain⟨ra,hra⟩:=ht.forest.root a (by rw[ht.len];exact ha);right;refine⟨p,ps,a,ra,rfl,e,ht.forest,hra,fun H1 ps1 o1 e1 l1 f1 k1=>?_⟩;have ht1:=ht.moved f1 (by rw[l1];exact ht.len) k1;obtain⟨rb,hrb⟩:=ht1.forest.root b (by rw[ht1.len];exact hb);right;refine⟨p,ps1,b,rb,rfl,e1,f1,hrb,fun H2 ps2 o2 e2 l2 f2 k2=>?_⟩;have ht2:=ht1.moved f2 (by rw[l2];exact ht1.len) k2;have hra2:=k2 _ _ (k1 _ _ hra);have hrb2:=k2 _ _ hrb;right;have la:=hra2.le;have lb:=hrb2.le;obtain⟨M,m,hM,hm,hd,hle⟩:∃M m:Nat,(if(rb:Int)>(ra:Int)then(rb:Int)else(ra:Int))=(M:Int)/\(if(rb:Int)<(ra:Int)then(rb:Int)else(ra:Int))=(m:Int)/\((M=ra/\m=rb)\/(M=rb/\m=ra))/\m<=M:=by
  by_cases c:rb<ra
  ·exact⟨ra,rb,by rw[if_neg (by omega)],by rw[if_pos (by omega)],.inl ⟨rfl,rfl⟩,by omega⟩
  ·by_cases d:ra<rb
   ·exact⟨rb,ra,by rw[if_pos (by omega)],by rw[if_neg (by omega)],.inr ⟨rfl,rfl⟩,by omega⟩
   ·exact⟨ra,ra,by rw[if_neg (by omega)],by rw[if_neg (by omega)],.inr ⟨by omega,rfl⟩,Km _⟩
 rw[hm,hM];have hMl:M<ps2.length:=by
  rw[ht2.len];rcases hd with⟨rfl,_⟩|⟨rfl,_⟩<;>omega
 refine pP e2 (vM (by rw[bo];exact hMl)) ?_;rw[sg];exact q _ _ (p0 (p0 o1 o2) jf) ay (ht2.link hra2 hrb2 hd hle h1 h2 h3)
noncomputable def fV(H:Hp)(a:Addr)(vs:List (List Nat)):Prop:=∃rs:List Addr,H a=some (.lst (rs.map V.ref))/\Paired (fun(r:Addr)(v:List Nat)=>H r=some (.lst (av v))) rs vs
theorem fV.same{H H':Hp}{a:Addr}{vs:List (List Nat)}(h:fV H a vs)(s:ap H H'):fV H' a vs:=by
 obtain⟨rs,e,r⟩:=h;exact⟨rs,s _ _ e,Paired.mapP r fun _ _ q=>s _ _ q⟩
noncomputable def Within(n:Nat)(v:List Nat):Prop:=v.length=n/\∀x∈v,x<n
theorem nL{rs:List Addr}{i:Nat}{x:V}(hx:(rs.map V.ref)[i]?=some x):∃a,rs[i]?=some a/\x=.ref a:=by
 rw[Kz]at hx;cases e:rs[i]? with
 |none=>rw[e]at hx;cases hx
 |some z=>rw[e]at hx;exact⟨z,rfl,(KA hx).symm⟩
noncomputable def p6(_:Fg):Sp:=fun vs H Q _=>∃(n:Nat)(a:Addr)(ws:List (List Nat)),vs=[.int (n:Int),.ref a]/\fV H a ws/\(∀v∈ws,Within n v)/\n<=100000/\
 ∀r p H',pZ n (lv n ws) r->H p=none->ap H H'->H' p=some (.lst (av r))->Q (.ref p) H'
noncomputable def oG(K:Fg):TS:=(ar (aK (By (aa (ad 0) ag)) (ao 2))
 (ar (eX (cX K (ad 1)) (ao 3) (eX (qC bP K (aa (ad 3) ag)) (ik K 2 (bx (ao 4) (bx (ao 5) ij))) (bR (aq (vN K) [] E0 (aa (ad 2) (aa (ad 4) (aa (ad 5) ag)))))))
 (aN (cc (iI (aa (ad 0) ag)) (fun _ _ _ _=>(ao 0)) (fun _ _ _ _=>bM) (fun _ _ _ _=>(aq (kN K) [] E0 (aa (ad 1) (aa (ad 0) ag)))) [none,some 2]))))
theorem BA{n:Nat}{ws:List (List Nat)}{i:Nat}{v:List Nat}(hv:ws[i]?=some v){x y:Nat}:lv n (ws.take (i+1)) x y↔lv n (ws.take i) x y\/(x<n/\v[x]?=some y):=by
 unfold lv;rw[cI hv];constructor
 ·rintro⟨w,hw,h1,h2⟩
  rcases Lf.mp hw with hw|hw
  ·exact .inl ⟨w,hw,h1,h2⟩
  ·rw[Kr.mp hw]at h2;exact .inr ⟨h1,h2⟩
 ·rintro(⟨w,hw,h1,h2⟩|⟨h1,h2⟩)
  ·exact⟨w,Ll _ hw,h1,h2⟩
  ·exact⟨v,K5 _ (Kr.mpr rfl),h1,h2⟩
theorem _root_.KF.cU.congr{n:Nat}{P P':Nat->Nat->Prop}{ps:List Nat}(t:cU n P ps)(h:∀x y,P x y↔P' x y):cU n P' ps:=by
 have e:P=P':=by funext x y;exact propext (h x y)
 rw[<-e];exact t
theorem Dw(h:p6 K vs H Q E):oG K { nx:=fun _ H'=>Q .non H',rt:=Q } (start ["many","views","points","view","thing","least"] vs) H:=by
 obtain⟨n,a,ws,rfl,hV,hw,hn,q⟩:=h;show oG K _ [some _,some _,none,none,none,none] _;unfold oG;obtain⟨rs,ea,hr⟩:=id hV;have hlr:rs.length=ws.length:=Lv hr;right;refine Dt ?_;right;refine⟨n,rfl,by omega,Gc (by omega) fun p H1 hp s1 e1=>?_⟩;rw[ug]at e1;right;refine nH (rs.map V.ref) (SqL.of (s1 _ _ ea)) (fun i σ H2=>∃(u1 u2 u3:Option V)(ps:List Nat),σ=[some (.int (n:Int)),some (.ref a),some (.ref p),u1,u2,u3]/\ap H H2/\H2 p=some (.lst (av ps))/\cU n (lv n (ws.take i)) ps) ?_ ?_ ?_ ?_
 ·refine⟨_,_,_,_,rfl,s1,e1,(cU.start n).congr fun x y=>⟨fun h=>h.elim,fun⟨w,hw,_⟩=>by simp at hw⟩⟩
 ·rintro i σ H2 hi ⟨u1,u2,u3,ps,rfl,s2,e2,t2⟩
  exact SqL.of (s2 _ _ ea)
 ·rintro i x σ H2 hx ⟨u1,u2,u3,ps,rfl,s2,e2,t2⟩
  obtain⟨b,hb,rfl⟩:=nL hx;obtain⟨v,hv,ev⟩:=cf hr hb;obtain⟨hvl,hvx⟩:=hw v (Ky hv);right;refine Aw (S:=bP) (av v) (SqL.of (s2 _ _ ev)) (fun j σ H3=>∃(u2 u3:Option V)(ps:List Nat),σ=[some (.int (n:Int)),some (.ref a),some (.ref p),some (.ref b),u2,u3]/\ap H H3/\H3 p=some (.lst (av ps))/\cU n (fun x y=>lv n (ws.take i) x y\/(x<j/\v[x]?=some y)) ps) ?_ ?_ ?_ ?_
  ·exact⟨_,_,ps,rfl,s2,e2,t2.congr fun x y=>⟨.inl,fun h=>h.elim (fun h=>h) fun h=>absurd h.1 (by omega)⟩⟩
  ·rintro j σ H3 hj ⟨u2,u3,ps,rfl,s3,e3,t3⟩
   exact SqL.of (s3 _ _ ev)
  ·rintro j x T σ H3 H4 hx ⟨u2,u3,ps,rfl,s3,e3,t3⟩ hT s4 eT
   obtain⟨z,hz,rfl⟩:=jT hx;have hjl:j<v.length:=(Kn.mp hz).1;refine iq (SqT.of eT) ?_;right;refine⟨p,ps,n,_,(fun x y=>lv n (ws.take i) x y\/(x<j+1/\v[x]?=some y)),j,z,rfl,s4 _ _ e3,t3,by omega,hvx z (Ky hz),?_,?_,.inr ⟨by omega,hz⟩,fun H5 ps5 o5 e5 t5=>?_⟩
   ·rintro x y (h|h)
    ·exact .inl h
    ·exact .inr ⟨by omega,h.2⟩
   ·rintro x y (h|⟨h1,h2⟩)
    ·exact .inl (.inl h)
    ·by_cases c:x=j
     ·subst c
      rw[hz]at h2;cases h2;exact .inr ⟨rfl,rfl⟩
     ·exact .inl (.inr ⟨by omega,h2⟩)
   ·exact⟨_,_,ps5,rfl,(s3.trans s4).off hp o5,e5,t5⟩
  ·rintro σ H3 ⟨u2,u3,ps,rfl,s3,e3,t3⟩
   rw[bo]at t3;exact⟨_,_,_,ps,rfl,s3,e3,t3.congr fun x y=>by rw[BA hv,hvl]⟩
 ·rintro σ H2 ⟨u1,u2,u3,ps,rfl,s2,e2,t2⟩
  rw[Kk,hlr,Le]at t2;right;refine Du n (by omega) (by omega) (by omega) (fun l i acc H3=>∃(ps' rr:List Nat),acc=av rr/\rr.length=i/\H3 l=some (.lst acc)/\l≠p/\H l=none/\ap H H3/\H3 p=some (.lst (av ps'))/\cU n (lv n ws) ps'/\(∀y s,bw ps y s->bw ps' y s)/\∀k x:Nat,rr[k]?=some x->bw ps k x) ?_ ?_ ?_ ?_
  ·intro l H3 hl s3 e3
   exact⟨ps,[],rfl,rfl,e3,(bd e2 hl).symm,s2.free hl,s2.trans s3,s3 _ _ e2,t2,fun _ _ h=>h,fun k x h=>by simp at h⟩
  ·rintro l i acc H3 ⟨ps',rr,rfl,hl,e3,_⟩
   exact⟨e3,by rw[bo];omega⟩
  ·rintro l hl C s' H' fp i acc H3 hi ⟨ps',rr,rfl,hlr',e3,nl,hlH,s3,ep3,t3,k3,g3⟩
   obtain⟨r,hr⟩:=t2.forest.root i (by rw[t2.len];exact hi);right;refine⟨p,ps',i,r,rfl,ep3,t3.forest,k3 _ _ hr,fun H4 ps4 o4 e4 l4 f4 k4=>?_⟩;refine⟨by rw[o4 l nl];exact e3,ps4,rr++[r],kL rr r,by simp[hlr'],ay,nl,hlH,(s3.off hp o4).off hlH jf,by rw[aM nl.symm];exact e4,t3.moved f4 (by rw[l4];exact t3.len) k4,fun y s h=>k4 _ _ (k3 _ _ h),fun k x h=>?_⟩;rw[List.getElem?_append]at h;by_cases c:k<rr.length
   ·rw[if_pos c]at h
    exact g3 k x h
   ·rw[if_neg c]at h
    have hk:k=i:=by
     by_cases d:k-rr.length=0
     ·omega
     ·rw[K6 (by simp;omega)]at h;cases h
    subst hk;rw[<-hlr',O9]at h;cases h;exact hr
  ·rintro l acc H3 hl ⟨ps',rr,rfl,hlr',e3,nl,hlH,s3,ep3,t3,k3,g3⟩
   exact q rr l H3 (t2.join hlr' g3) hlH s3 e3
end
section
variable{g:CF TG}{tt:CF TT}{te:CF TE}{σ₀:St}{Q:VK}{H:Hp}{K:Fg}
end
theorem oH{H:Hp}{a:Addr}{fs:List (List Nat)}(h:fV H a fs):∃rs:List Addr,H a=some (.lst (rs.map V.ref))/\rs.length=fs.length/\∀(i:Nat)(r:Addr),rs[i]?=some r->∃v,fs[i]?=some v/\H r=some (.lst (av v)):=by
 obtain⟨rs,e,p⟩:=h;exact⟨rs,e,Lv p,fun i r hr=>cf p hr⟩
end L2
section
namespace L2
open PySem PyProof.Rows
set_option genInjectivity false in
inductive Sy where
 |holds (w c:Nat)|sees (h:Nat)|not (s:Sy)|and (s t:Sy)|or (s t:Sy)|knows (h:Nat) (s:Sy)|all (g:List Nat) (s:Sy)|common (g:List Nat) (s:Sy)
namespace Sy
noncomputable def words:Sy->Nat
 | .holds _ _=>1 | .sees _=>1 | .not s=>s.words+1 | .and s t=>s.words+t.words+1 | .or s t=>s.words+t.words+1 | .knows _ s=>s.words+1 | .all _ s=>s.words+1 | .common _ s=>s.words+1
noncomputable def word:Sy->Str
 | .holds _ _=>"holds" | .sees _=>"sees" | .not _=>"not" | .and _ _=>"and" | .or _ _=>"or" | .knows _ _=>"knows" | .all _ _=>"all" | .common _ _=>"common"
noncomputable def aO:Sy->List Str
 | .holds _ _=>["holder","card"] | .sees _=>["hand"] | .not _=>["saying"] | .and _ _=>["saying","saying"] | .or _ _=>["saying","saying"] | .knows _ _=>["hand","saying"] | .all _ _=>["hands","saying"] | .common _ _=>["hands","saying"]
noncomputable def plain:Sy->Bool
 | .holds _ _=>true | .not _=>true | .and _ _=>true | .or _ _=>true|_=>false
noncomputable def Ok(cards hands:Nat):Sy->Prop
 | .holds w c=>w<=hands/\c<cards | .sees h=>h<hands | .not s=>s.Ok cards hands | .and s t=>s.Ok cards hands/\t.Ok cards hands | .or s t=>s.Ok cards hands/\t.Ok cards hands
 | .knows h s=>h<hands/\s.Ok cards hands | .all g s=>(g.Pairwise (· < ·)/\∀k∈g,k<hands)/\s.Ok cards hands | .common g s=>(g.Pairwise (· < ·)/\∀k∈g,k<hands)/\s.Ok cards hands
theorem words_pos(s:Sy):1<=s.words:=by cases s<;>simp[words]
end Sy
noncomputable def cb(H:Hp):V->Sy->Prop
 |v,.holds w c=>∃a,v=.ref a/\H a=some (.tup [.str "holds",.int w,.int c])
 |v,.sees h=>∃a,v=.ref a/\H a=some (.tup [.str "sees",.int h])
 |v,.not s=>∃a x,v=.ref a/\H a=some (.tup [.str "not",x])/\cb H x s
 |v,.and s t=>∃a x y,v=.ref a/\H a=some (.tup [.str "and",x,y])/\cb H x s/\cb H y t
 |v,.or s t=>∃a x y,v=.ref a/\H a=some (.tup [.str "or",x,y])/\cb H x s/\cb H y t
 |v,.knows h s=>∃a x,v=.ref a/\H a=some (.tup [.str "knows",.int h,x])/\cb H x s
 |v,.all g s=>∃a b x,v=.ref a/\H a=some (.tup [.str "all",.ref b,x])/\H b=some (.tup (av g))/\cb H x s
 |v,.common g s=>∃a b x,v=.ref a/\H a=some (.tup [.str "common",.ref b,x])/\H b=some (.tup (av g))/\cb H x s
theorem cb.keep{H H':Hp}(k:dF H H'):∀{s:Sy} {v:V},cb H v s->cb H' v s
 | .holds _ _,_,⟨a,e,h⟩=>⟨a,e,k _ _ h⟩
 | .sees _,_,⟨a,e,h⟩=>⟨a,e,k _ _ h⟩
 | .not _,_,⟨a,x,e,h,r⟩=>⟨a,x,e,k _ _ h,cb.keep k r⟩
 | .and _ _,_,⟨a,x,y,e,h,r,q⟩=>⟨a,x,y,e,k _ _ h,cb.keep k r,cb.keep k q⟩
 | .or _ _,_,⟨a,x,y,e,h,r,q⟩=>⟨a,x,y,e,k _ _ h,cb.keep k r,cb.keep k q⟩
 | .knows _ _,_,⟨a,x,e,h,r⟩=>⟨a,x,e,k _ _ h,cb.keep k r⟩
 | .all _ _,_,⟨a,b,x,e,h,i,r⟩=>⟨a,b,x,e,k _ _ h,k _ _ i,cb.keep k r⟩
 | .common _ _,_,⟨a,b,x,e,h,i,r⟩=>⟨a,b,x,e,k _ _ h,k _ _ i,cb.keep k r⟩
noncomputable def p8(aO:List Str)(items:List V):List V:=((aO.zip items).filter fun p=>decide (p.1=("saying":Str))).map (·.2)
noncomputable def xM(H:Hp)(xs:List V)(ss:List Sy):Prop:=Paired (cb H) xs ss
theorem xM.keep{H H':Hp}(k:dF H H'){xs:List V}{ss:List Sy}(h:xM H xs ss):xM H' xs ss:=Paired.mapP h fun _ _ r=>r.keep k
set_option genInjectivity false in
structure Glo where
 forms:Addr
 cw:Addr
 f1:Addr
 f2:Addr
 f3:Addr
 f4:Addr
 f5:Addr
 f6:Addr
 f7:Addr
 f8:Addr
noncomputable def Glo.kvs(G:Glo):List (Str×V):=[("holds",.ref G.f1),("not",.ref G.f2),("and",.ref G.f3),("or",.ref G.f4),("knows",.ref G.f5),("all",.ref G.f6),("common",.ref G.f7),("sees",.ref G.f8)]
structure xN(K:Fg)(G:Glo):Prop where
 t1:kZ K G.f1 [.str "holder",.str "card"]
 t2:kZ K G.f2 [.str "saying"]
 t3:kZ K G.f3 [.str "saying",.str "saying"]
 t4:kZ K G.f4 [.str "saying",.str "saying"]
 t5:kZ K G.f5 [.str "hand",.str "saying"]
 t6:kZ K G.f6 [.str "hands",.str "saying"]
 t7:kZ K G.f7 [.str "hands",.str "saying"]
 t8:kZ K G.f8 [.str "hand"]
theorem JI{x y:Str}{v:V}{r:List (Str×V)}:((x,v)::r).lookup y=if y=x then some v else r.lookup y:=by
 rw[Ld];by_cases h:y=x
 ·rw[if_pos h,show(y==x)=true from beq_iff_eq.mpr h]
 ·rw[if_neg h,show(y==x)=false from beq_eq_false_iff_ne.mpr h]
theorem qJ(x:V)(xs:List V):atI (x::xs) 0=some x:=by
 have:atI (x::xs) ((0:Nat):Int)=some x:=cN rfl;exact this
theorem Dy(aO:List Str)(items:List V)(i:Nat)(f:Str)(x:V)(hf:aO[i]?=some f)(hx:items[i]?=some x):p8 (aO.take (i+1)) (items.take (i+1))=p8 (aO.take i) (items.take i)++(if f="saying" then[x]else[]):=by
 unfold p8;have e:(aO.take (i+1)).zip (items.take (i+1))=(aO.take i).zip (items.take i)++[(f,x)]:=by
  rw[LJ,LJ,hf,hx];rw[List.zip_append (by
   have h1:=(Kn.mp hf).1;have h2:=(Kn.mp hx).1;rw[Mn,Mn];omega)]
  rfl
 rw[e,Oo,KU]
 congr 1
 by_cases h:f="saying"
 ·rw[if_pos h,Nw (by simpa using h)]
  rfl
 ·rw[if_neg h,Nx (by simpa using h)]
  rfl
theorem E2(aO:List Str)(items:List V):(p8 aO items).length<=aO.length:=by
 unfold p8;rw[Kk];refine K4 (OW _ _) ?_;rw[Of];omega
end L2
end
section
namespace L2
open PySem
noncomputable def lg(t1 t2:String):Bool:=t1==t2||(t1=="bool"&&t2=="int")
noncomputable def ma:List String:=["NoneType","bool","int","str","tuple","list","dict"]
noncomputable def vO:List String:=["bool","int","str","tuple","list"]
theorem IW{K:Fg}{t1 t2:String}{b:Bool}(h:(if(LF t1==LF t2)=true then some true else if QF t2=true then(QX t1).map (·.contains (.type t2))else none)=some b):LW K (.type t1) (.type t2)=some b:=h
theorem vP(K:Fg):∀t1∈ma,∀t2∈vO,LW K (.type t1) (.type t2)=some (lg t1 t2):=by
 have go:∀t1∈ma,∀t2∈vO,(if(LF t1==LF t2)=true then some true else if QF t2=true then(QX t1).map (·.contains (.type t2))else none)=some (lg t1 t2):=by decide+kernel
 exact fun t1 h1 t2 h2=>IW (go t1 h1 t2 h2)
end L2
end
namespace L2
open PySem PyProof.Rows
section
variable{K:Fg}{vs:List V}{H:Hp}{Q:VK}{E:XK}
open KF
open Classical in
noncomputable def blV(n:Nat)(P:Nat->Prop):List V:=(KS n).map fun i=>V.bl (decide (P i))
theorem cdf{p:Prop}(h:¬p):false=@decide p (Mt p):=(@decide_eq_false p (Mt p) h).symm
theorem cdt{p:Prop}(h:p):true=@decide p (Mt p):=(@decide_eq_true p (Mt p) h).symm
theorem cde{p q:Prop}[i:Decidable p](h:p↔q):decide p=@decide q (Mt q):=@decide_eq_decide p q i (Mt q) |>.mpr h
section
open Classical
variable{n i:Nat}{P P':Nat->Prop}
theorem cF(n:Nat)(P:Nat->Prop):(blV n P).length=n:=by unfold blV;simp
theorem nM(h:i<n):(blV n P)[i]?=some (.bl (decide (P i))):=by unfold blV;rw[Kz,Mg h];rfl
theorem IX(h:i<n):atI (blV n P) (i:Int)=some (.bl (decide (P i))):=cN (nM h)
theorem nN{x:V}(h:(blV n P)[i]?=some x):i<n/\x=.bl (decide (P i)):=by
 have hi:i<n:=by have:=(Kn.mp h).1;rw[cF]at this;exact this
 rw[nM hi]at h;exact⟨hi,(KA h).symm⟩
theorem p9(h:∀i,i<n->(P i↔P' i)):blV n P=blV n P':=by
 unfold blV;refine My fun i hi=>?_;rw[show P i=P' i from propext (h i (MC.mp hi))]
theorem fG(n:Nat)(P:Nat->Prop):blV (n+1) P=blV n P++[.bl (decide (P n))]:=by unfold blV;rw[NF,KU];rfl
theorem GU(h:i<n){b:Bool}(hb:∀j,j<n->j≠i->(P j↔P' j))(hi:b=decide (P' i)):(blV n P).set i (.bl b)=blV n P':=by
 refine MN fun k=>?_;rw[NP,cF];by_cases e:i=k
 ·subst e
  rw[if_pos rfl,if_pos h,nM h,hi]
 ·rw[if_neg e]
  by_cases hk:k<n
  ·rw[nM hk,nM hk,show P k=P' k from propext (hb k hk (fun z=>e z.symm))]
  ·rw[K6 (by rw[cF];omega),K6 (by rw[cF];omega)]
theorem yI(n:Nat)(h:∀i,P i):(Ls n [V.bl true]).flatten=blV n P:=by
 induction n with
 |zero=>rfl
 |succ n ih=>
  rw[fG,<-ih,List.replicate_succ',List.flatten_append,decide_eq_true (h n)];simp
theorem E3(n:Nat)(P:Nat->Prop):∀x∈blV n P,oB x=true:=fun x hx=>by
 unfold blV at hx;obtain⟨i,_,rfl⟩:=Lr.mp hx;rfl
end
noncomputable def qK(_:Fg):Sp:=fun vs H Q _=>∃(a b:Addr)(n:Nat)(P P':Nat->Prop),vs=[.ref a,.ref b]/\H a=some (.lst (blV n P))/\H b=some (.lst (blV n P'))/\n<=100000/\
 ∀p H',H p=none->ap H H'->H' p=some (.lst (blV n fun i=>P i/\P' i))->Q (.ref p) H'
noncomputable def ui(K:Fg):TS:=(aN (cc (pN bP bP K (aa (ad 0) (aa (ad 1) ag))) (fun _ _ _ _=>(ik K 2 (bx (ao 0) (bx (ao 1) ij)))) (fun _ _ _ _=>bM) (fun _ _ _ _=>(mD (ad 0) (ad 1))) [none,none]))
section
open Classical
theorem GV(h:qK K vs H Q E):ui K { nx:=fun _ H'=>Q .non H',rt:=Q } (start ["ones","others"] vs) H:=by
 obtain⟨a,b,n,P,P',rfl,ea,eb,hn,q⟩:=h;show ui K _ [some _,some _] _;unfold ui;right;refine pS (S1:=bP) (S2:=bP) _ _ (SqL.of ea) (SqL.of eb) (fun H' s=>s.seq (SqL.of ea)) (fun H' s=>s.seq (SqL.of eb)) (by rw[cF];omega) (fun i acc _=>acc=blV i fun i=>P i/\P' i) (fun _ _=>rfl) ?_ ?_
 ·rintro p hp C s' H' fp i x y T acc H2 H3 hx hy ⟨s2,e2,l2,rfl⟩ hT s3 e3 e4
  obtain⟨hi,rfl⟩:=nN hx;obtain⟨_,rfl⟩:=nN hy;right;refine iq (SqT.of e3) ?_;right;by_cases h:P i
  ·rw[decide_eq_true h]
   refine r9 ?_;right;refine bJ.put hp (fun _ _ _ _ r _=>r) (s2.trans s3) e4 l2 ?_;rw[fG]
   congr 3
   exact decide_eq_decide.mpr ⟨fun q=>⟨h,q⟩,fun q=>q.2⟩
  ·rw[decide_eq_false h]
   refine r6 ?_;refine bJ.put hp (fun _ _ _ _ r _=>r) (s2.trans s3) e4 l2 ?_;rw[fG]
   congr 3
   exact cdf fun q=>h q.1
 ·rintro p acc H2 hp s2 e2 rfl
  rw[cF,cF,Pa]at e2;exact q _ _ hp s2 e2
end
noncomputable def qa(_:Fg):Sp:=fun vs H Q _=>∃(a b:Addr)(n:Nat)(P P':Nat->Prop),vs=[.ref a,.ref b]/\H a=some (.lst (blV n P))/\H b=some (.lst (blV n P'))/\n<=100000/\
 ∀p H',H p=none->ap H H'->H' p=some (.lst (blV n fun i=>P i\/P' i))->Q (.ref p) H'
noncomputable def oI(K:Fg):TS:=(aN (cc (pN bP bP K (aa (ad 0) (aa (ad 1) ag))) (fun _ _ _ _=>(ik K 2 (bx (ao 0) (bx (ao 1) ij)))) (fun _ _ _ _=>bM) (fun _ _ _ _=>(Ej (ad 0) (ad 1))) [none,none]))
section
open Classical
theorem Dz(h:qa K vs H Q E):oI K { nx:=fun _ H'=>Q .non H',rt:=Q } (start ["ones","others"] vs) H:=by
 obtain⟨a,b,n,P,P',rfl,ea,eb,hn,q⟩:=h;show oI K _ [some _,some _] _;unfold oI;right;refine pS (S1:=bP) (S2:=bP) _ _ (SqL.of ea) (SqL.of eb) (fun H' s=>s.seq (SqL.of ea)) (fun H' s=>s.seq (SqL.of eb)) (by rw[cF];omega) (fun i acc _=>acc=blV i fun i=>P i\/P' i) (fun _ _=>rfl) ?_ ?_
 ·rintro p hp C s' H' fp i x y T acc H2 H3 hx hy ⟨s2,e2,l2,rfl⟩ hT s3 e3 e4
  obtain⟨hi,rfl⟩:=nN hx;obtain⟨_,rfl⟩:=nN hy;right;refine iq (SqT.of e3) ?_;right;by_cases h:P i
  ·rw[decide_eq_true h]
   refine r9 ?_;refine bJ.put hp (fun _ _ _ _ r _=>r) (s2.trans s3) e4 l2 ?_;rw[fG]
   congr 3
   exact cdt (.inl h)
  ·rw[decide_eq_false h]
   refine r6 ?_;right;refine bJ.put hp (fun _ _ _ _ r _=>r) (s2.trans s3) e4 l2 ?_;rw[fG]
   congr 3
   exact decide_eq_decide.mpr ⟨.inr,fun q=>q.resolve_left h⟩
 ·rintro p acc H2 hp s2 e2 rfl
  rw[cF,cF,Pa]at e2;exact q _ _ hp s2 e2
end
noncomputable def KN(n:Nat)(v:List Nat)(P:Nat->Prop)(i:Nat):Prop:=∀j,j<n->v.getD j 0=v.getD i 0->P j
theorem oJ{n:Nat}{v:List Nat}(h:Within n v){i:Nat}(hi:i<n):v[i]?=some (v.getD i 0)/\v.getD i 0<n:=by
 have hl:i<v.length:=by rw[h.1];exact hi
 have e:v[i]?=some (v.getD i 0):=by rw[KG,Kj hl];rfl
 exact⟨e,h.2 _ (Ky e)⟩
noncomputable def jU(_:Fg):Sp:=fun vs H Q _=>∃(a b:Addr)(n:Nat)(v:List Nat)(P:Nat->Prop),vs=[.ref a,.ref b]/\H a=some (.lst (av v))/\H b=some (.lst (blV n P))/\Within n v/\n<=100000/\
 ∀p H',H p=none->ap H H'->H' p=some (.lst (blV n (KN n v P)))->Q (.ref p) H'
noncomputable def qL(K:Fg):TS:=(ar (aK (tOp EG (bQ (aa (tC (.bl true)) ag)) (tCB (dP K) (aa (ad 0) ag))) (ao 2))
 (ar (eX (pN bP bP K (aa (ad 0) (aa (ad 1) ag))) (ik K 2 (bx (ao 3) (bx (ao 4) ij))) (bD (fY (tB (ad 4))) (aK (tC (.bl false)) (pB (ad 2) (ad 3) mE)) bv))
 (aN (cc (cX K (ad 0)) (fun _ _ _ _=>(ao 0)) (fun _ _ _ _=>bM) (fun _ _ _ _=>(tOp (cz K) (ad 1) (ad 0))) [none,some 2]))))
section
open Classical
theorem E4(h:jU K vs H Q E):qL K { nx:=fun _ H'=>Q .non H',rt:=Q } (start ["view","truths","sure","least","truth"] vs) H:=by
 obtain⟨a,b,n,v,P,rfl,ea,eb,hv,hn,q⟩:=h;show qL K _ [some _,some _,none,none,none] _;unfold qL;have hvl:=hv.1;right;refine⟨by simp[Kl],fun l H1 hl s1 e1=>?_⟩;right;refine tO (SqL.of (s1 _ _ ea)) ?_;right;rw[bo,hvl];refine⟨l,(n:Int),[.bl true],rfl,rfl,e1,by omega,by omega,by rw[Kl];simp;omega,fun p H2 hp s2 e2=>?_⟩;rw[NO,yI (P:=fun x=>∀j,j<0->v.getD j 0=x->P j) n (fun _ j h=>absurd h (by omega))]at e2;have s02:=s1.trans s2;have hpH:H p=none:=s1.free hp;right;refine IM (S1:=bP) (S2:=bP) (av v) (blV n P) (SqL.of (s02 _ _ ea)) (SqL.of (s02 _ _ eb)) (fun i σ H3=>∃(u1 u2:Option V),σ=[some (.ref a),some (.ref b),some (.ref p),u1,u2]/\ap H H3/\H3 p=some (.lst (blV n fun x=>∀j,j<i->v.getD j 0=x->P j))) ?_ ?_ ?_ ?_
 ·exact⟨_,_,rfl,s02,e2⟩
 ·rintro i σ H3 ⟨u1,u2,rfl,s3,e3⟩
  exact⟨SqL.of (s3 _ _ ea),SqL.of (s3 _ _ eb)⟩
 ·rintro i x y T σ H3 H4 hx hy ⟨u1,u2,rfl,s3,e3⟩ hT s4 eT
  obtain⟨hi,rfl⟩:=nN hy;obtain⟨z,hz,rfl⟩:=jT hx;obtain⟨hz',hzn⟩:=oJ hv hi;rw[hz]at hz';have ez:z=v.getD i 0:=KA hz';refine iq (SqT.of eT) ?_;right;by_cases h:P i
  ·rw[decide_eq_true h]
   right;refine⟨_,_,rfl,s3.trans s4,?_⟩;rw[s4 _ _ e3]
   congr 2
   refine p9 fun x _=>⟨fun f j hj e=>?_,fun f j hj e=>f j (by omega) e⟩;by_cases c:j=i
   ·rw[c];exact h
   ·exact f j (by omega) e
  ·rw[decide_eq_false h]
   right;refine pP (s4 _ _ e3) (vM (by rw[cF,ez];exact hzn)) ?_;refine⟨_,_,rfl,(s3.trans s4).off hpH jf,?_⟩;rw[ay]
   congr 2
   refine GU (by rw[ez];exact hzn) (fun x _ hxz=>⟨fun f j hj e=>?_,fun f j hj e=>f j (by omega) e⟩) ?_
   ·by_cases c:j=i
    ·subst c
     exact absurd (e.symm.trans ez.symm) hxz
    ·exact f j (by omega) e
   ·exact cdf fun f=>h (f i (by omega) ez.symm)
 ·rintro σ H3 ⟨u1,u2,rfl,s3,e3⟩
  rw[bo,cF,hvl,Pa]at e3;right;refine fU (av v) (SqL.of (s3 _ _ ea)) (by rw[bo];omega) (fun i acc _=>acc=blV i (KN n v P)) (fun _ _=>rfl) ?_ ?_
  ·rintro r hr C s' H' fp i x acc H4 hx ⟨s4,e4,l4,rfl⟩
   obtain⟨z,hz,rfl⟩:=jT hx;have hi:i<n:=by have:=(Kn.mp hz).1;omega
   obtain⟨hz',hzn⟩:=oJ hv hi;rw[hz]at hz';have ez:z=v.getD i 0:=KA hz';right;refine bW (SqL.of (s4 _ _ e3)) (IX (by rw[ez];exact hzn)) ?_;refine bJ.put hr (fun _ _ _ _ r _=>r) s4 e4 l4 ?_;rw[fG]
   congr 3
   rw[ez];rfl
  ·rintro r acc H4 hr s4 e4 rfl
   rw[bo,hvl]at e4;exact q _ _ (s3.free hr) (s3.trans s4) e4
end
noncomputable def jr(_:Fg):Sp:=fun vs H Q _=>∃(a b:Addr)(n:Nat)(ws:List (List Nat))(P:Nat->Prop),vs=[.ref a,.ref b]/\fV H a ws/\H b=some (.lst (blV n P))/\(∀v∈ws,Within n v)/\n<=100000/\
 ∀p H',H p=none->ap H H'->H' p=some (.lst (blV n fun i=>∀v∈ws,KN n v P i))->Q (.ref p) H'
noncomputable def gO(K:Fg):TS:=(ar (aK (tOp EG (bQ (aa (tC (.bl true)) ag)) (tCB (dP K) (aa (ad 1) ag))) (ao 2))
 (ar (eX (cX K (ad 0)) (ao 3) (aK (aq (qK K) [] E0 (aa (ad 2) (aa (aq (jU K) [] E0 (aa (ad 3) (aa (ad 1) ag))) ag))) (ao 2)))
 (aN (ad 2))))
theorem uj(h:jr K vs H Q E):gO K { nx:=fun _ H'=>Q .non H',rt:=Q } (start ["views","truths","answers","view"] vs) H:=by
 obtain⟨a,b,n,ws,P,rfl,hV,eb,hw,hn,q⟩:=h;show gO K _ [some _,some _,none,none] _;unfold gO;obtain⟨rs,ea,hlr,hr⟩:=oH hV;right;refine⟨by simp[Kl],fun l H1 hl s1 e1=>?_⟩;right;refine tO (SqL.of (s1 _ _ eb)) ?_;right;rw[cF];refine⟨l,(n:Int),[.bl true],rfl,rfl,e1,by omega,by omega,by rw[Kl];simp;omega,fun p H2 hp s2 e2=>?_⟩;rw[NO,yI (P:=fun i=>∀v∈ws.take 0,KN n v P i) n (fun _ v h=>by simp at h)]at e2;have s02:=s1.trans s2;have hpH:H p=none:=s1.free hp;right;refine nH (rs.map V.ref) (SqL.of (s02 _ _ ea)) (fun i σ H3=>∃(u1:Option V)(p:Addr),σ=[some (.ref a),some (.ref b),some (.ref p),u1]/\H p=none/\ap H H3/\H3 p=some (.lst (blV n fun k=>∀v∈ws.take i,KN n v P k))) ?_ ?_ ?_ ?_
 ·exact⟨_,p,rfl,hpH,s02,e2⟩
 ·rintro i σ H3 _ ⟨u1,p,rfl,hp,s3,e3⟩
  exact SqL.of (s3 _ _ ea)
 ·rintro i x σ H3 hx ⟨u1,p,rfl,hp,s3,e3⟩
  obtain⟨c,hc,rfl⟩:=nL hx;obtain⟨v,hv,ev⟩:=hr i c hc;right;refine⟨c,b,n,v,P,rfl,s3 _ _ ev,s3 _ _ eb,hw v (Ky hv),hn,fun k H4 hk s4 e4=>?_⟩;right;refine⟨p,k,n,_,_,rfl,s4 _ _ e3,e4,hn,fun k2 H5 hk2 s5 e5=>?_⟩;have s35:=s4.trans s5;refine⟨_,k2,rfl,s3.free (s4.free hk2),s3.trans s35,?_⟩;rw[e5]
  congr 2
  refine p9 fun i _=>?_;rw[cI hv];exact⟨fun h w hw=>(Lf.mp hw).elim (h.1 w) fun z=>by rw[Kr.mp z];exact h.2,fun h=>⟨fun w hw=>h w (Ll _ hw),h v (by simp)⟩⟩
 ·rintro σ H3 ⟨u1,p,rfl,hp,s3,e3⟩
  rw[Kk,hlr,Le]at e3;right;exact q _ _ hp s3 e3
noncomputable def GW(H:Hp)(a:Addr)(ps:List (List Int)):Prop:=∃rs:List Addr,H a=some (.lst (rs.map V.ref))/\Paired (fun(r:Addr)(xs:List Int)=>H r=some (.tup (xs.map V.int))) rs ps
noncomputable def BB(n:Nat)(ps:List (List Int))(v:List Nat)(j:Nat):Prop:=ps.getD j []=ps.getD (v.getD j 0) []
noncomputable def vQ(_:Fg):Sp:=fun vs H Q _=>∃(a b:Addr)(n:Nat)(v:List Nat)(ps:List (List Int)),vs=[.ref a,.ref b]/\GW H a ps/\ps.length=n/\H b=some (.lst (av v))/\Within n v/\n<=100000/\
 ∀p H',H p=none->ap H H'->H' p=some (.lst (blV n (KN n v (BB n ps v))))->Q (.ref p) H'
theorem wO{H:Hp}{rs:List Addr}{ps:List (List Int)}(h:Paired (fun(r:Addr)(xs:List Int)=>H r=some (.tup (xs.map V.int))) rs ps){i:Nat}(hi:i<ps.length):∃r,rs[i]?=some r/\H r=some (.tup ((ps.getD i []).map V.int)):=by
 have hl:=Lv h;obtain⟨r,hr⟩:∃r,rs[i]?=some r:=⟨_,Kj (by omega)⟩;obtain⟨xs,hx,e⟩:=cf h hr;refine⟨r,hr,?_⟩;rw[KG,hx];exact e
noncomputable def uk(K:Fg):TS:=(aN (aq (jU K) [] E0 (aa (ad 1) (aa (cc (pN bP bP K (aa (ad 0) (aa (ad 1) ag))) (fun _ _ _ _=>(ik K 2 (bx (ao 0) (bx (ao 1) ij)))) (fun _ _ _ _=>bM) (fun _ _ _ _=>(tOp (Ez (SqT K) false) (ad 0) (tOp (cz K) (ad 2) (ad 1)))) [none,none,some 0]) ag))))
section
open Classical
theorem GX(h:vQ K vs H Q E):uk K { nx:=fun _ H'=>Q .non H',rt:=Q } (start ["piles","view"] vs) H:=by
 obtain⟨a,b,n,v,ps,rfl,⟨rs,ea,hr⟩,hpl,eb,hv,hn,q⟩:=h;show uk K _ [some _,some _] _;unfold uk;have hlr:rs.length=ps.length:=Lv hr;have hvl:=hv.1;right;refine pS (S1:=bP) (S2:=bP) (rs.map V.ref) (av v) (SqL.of ea) (SqL.of eb) (fun H' s=>s.seq (SqL.of ea)) (fun H' s=>s.seq (SqL.of eb)) (by rw[Kk];omega) (fun i acc _=>acc=blV i (BB n ps v)) (fun _ _=>rfl) ?_ ?_
 ·rintro p hp C s' H' fp i x y T acc H2 H3 hx hy ⟨s2,e2,l2,rfl⟩ hT s3 e3 e4
  obtain⟨c,hc,rfl⟩:=nL hx;obtain⟨z,hz,rfl⟩:=jT hy;have hi:i<n:=by have:=(Kn.mp hz).1;omega
  obtain⟨hz',hzn⟩:=oJ hv hi;rw[hz]at hz';have ez:z=v.getD i 0:=KA hz';obtain⟨c',hc',ec⟩:=wO hr (i:=i) (by omega);rw[hc]at hc';cases hc';obtain⟨d,hd,ed⟩:=wO hr (i:=z) (by omega);have s23:=s2.trans s3;right;refine iq (SqT.of e3) ?_;right;refine bW (SqL.of (s23 _ _ ea)) (v:=.ref d) (cN (by rw[Kz,hd];rfl)) ?_;right;refine JE (SqT.of (s23 _ _ ec)) (SqT.of (s23 _ _ ed)) ?_;refine bJ.put hp (fun _ _ _ _ r _=>r) s23 e4 l2 ?_;rw[fG]
  congr 3
  rw[ez];exact cde Iff.rfl
 ·rintro p acc H2 hp s2 e2 rfl
  rw[Kk,bo,hlr,hpl,hvl,Pa]at e2;right;exact⟨b,p,n,v,_,rfl,s2 _ _ eb,e2,hv,hn,fun r H3 hr s3 e3=>q r H3 (s2.free hr) (s2.trans s3) e3⟩
end
end
section
open KF
noncomputable def TR(n:Nat)(ws vs:List (List Nat)):Sy->Nat->Prop
 | .holds w c,i=>(ws.getD i []).getD c 0=w
 | .sees h,i=>KN n (vs.getD h []) (BB n (ws.map fun w=>oE w (vs.length:Nat)) (vs.getD h [])) i
 | .not s,i=>¬TR n ws vs s i
 | .and s t,i=>TR n ws vs s i/\TR n ws vs t i
 | .or s t,i=>TR n ws vs s i\/TR n ws vs t i
 | .knows h s,i=>KN n (vs.getD h []) (TR n ws vs s) i
 | .all g s,i=>∀v∈g.map (fun h=>vs.getD h []),KN n v (TR n ws vs s) i
 | .common g s,i=>∀j,j<n->dI (lv n (g.map fun h=>vs.getD h [])) i j->TR n ws vs s j
theorem ul{n:Nat}{P:Nat->Nat->Prop}{r:List Nat}(h:pZ n P r){i j:Nat}(hi:i<n)(hj:j<n):r.getD j 0=r.getD i 0↔dI P i j:=by
 have ei:r[i]?=some (r.getD i 0):=by rw[KG,Kj (by rw[h.len];exact hi)];rfl
 have ej:r[j]?=some (r.getD j 0):=by rw[KG,Kj (by rw[h.len];exact hj)];rfl
 constructor
 ·intro e
  have c1:=h.conn _ _ ei;have c2:=h.conn _ _ ej;rw[e]at c2;exact .trans c1 (.symm c2)
 ·intro c
  have:=h.same i j hi hj c;rw[ei,ej]at this;exact(KA this).symm
theorem zP{n:Nat}{P:Nat->Nat->Prop}{r:List Nat}(h:pZ n P r):Within n r:=⟨h.len,fun x hx=>by
 obtain⟨i,hi⟩:=OX.mp hx;have:=h.le i x hi;have:=(Kn.mp hi).1;rw[h.len]at this;omega⟩
theorem GY{n:Nat}{P:Nat->Nat->Prop}{r:List Nat}(h:pZ n P r){F:Nat->Prop}{i:Nat}(hi:i<n):KN n r F i↔∀j,j<n->dI P i j->F j:=
 ⟨fun k j hj c=>k j hj ((ul h hi hj).mpr c),fun k j hj e=>k j hj ((ul h hi hj).mp e)⟩
theorem um:∀{g:List Nat} {m:Nat},g.Pairwise (· < ·)->(∀k∈g,k<m)->g.length<=m:=by
 intro g m hp hk;have go:∀(l:List Nat)(lo:Nat),l.Pairwise (· < ·)->(∀k∈l,lo<=k/\k<m)->l.length+lo<=m\/l=[]:=by
  intro l
  induction l with
  |nil=>intro _ _ _;exact .inr rfl
  |cons x r ih=>
   intro lo hp hk;obtain⟨h1,h2⟩:=PD.mp hp;have hx:=hk x (Ks ..);rcases ih (x+1) h2 (fun k hkr=>⟨h1 k hkr,(hk k (Ku _ hkr)).2⟩)with h|h
   ·left;rw[KQ];omega
   ·left;rw[h];simp;omega
 rcases go g 0 hp (fun k h=>⟨Lk _,hk k h⟩)with h|h
 ·omega
 ·rw[h];simp
structure Table(H:Hp)(a b:Addr)(c n:Nat)(ws vs:List (List Nat)):Prop where
 deals:bH H a ws
 len:ws.length=n
 cards:∀w∈ws,w.length=c
 small:n<=100000
 few:c<=1000
 views:fV H b vs
 win:∀v∈vs,Within n v
 hands:vs.length<=1000
theorem Table.same{H H':Hp}{a b:Addr}{c n:Nat}{ws vs:List (List Nat)}(t:Table H a b c n ws vs)(s:ap H H'):Table H' a b c n ws vs:=⟨t.deals.same' s,t.len,t.cards,t.small,t.few,t.views.same s,t.win,t.hands⟩
theorem jV{ws:List (List Nat)}{i:Nat}{w:List Nat}(h:ws[i]?=some w):ws.getD i []=w:=by rw[KG,h];rfl
theorem qM{H:Hp}{b:Addr}{vs:List (List Nat)}(h:fV H b vs){k:Nat}(hk:k<vs.length):∃(rs:List Addr)(r:Addr),H b=some (.lst (rs.map V.ref))/\atI (rs.map V.ref) (k:Int)=some (.ref r)/\H r=some (.lst (av (vs.getD k [])))/\vs.getD k []∈vs:=by
 obtain⟨rs,e,hl,hr⟩:=oH h;obtain⟨r,hrk⟩:∃r,rs[k]?=some r:=⟨_,Kj (by omega)⟩;obtain⟨v,hv,ev⟩:=hr k r hrk;refine⟨rs,r,e,cN (by rw[Kz,hrk];rfl),?_,?_⟩
 ·rw[jV hv];exact ev
 ·rw[jV hv];exact Ky hv
noncomputable def bY(_:Fg)(m:Nat):Sp:=fun vals H Q _=>∃(a b:Addr)(x:V)(c n:Nat)(ws vs:List (List Nat))(s:Sy),vals=[.ref a,.ref b,x]/\Table H a b c n ws vs/\cb H x s/\s.Ok c vs.length/\s.words<=m/\
 ∀p H',H p=none->ap H H'->H' p=some (.lst (blV n (TR n ws vs s)))->Q (.ref p) H'
noncomputable def kg(K:Fg)(n:Nat):TS:=(ar (aK (tOp (eY K) (ad 2) (tC (.int 0))) (ao 3))
 (ar (bD (br (tOp rEq (ad 3) (tC (.str "holds")))) (aN (cc (cX K (ad 0)) (fun _ _ _ _=>(ao 0)) (fun _ _ _ _=>bM) (fun _ _ _ _=>(tOp rEq (tOp (eY K) (ad 0) (tOp (eY K) (ad 1) (tC (.int 2)))) (tOp (eY K) (ad 1) (tC (.int 1))))) [none,some 2])) bv)
 (ar (bD (br (tOp rEq (ad 3) (tC (.str "sees")))) (aN (aq (vQ K) [] E0 (aa (cc (cX K (ad 0)) (fun _ _ _ _=>(ao 0)) (fun _ _ _ _=>bM) (fun _ _ _ _=>(aq (iz K) [] E0 (aa (ad 0) (aa (tCB (dP K) (aa (ad 1) ag)) ag)))) [none,some 1]) (aa (tOp (cz K) (ad 1) (tOp (eY K) (ad 2) (tC (.int 1)))) ag)))) bv)
 (ar (bD (br (tOp rEq (ad 3) (tC (.str "not")))) (aN (cc (cX K (aq (bY K n) [] E0 (aa (ad 0) (aa (ad 1) (aa (tOp (eY K) (ad 2) (tC (.int 1))) ag))))) (fun _ _ _ _=>(ao 0)) (fun _ _ _ _=>bM) (fun _ _ _ _=>(xH (ad 0))) [none])) bv)
 (ar (bD (br (tOp rEq (ad 3) (tC (.str "and")))) (aN (aq (qK K) [] E0 (aa (aq (bY K n) [] E0 (aa (ad 0) (aa (ad 1) (aa (tOp (eY K) (ad 2) (tC (.int 1))) ag)))) (aa (aq (bY K n) [] E0 (aa (ad 0) (aa (ad 1) (aa (tOp (eY K) (ad 2) (tC (.int 2))) ag)))) ag)))) bv)
 (ar (bD (br (tOp rEq (ad 3) (tC (.str "or")))) (aN (aq (qa K) [] E0 (aa (aq (bY K n) [] E0 (aa (ad 0) (aa (ad 1) (aa (tOp (eY K) (ad 2) (tC (.int 1))) ag)))) (aa (aq (bY K n) [] E0 (aa (ad 0) (aa (ad 1) (aa (tOp (eY K) (ad 2) (tC (.int 2))) ag)))) ag)))) bv)
 (ar (aK (aq (bY K n) [] E0 (aa (ad 0) (aa (ad 1) (aa (tOp (eY K) (ad 2) (tC (.int 2))) ag)))) (ao 4))
 (ar (bD (br (tOp rEq (ad 3) (tC (.str "knows")))) (aN (aq (jU K) [] E0 (aa (tOp (cz K) (ad 1) (tOp (eY K) (ad 2) (tC (.int 1)))) (aa (ad 4) ag)))) bv)
 (ar (aK (cc (xZ K (tOp (eY K) (ad 2) (tC (.int 1)))) (fun _ _ _ _=>(ao 0)) (fun _ _ _ _=>bM) (fun _ _ _ _=>(tOp (cz K) (ad 1) (ad 0))) [none,some 1]) (ao 5))
 (ar (bD (br (tOp rEq (ad 3) (tC (.str "all")))) (aN (aq (jr K) [] E0 (aa (ad 5) (aa (ad 4) ag)))) bv)
 (aN (aq (jU K) [] E0 (aa (aq (p6 K) [] E0 (aa (tCB (dP K) (aa (ad 0) ag)) (aa (ad 5) ag))) (aa (ad 4) ag))))))))))))))
noncomputable abbrev zQ:List Str:=["deals","views","S","word","inner","some"]
theorem qb{K:Fg}{vs:List V}{H:Hp}{Q:VK}{E:XK}(h:bY K 0 vs H Q E):False:=by
 obtain⟨a,b,x,c,n,ws,vs,s,rfl,_,_,_,h,_⟩:=h;have:=s.words_pos;omega
theorem BC{H:Hp}{rs:List Addr}{ps:List (List Int)}{r:Addr}{xs:List Int}(h:Paired (fun(r:Addr)(xs:List Int)=>H r=some (.tup (xs.map V.int))) rs ps)(e:H r=some (.tup (xs.map V.int))):Paired (fun(r:Addr)(xs:List Int)=>H r=some (.tup (xs.map V.int))) (rs++[r]) (ps++[xs]):=by
 induction h with
 |nil=>exact .cons e .nil
 |cons a _ ih=>exact .cons a ih
theorem BD{H:Hp}{rs:List Addr}{vs:List (List Nat)}{r:Addr}{v:List Nat}(h:Paired (fun(r:Addr)(v:List Nat)=>H r=some (.lst (av v))) rs vs)(e:H r=some (.lst (av v))):Paired (fun(r:Addr)(v:List Nat)=>H r=some (.lst (av v))) (rs++[r]) (vs++[v]):=by
 induction h with
 |nil=>exact .cons e .nil
 |cons a _ ih=>exact .cons a ih
theorem DC{K:Fg}{H:Hp}{b e:Addr}{g:List Nat}{vs:List (List Nat)}{Q:VK}{σ₀:St}{gg:CF TG}{tt:CF TT}{te:CF TE}(hV:fV H b vs)(hg:∀k∈g,k<vs.length)(hgl:g.length<=1000)(eg:H e=some (.tup (av g)))
  (hs:∀C s' H' fp (k:Nat) (rs:List Addr) (r:Addr) H2 (R:V->Hp->Prop) (N:Hp->Prop),H2 b=some (.lst (rs.map V.ref))->atI (rs.map V.ref) (k:Int)=some (.ref r)->R (.ref r) H2->gg C s' H' fp (.int (k:Int)) σ₀ H2 fun σ2 H3=>tt C s' H' fp σ2 H3 fun c H4=>if c=true then te C s' H' fp σ2 H4 fun y H5=>R y H5 else N H4)
  (q:∀p H',H p=none->ap H H'->fV H' p (g.map fun h=>vs.getD h [])->Q (.ref p) H'):
  ∃a',V.ref e=.ref a'/\(∃xs,SqT K H a' xs)/\∀p,H p=none->∃W:Nat->Nat->List V->Hp->Prop,(∃m,W 0 m [] (upd H p (.lst [])))/\∀C s' H' fp,cB (Itt K a') (gg C s' H' fp) (tt C s' H' fp) (te C s' H' fp) σ₀ p Q W:=by
 obtain⟨rs,eb,hl,hr⟩:=oH hV;refine⟨e,rfl,⟨_,SqT.of eg⟩,fun p hp=>Ew (xs:=av g) (fun i acc H2=>ap H H2/\H2 p=some (.lst acc)/\acc.length<=i/\∃ts:List Addr,acc=ts.map V.ref/\Paired (fun(r:Addr)(v:List Nat)=>H r=some (.lst (av v))) ts ((g.take i).map fun h=>vs.getD h [])) ⟨bi hp _,ay,Km _,[],rfl,.nil⟩ (fun i acc H2 _ c=>⟨c.2.1,c.2.2.1⟩) (fun i acc H2 _ c=>c.1.tup (SqT.of eg)) (by rw[bo,Kl];omega) (fun C s' H' fp i x acc H2 hx c=>?_) fun acc H2 c=>?_⟩
 ·obtain⟨k,hk,rfl⟩:=jT hx
  have hkm:=hg k (Ky hk);obtain⟨r,hrk⟩:∃r,rs[k]?=some r:=⟨_,Kj (by omega)⟩;obtain⟨v,hv,ev⟩:=hr k r hrk;obtain⟨s2,e2,l2,ts,rfl,ht⟩:=c;refine hs C s' H' fp k rs r H2 _ _ (s2 _ _ eb) (cN (by rw[Kz,hrk];rfl)) ⟨e2,s2.upd hp _,ay,by simp at l2 ⊢;omega,ts++[r],by simp,?_⟩;rw[cI hk,KU];exact BD ht (by show H r=some (.lst (av (vs.getD k [])));rw[jV hv];exact ev)
 ·obtain⟨s2,e2,l2,ts,rfl,ht⟩:=c
  rw[bo,Le]at ht;exact q p H2 hp s2 ⟨ts,e2,Paired.mapP ht fun r v h=>s2 _ _ h⟩
section
open Classical
theorem yJ{K:Fg}{m:Nat}{vals:List V}{H:Hp}{Q:VK}{E:XK}(h:bY K (m+1) vals H Q E):kg K m { nx:=fun _ H'=>Q .non H',rt:=Q } (start zQ vals) H:=by
 obtain⟨a,b,x,c,n,ws,vs,s,rfl,T,hS,hok,hw,q⟩:=h;show kg K m _ [some _,some _,some _,none,none,none] _;unfold kg;obtain⟨rs,ea,hr⟩:=id T.deals;have hlr:rs.length=ws.length:=Lv hr;have hn:=T.small;have hlen:=T.len;cases s with
 |holds w k=>
  obtain⟨t,rfl,et⟩:=hS;obtain⟨hwh,hkc⟩:=hok;right;refine bS (SqT.of et) (i:=0) rfl ?_;right;refine jg rfl ?_;right;refine fU (rs.map V.ref) (SqL.of ea) (by rw[Kk];omega) (fun i acc _=>acc=blV i (TR n ws vs (.holds w k))) (fun _ _=>rfl) ?_ ?_
  ·rintro p hp C s' H' fp i x acc H2 hx ⟨s2,e2,l2,rfl⟩
   obtain⟨d,hd,rfl⟩:=nL hx;obtain⟨u,hu,eu⟩:=cf hr hd;have huc:=T.cards u (Ky hu);have e1:u[k]?=some (u.getD k 0):=by rw[KG,Kj (by omega)];rfl
   right;refine bS (SqT.of (s2 _ _ et)) (i:=2) rfl ?_;right;refine bS (SqT.of (s2 _ _ eu)) (lX e1) ?_;right;refine bS (SqT.of (s2 _ _ et)) (i:=1) rfl ?_;right;refine bJ.put hp (fun _ _ _ _ r _=>r) s2 e2 l2 ?_;rw[fG]
   congr 3
   refine cde ?_;show _↔(ws.getD i []).getD k 0=w;rw[jV hu];omega
  ·rintro p acc H2 hp s2 e2 rfl
   rw[Kk,hlr,hlen]at e2;exact q _ _ hp s2 e2
 |sees k=>
  obtain⟨t,rfl,et⟩:=hS;have hk:k<vs.length:=hok;right;refine bS (SqT.of et) (i:=0) rfl ?_;right;refine bC (by decide) ?_;right;refine jg rfl ?_;right;obtain⟨vrs,evb,hvl,_⟩:=oH T.views;refine fU (rs.map V.ref) (SqL.of ea) (by rw[Kk];omega) (fun i acc H2=>∃ts:List Addr,acc=ts.map V.ref/\Paired (fun(r:Addr)(xs:List Int)=>H2 r=some (.tup (xs.map V.int))) ts ((ws.take i).map fun w=>oE w (vs.length:Nat))) (fun _ _=>⟨[],rfl,.nil⟩) ?_ ?_
  ·rintro p hp C s' H' fp i x acc H2 hx ⟨s2,e2,l2,ts,rfl,ht⟩
   obtain⟨d,hd,rfl⟩:=nL hx;obtain⟨u,hu,eu⟩:=cf hr hd;have huc:=T.cards u (Ky hu);have:=T.few;right;refine tO (SqL.of (s2 _ _ evb)) ?_;right;rw[Kk,hvl];refine⟨d,u.map fun(s:Nat)=>((s:Nat):Int),(vs.length:Nat),rfl,by rw[<-cT];exact SqT.of (s2 _ _ eu),by rw[Kk];omega,fun r H3 s3 e3=>?_⟩;rw[Kk]at e3;refine bJ.put hp (fun _ _ _ _ ⟨ts,e,r⟩ k=>⟨ts,e,Paired.mapP r fun _ _ z=>k _ _ z⟩) (s2.trans s3) (s3 _ _ e2) l2 ⟨ts++[r],by simp,?_⟩;rw[cI hu,KU];exact BC (Paired.mapP ht fun _ _ z=>s3 _ _ z) e3
  ·rintro p acc H2 hp s2 e2 ⟨ts,rfl,ht⟩
   rw[Kk,hlr,Le]at ht;right;refine bS (SqT.of (s2 _ _ et)) (i:=1) rfl ?_;right;obtain⟨vr,r,e1,e3,e4,e5⟩:=qM (T.views.same s2) hk;refine bW (SqL.of e1) e3 ?_;right;exact⟨p,r,n,vs.getD k [],_,rfl,⟨ts,e2,ht⟩,by rw[Kk];exact hlen,e4,T.win _ e5,hn,fun p2 H3 hp2 s3 e6=>q p2 H3 (s2.free hp2) (s2.trans s3) e6⟩
 |not s=>
  obtain⟨t,y,rfl,et,hy⟩:=hS;have hw':s.words<=m:=by simp only[Sy.words]at hw;omega
  right;refine bS (SqT.of et) (i:=0) rfl ?_;right;refine bC (by decide) ?_;right;refine bC (by decide) ?_;right;refine jg rfl ?_;right;refine bS (SqT.of et) (i:=1) rfl ?_;right;refine⟨a,b,y,c,n,ws,vs,s,rfl,T,hy,hok,hw',fun l H1 hl s1 e1=>?_⟩;right;refine fU _ (SqL.of e1) (by rw[cF];omega) (fun i acc _=>acc=blV i (TR n ws vs (.not s))) (fun _ _=>rfl) ?_ ?_
  ·rintro p hp C s' H' fp i x acc H2 hx ⟨s2,e2,l2,rfl⟩
   obtain⟨hi,rfl⟩:=nN hx;right;refine bJ.put hp (fun _ _ _ _ r _=>r) s2 e2 l2 ?_;rw[fG]
   congr 3
   by_cases z:TR n ws vs s i
   ·rw[decide_eq_true z];exact cdf fun h=>h z
   ·rw[decide_eq_false z];exact cdt z
  ·rintro p acc H2 hp s2 e2 rfl
   rw[cF]at e2;exact q _ _ (s1.free hp) (s1.trans s2) e2
 |and s t=>
  obtain⟨u,y,z,rfl,et,hy,hz⟩:=hS;have hw1:s.words<=m:=by simp only[Sy.words]at hw;omega
  have hw2:t.words<=m:=by simp only[Sy.words]at hw;omega
  right;refine bS (SqT.of et) (i:=0) rfl ?_;right;refine bC (by decide) ?_;right;refine bC (by decide) ?_;right;refine bC (by decide) ?_;right;refine jg rfl ?_;right;refine bS (SqT.of et) (i:=1) rfl ?_;right;refine⟨a,b,y,c,n,ws,vs,s,rfl,T,hy,hok.1,hw1,fun l H1 hl s1 e1=>?_⟩;right;refine bS (SqT.of (s1 _ _ et)) (i:=2) rfl ?_;right;refine⟨a,b,z,c,n,ws,vs,t,rfl,T.same s1,hz.keep s1.keep,hok.2,hw2,fun l2 H2 hl2 s2 e2=>?_⟩;right;exact⟨l,l2,n,_,_,rfl,s2 _ _ e1,e2,hn,fun p H3 hp s3 e3=>q p H3 (s1.free (s2.free hp)) ((s1.trans s2).trans s3) e3⟩
 |or s t=>
  obtain⟨u,y,z,rfl,et,hy,hz⟩:=hS;have hw1:s.words<=m:=by simp only[Sy.words]at hw;omega
  have hw2:t.words<=m:=by simp only[Sy.words]at hw;omega
  right;refine bS (SqT.of et) (i:=0) rfl ?_;right;refine bC (by decide) ?_;right;refine bC (by decide) ?_;right;refine bC (by decide) ?_;right;refine bC (by decide) ?_;right;refine jg rfl ?_;right;refine bS (SqT.of et) (i:=1) rfl ?_;right;refine⟨a,b,y,c,n,ws,vs,s,rfl,T,hy,hok.1,hw1,fun l H1 hl s1 e1=>?_⟩;right;refine bS (SqT.of (s1 _ _ et)) (i:=2) rfl ?_;right;refine⟨a,b,z,c,n,ws,vs,t,rfl,T.same s1,hz.keep s1.keep,hok.2,hw2,fun l2 H2 hl2 s2 e2=>?_⟩;right;exact⟨l,l2,n,_,_,rfl,s2 _ _ e1,e2,hn,fun p H3 hp s3 e3=>q p H3 (s1.free (s2.free hp)) ((s1.trans s2).trans s3) e3⟩
 |knows k s=>
  obtain⟨t,y,rfl,et,hy⟩:=hS;have hw':s.words<=m:=by simp only[Sy.words]at hw;omega
  right;refine bS (SqT.of et) (i:=0) rfl ?_;right;refine bC (by decide) ?_;right;refine bC (by decide) ?_;right;refine bC (by decide) ?_;right;refine bC (by decide) ?_;right;refine bC (by decide) ?_;right;refine bS (SqT.of et) (i:=2) rfl ?_;right;refine⟨a,b,y,c,n,ws,vs,s,rfl,T,hy,hok.2,hw',fun l H1 hl s1 e1=>?_⟩;right;refine jg rfl ?_;right;refine bS (SqT.of (s1 _ _ et)) (i:=1) rfl ?_;right;obtain⟨vr,r,e2,e3,e4,e5⟩:=qM (T.views.same s1) hok.1;refine bW (SqL.of e2) e3 ?_;right;exact⟨r,l,n,vs.getD k [],_,rfl,e4,e1,T.win _ e5,hn,fun p2 H3 hp2 s3 e6=>q p2 H3 (s1.free hp2) (s1.trans s3) e6⟩
 |all g s=>
  obtain⟨t,u,y,rfl,et,eu,hy⟩:=hS;have hw':s.words<=m:=by simp only[Sy.words]at hw;omega
  obtain⟨⟨hpw,hg⟩,hok'⟩:=hok;right;refine bS (SqT.of et) (i:=0) rfl ?_;right;refine bC (by decide) ?_;right;refine bC (by decide) ?_;right;refine bC (by decide) ?_;right;refine bC (by decide) ?_;right;refine bC (by decide) ?_;right;refine bS (SqT.of et) (i:=2) rfl ?_;right;refine⟨a,b,y,c,n,ws,vs,s,rfl,T,hy,hok',hw',fun l H1 hl s1 e1=>?_⟩;right;refine bC (by decide) ?_;right;refine bS (SqT.of (s1 _ _ et)) (i:=1) rfl ?_;refine DC (T.views.same s1) hg (K4 (um hpw hg) T.hands) (s1 _ _ eu) ?_ ?_
  ·intro C s' H' fp k rs r H2 R N e2 e3 hR
   right;exact bW (SqL.of e2) e3 hR
  ·intro p H2 hp s2 V2
   right;refine jg rfl ?_;right;refine⟨p,l,n,_,_,rfl,V2,s2 _ _ e1,?_,hn,fun p2 H3 hp2 s3 e6=>q p2 H3 (s1.free (s2.free hp2)) ((s1.trans s2).trans s3) e6⟩;intro v hv;obtain⟨k,hk,rfl⟩:=Lr.mp hv;obtain⟨_,_,_,_,_,e5⟩:=qM T.views (hg k hk);exact T.win _ e5
 |common g s=>
  obtain⟨t,u,y,rfl,et,eu,hy⟩:=hS;have hw':s.words<=m:=by simp only[Sy.words]at hw;omega
  obtain⟨⟨hpw,hg⟩,hok'⟩:=hok;right;refine bS (SqT.of et) (i:=0) rfl ?_;right;refine bC (by decide) ?_;right;refine bC (by decide) ?_;right;refine bC (by decide) ?_;right;refine bC (by decide) ?_;right;refine bC (by decide) ?_;right;refine bS (SqT.of et) (i:=2) rfl ?_;right;refine⟨a,b,y,c,n,ws,vs,s,rfl,T,hy,hok',hw',fun l H1 hl s1 e1=>?_⟩;right;refine bC (by decide) ?_;right;refine bS (SqT.of (s1 _ _ et)) (i:=1) rfl ?_;refine DC (T.views.same s1) hg (K4 (um hpw hg) T.hands) (s1 _ _ eu) ?_ ?_
  ·intro C s' H' fp k rs r H2 R N e2 e3 hR
   right;exact bW (SqL.of e2) e3 hR
  ·intro p H2 hp s2 V2
   have s12:=s1.trans s2;have hwin:∀v∈g.map (fun h=>vs.getD h []),Within n v:=by
    intro v hv;obtain⟨k,hk,rfl⟩:=Lr.mp hv;obtain⟨_,_,_,_,_,e5⟩:=qM T.views (hg k hk);exact T.win _ e5
   right;refine bC (by decide) ?_;right;refine tO (SqL.of (s12 _ _ ea)) ?_;right;rw[Kk,hlr,hlen];refine⟨n,p,_,rfl,V2,hwin,hn,fun r j H3 hj hjn s3 e3=>?_⟩;right;refine⟨j,l,n,r,_,rfl,e3,s3 _ _ (s2 _ _ e1),zP hj,hn,fun p2 H4 hp2 s4 e4=>q p2 H4 (s1.free (s2.free (s3.free hp2))) ((s12.trans s3).trans s4) ?_⟩;rw[e4]
   congr 2
   exact p9 fun i hi=>GY hj hi
end
end
section
variable{K:Fg}{vs:List V}{H:Hp}{Q:VK}{E:XK}
noncomputable def kO(v:List Nat)(as:List IA):List Nat:=bq (v.zip as)
noncomputable def yK(p:Nat×IA):MK:=.inr [.inl (some ((p.1:Nat):Int)),.inl p.2]
theorem E5(a b:Nat×IA)(e:yK a=yK b):a=b:=by
 have h:=N7 e;injection h with h1 h2
 injection h1 with h1
 injection h1 with h1
 injection h2 with h2 _
 injection h2 with h2
 obtain⟨a1,a2⟩:=a;obtain⟨b1,b2⟩:=b;simp only at h1 h2;rw[show a1=b1 by omega,h2]
theorem zR(v:List Nat)(as:List IA):bq ((v.zip as).map yK)=kO v as:=rG (f:=yK) E5 _
noncomputable def si(_:Fg):Sp:=fun vs H Q _=>∃(a b:Addr)(v:List Nat)(ys:List V)(as:List IA),vs=[.ref a,.ref b]/\H a=some (.lst (av v))/\H b=some (.lst ys)/\ys.map iaV=as.map some/\v.length=as.length/\v.length<=100000/\
 ∀p H',H p=none->ap H H'->H' p=some (.lst (av (kO v as)))->Q (.ref p) H'
theorem yL{H:Hp}:∀{ts:List Addr} {v:List Nat} {ys:List V} {as:List IA},qI H ts ((av v).zip ys)->ys.map iaV=as.map some->Paired (cR H) (ts.map V.ref) ((v.zip as).map yK)
 |ts,[],ys,as,h,_=>by
  have e:(av []).zip ys=[]:=rfl;rw[e]at h;cases h;rw[show([]:List Nat).zip as=[]from rfl];exact .nil
 |ts,x::v,[],as,h,e=>by
  have z:(av (x::v)).zip ([]:List V)=[]:=by simp
  rw[z]at h;cases h;have:as=[]:=by
   cases as with
   |nil=>rfl
   |cons _ _=>simp at e
  rw[this];simp only[List.zip_nil_right];exact .nil
 |ts,x::v,y::ys,as,h,e=>by
  cases as with
  |nil=>simp at e
  |cons a as=>
   rw[KL,KL]at e;injection e with e1 e2
   have z:(av (x::v)).zip (y::ys)=(.int (x:Int),y)::(av v).zip ys:=rfl;rw[z]at h;cases h with
   |cons h t=>
    rw[LO,KL,KL];exact .cons ⟨_,_,rfl,h,.cons rfl (.cons e1 .nil)⟩ (yL t e2)
noncomputable def qN(K:Fg):TS:=(aN (aq (eh K) [] E0 (aa (Bz bP bP K (aa (ad 0) (aa (ad 1) ag))) ag)))
theorem E6(h:si K vs H Q E):qN K { nx:=fun _ H'=>Q .non H',rt:=Q } (start ["view","values"] vs) H:=by
 obtain⟨a,b,v,ys,as,rfl,ea,eb,hi,hl,hn,q⟩:=h;show qN K _ [some _,some _] _;unfold qN;right;refine IU ?_;right;refine⟨a,b,av v,ys,rfl,SqL.of ea,SqL.of eb,by rw[bo];omega,fun p H1 hp s1 ⟨ts,e1,pt⟩=>?_⟩;right;refine⟨p,_,_,true,rfl,e1,yL pt hi,?_,by rw[Kk,Of];omega,fun p2 H2 hp2 s2 e2=>?_⟩
 ·intro k hk
  obtain⟨w,_,rfl⟩:=Lr.mp hk;rfl
 ·rw[zR]at e2
  exact q _ _ (s1.free hp2) (s1.trans s2) e2
end
end L2
section
namespace L2
open KF
section
variable{α β γ:Type}[DecidableEq α][DecidableEq β][DecidableEq γ]
theorem qc{ks:List α}{i:Nat}{k:α}(h:ks[i]?=some k):ks[ks.idxOf k]?=some k:=by
 rw[Kj (Py (Ky h)),List.getElem_idxOf]
theorem kP{ks:List α}{i:Nat}{k:α}(h:ks[i]?=some k):(bq ks)[i]?=some (ks.idxOf k):=by unfold bq;rw[Kz,h];rfl
theorem uo{ks:List α}{j:Nat}{k:α}(h:ks[j]?=some k):ks.idxOf k<=j:=by obtain⟨_,_,_,hle⟩:=tR (kP h);exact hle
theorem uq{l:List α}{i:Nat}(h:i<l.length):∃x,l[i]?=some x:=⟨_,Kj h⟩
theorem zT{ks:List α}{ls:List β}(hl:ks.length=ls.length)(h:∀i j,i<ks.length->j<ks.length->(ks[i]?=ks[j]?↔ls[i]?=ls[j]?)):bq ks=bq ls:=by
 refine MN fun i=>?_;by_cases hi:i<ks.length
 ·obtain⟨k,hk⟩:=uq hi
  obtain⟨l,hL⟩:=uq (l:=ls) (i:=i) (by omega);rw[kP hk,kP hL];have a1:=qc hk;have b1:=qc hL;have la:=uo hk;have lb:=uo hL;have e1:ls[ks.idxOf k]?=some l:=by rw[<-hL];exact((h _ _ (by omega) hi).mp (a1.trans hk.symm))
  have e2:ks[ls.idxOf l]?=some k:=by rw[<-hk];exact((h _ _ (by omega) hi).mpr (b1.trans hL.symm))
  have q1:=uo e1;have q2:=uo e2
  congr 1
  omega
 ·rw[K6 (by rw[dC];omega),K6 (by rw[dC];omega)]
theorem DD{ks:List α}{i j:Nat}(hi:i<ks.length)(hj:j<ks.length):(bq ks)[i]?=(bq ks)[j]?↔ks[i]?=ks[j]?:=by
 obtain⟨k,hk⟩:=uq hi;obtain⟨l,hL⟩:=uq hj;rw[kP hk,kP hL,hk,hL];constructor
 ·intro e
  rw[<-qc hk,<-qc hL,KA e]
 ·intro e
  rw[KA e]
theorem rM(ks:List α):bq (bq ks)=bq ks:=zT (dC ks) fun i j hi hj=>by rw[dC]at hi hj;exact DD hi hj
theorem DE{ks:List α}{i m:Nat}(h:(bq ks)[i]?=some m):ks[m]?=ks[i]?/\m<=i/\i<ks.length:=by
 obtain⟨k,hk,rfl,hle⟩:=tR h;exact⟨(qc hk).trans hk.symm,hle,(Kn.mp hk).1⟩
end
end L2
end
namespace L2
open PySem PyProof.Rows
section
open KF
open Classical in
noncomputable def blA(n:Nat)(P:Nat->Prop):List IA:=(KS n).map fun i=>some (if decide (P i)then 1 else 0)
theorem GZ(n:Nat)(P:Nat->Prop):(blA n P).length=n:=by unfold blA;simp
theorem IY(n:Nat)(P:Nat->Prop):(blV n P).map iaV=(blA n P).map some:=by
 unfold blV blA;rw[MW,MW];exact My fun i _=>rfl
open Classical in
theorem qd{α:Type}[DecidableEq α]{ks:List α}{n:Nat}(h:ks.length=n):Within n (bq ks):=⟨by rw[dC,h],fun x hx=>by
 obtain⟨i,hi⟩:=OX.mp hx;obtain⟨_,h1,h2⟩:=DE hi;omega⟩
theorem qe{n:Nat}{v:List Nat}{as:List IA}(hv:Within n v)(hl:as.length=n):Within n (kO v as):=qd (by rw[Of,hv.1,hl,Pa])
theorem DF(v:List Nat)(as:List IA):bq (kO v as)=kO v as:=rM _
noncomputable def lrn(vw:List (List Nat))(g:List Nat)(as:List IA):List (List Nat):=g.foldl (fun w h=>w.set h (kO (w.getD h []) as)) vw
theorem vR(as:List IA):∀(g:List Nat)(vw:List (List Nat)),(lrn vw g as).length=vw.length
 | [],_=>rfl
 |h::g,vw=>by
  show(lrn (vw.set h _) g as).length=_;rw[vR as g,Mw]
theorem E7(vw:List (List Nat))(g:List Nat)(h:Nat)(as:List IA):lrn vw (g++[h]) as=(lrn vw g as).set h (kO ((lrn vw g as).getD h []) as):=by
 unfold lrn;rw[Sb];rfl
theorem qO{as:List IA}{P:List Nat->Prop}(hs:∀v,P v->P (kO v as)):∀(g:List Nat)(vw:List (List Nat)),(∀h∈g,h<vw.length)->(∀v∈vw,P v)->∀v∈lrn vw g as,P v
 | [],_,_,h=>h
 |k::g,vw,hk,h=>by
  show∀v∈lrn (vw.set k _) g as,P v;refine qO hs g _ (fun x hx=>by rw[Mw];exact hk x (Ku _ hx)) fun v hv=>?_;rcases List.mem_or_eq_of_mem_set hv with z|z
  ·exact h v z
  ·rw[z]
   have hl:=hk k Ks;refine hs _ (h _ ?_);rw[KG,Kj hl];exact Nq hl
set_option genInjectivity false in
structure TM where
 c:Nat
 ss:List Nat
 vw:List (List Nat)
 ds:List (List Nat×List V)
noncomputable def TM.ws(T:TM):List (List Nat):=KM.ci (T.ss++[T.c-T.ss.sum]) T.c
noncomputable def TM.n(T:TM):Nat:=T.ws.length
noncomputable def TM.k(T:TM):Nat:=T.ss.length
noncomputable def TM.tr(T:TM)(s:Sy):Nat->Prop:=TR T.n T.ws T.vw s
noncomputable def TM.learn(T:TM)(g:List Nat)(as:List IA)(ys:List V):TM:={ T with vw:=lrn T.vw g as,ds:=T.ds++[(g,ys)] }
noncomputable def TM.word(T:TM)(g:List Nat)(s:Sy):TM:=T.learn g (blA T.n (T.tr s)) (blV T.n (T.tr s))
noncomputable def TM.begun(c:Nat)(ss:List Nat):TM:=⟨c,ss,(KS ss.length).map fun i=>lZ (KM.ci (ss++[c-ss.sum]) c) ((i:Nat):Int),[]⟩
structure TM.Ok(T:TM):Prop where
 pk:pW T.c T.ss
 few:KM.cg T.c T.ss<=2000
 len:T.vw.length=T.k
 win:∀v∈T.vw,Within T.n v
 can:∀v∈T.vw,bq v=v
theorem TM.Ok.n2{T:TM}(h:T.Ok):T.n<=2000:=by
 show(KM.ci _ _).length<=_;rw[KM.j9 h.pk.sum];exact h.few
theorem TM.Ok.cards{T:TM}(h:T.Ok):∀w∈T.ws,w.length=T.c:=fun w hw=>(KM.iw _ T.c w hw).len
theorem TM.Ok.begun{c:Nat}{ss:List Nat}(pk:pW c ss)(few:KM.cg c ss<=2000):(TM.begun c ss).Ok:=⟨pk,few,by show(List.map _ _).length=ss.length;rw[Kk,L6],fun v hv=>by
 obtain⟨i,_,rfl⟩:=Lr.mp hv;exact qd (by rw[Kk];rfl),fun v hv=>by
 obtain⟨i,_,rfl⟩:=Lr.mp hv;exact rM _⟩
theorem TM.Ok.learn{T:TM}(h:T.Ok){g:List Nat}{as:List IA}{ys:List V}(hg:∀x∈g,x<T.k)(hl:as.length=T.n):(T.learn g as ys).Ok:=
 ⟨h.pk,h.few,by show(lrn T.vw g as).length=_;rw[vR];exact h.len,qO (fun v hv=>qe hv hl) g T.vw (by rw[h.len];exact hg) h.win,qO (fun v _=>DF v as) g T.vw (by rw[h.len];exact hg) h.can⟩
end
section
variable{K:Fg}{vs:List V}{H:Hp}{Q:VK}{E:XK}
inductive aL(H:Hp):V->Prop where
 |non:aL H .non
 |bl (b:Bool):aL H (.bl b)
 |int (i:Int):aL H (.int i)
 |str (x:Str):aL H (.str x)
 |tup {a:Addr} {vs:List V} (e:H a=some (.tup vs)) (h:∀v∈vs,aL H v):aL H (.ref a)
 |lst {a:Addr} {vs:List V} (e:H a=some (.lst vs)):aL H (.ref a)
 |dic {a:Addr} {kvs:List (Key×V)} (e:H a=some (.dK kvs)):aL H (.ref a)
theorem aL.same{H H':Hp}(s:ap H H'){v:V}(h:aL H v):aL H' v:=by
 induction h with
 |non=>exact .non
 |bl b=>exact .bl b
 |int i=>exact .int i
 |str x=>exact .str x
 |tup e h ih=>exact .tup (s _ _ e) ih
 |lst e=>exact .lst (s _ _ e)
 |dic e=>exact .dic (s _ _ e)
noncomputable def tyN(H:Hp):V->String
 | .non=>"NoneType" | .bl _=>"bool" | .int _=>"int" | .str _=>"str"
 | .ref a=>(match H a with|some (.tup _)=>"tuple"|some (.lst _)=>"list"|some (.dK _)=>"dict"|_=>"object")
 |_=>"object"
theorem gP{H:Hp}{a:Addr}{vs:List V}(e:H a=some (.tup vs)):tyN H (.ref a)="tuple":=by simp only[tyN,e]
theorem jW{H:Hp}{a:Addr}{vs:List V}(e:H a=some (.lst vs)):tyN H (.ref a)="list":=by simp only[tyN,e]
theorem jh{H:Hp}{a:Addr}{vs:List (Key×V)}(e:H a=some (.dK vs)):tyN H (.ref a)="dict":=by simp only[tyN,e]
theorem aL.ty(K:Fg){H:Hp}{v:V}(h:aL H v):fo K H v (.type (tyN H v)):=by
 cases h with
 |non=>exact .non
 |bl b=>exact .bl b
 |int i=>exact .int i
 |str x=>exact .str x
 |tup e h=>rw[gP e];exact .tup e
 |lst e=>rw[jW e];exact .lst e
 |dic e=>rw[jh e];exact .dK e
theorem aL.tn{H:Hp}{v:V}(h:aL H v):tyN H v∈ma:=by
 cases h with
 |non=>show "NoneType"∈ma;decide
 |bl b=>show "bool"∈ma;decide
 |int i=>show "int"∈ma;decide
 |str x=>show "str"∈ma;decide
 |tup e h=>rw[gP e];decide
 |lst e=>rw[jW e];decide
 |dic e=>rw[jh e];decide
theorem ur{K:Fg}{H:Hp}{Q:VK}{v:V}{T:String}(k:aL H v)(hT:T∈vO)(h:Q (.bl (lg (tyN H v) T)) H):mW K [v,.ty T] H Q:=F4 (k.ty K) (vP K _ k.tn T hT) h
theorem aL.plain{K:Fg}{H:Hp}{v:V}(h:aL H v):fF K H v:=by
 refine⟨.type (tyN H v),lg (tyN H v) "int",lg (tyN H v) "bool",h.ty K,vP K _ h.tn _ (by decide),vP K _ h.tn _ (by decide),?_⟩;cases h with
 |non=>rfl
 |bl b=>rfl
 |int i=>rfl
 |str x=>rfl
 |tup e h=>rw[gP e];rfl
 |lst e=>rw[jW e];rfl
 |dic e=>rw[jh e];rfl
noncomputable def cG(h:Int):Int->List V->Bool
 |_,[]=>true
 |lo,.int i::r=>aJ (.int i) lo (h-1)&&cG h (i+1) r
 |_,_::_=>false
noncomputable def cV(H:Hp)(h:Int):V->Bool
 | .ref a=>(match H a with|some (.tup vs)=>cG h 0 vs|_=>false)
 |_=>false
noncomputable def dJ(c h:Int)(H:Hp)(place:Str)(v:V):Bool:=
 if place="holder" then aJ v 0 h else if place="card" then aJ v 0 (c-1)else if place="hand" then aJ v 0 (h-1)else if place="hands" then cV H h v else true
noncomputable def sj:List (Str×List Str):=[("holds",["holder","card"]),("not",["saying"]),("and",["saying","saying"]),("or",["saying","saying"]),("knows",["hand","saying"]),("all",["hands","saying"]),("common",["hands","saying"]),("sees",["hand"])]
noncomputable def b9(w:Str):Option (List Str):=sj.lookup w
noncomputable def cx(c h:Int)(H:Hp):List V->Bool
 | .str w::items=>(match b9 w with|some aO=>decide (items.length=aO.length)&&(aO.zip items).all (fun p=>dJ c h H p.1 p.2)|none=>false)
 |_=>false
noncomputable def cj(c h:Int)(H:Hp):V->Bool
 | .ref a=>(match H a with|some (.tup vs)=>cx c h H vs|_=>false)
 |_=>false
theorem cr{c h:Int}{H:Hp}{a:Addr}{vs:List V}(e:H a=some (.tup vs)):cj c h H (.ref a)=cx c h H vs:=by simp only[cj,e]
theorem fH{h:Int}{H:Hp}{a:Addr}{vs:List V}(e:H a=some (.tup vs)):cV H h (.ref a)=cG h 0 vs:=by simp only[cV,e]
noncomputable def em:List V->List V
 | .str w::items=>(match b9 w with|some aO=>p8 aO items|none=>[])
 |_=>[]
noncomputable def bL(H:Hp):V->List V
 | .ref a=>(match H a with|some (.tup vs)=>em vs|_=>[])
 |_=>[]
theorem b8{H:Hp}{a:Addr}{vs:List V}(e:H a=some (.tup vs)):bL H (.ref a)=em vs:=by simp only[bL,e]
theorem rN{H H':Hp}(s:ap H H'){v:V}(k:aL H v)(h:Int):cV H' h v=cV H h v:=by
 cases k with
 |tup e _=>rw[fH e,fH (s _ _ e)]
 |lst e=>simp only[cV,e,s _ _ e]
 |dic e=>simp only[cV,e,s _ _ e]
 |_=>rfl
theorem wP{H H':Hp}(s:ap H H'){v:V}(k:aL H v)(c h:Int)(p:Str):dJ c h H' p v=dJ c h H p v:=by unfold dJ;rw[rN s k]
theorem vS{α β:Type}:∀{l:List α} {m:List β} {p:α×β},p∈l.zip m->p.2∈m
 | [],_,_,h=>by simp at h
 |_::_,[],_,h=>by simp at h
 |a::l,b::m,p,h=>by
  rw[LO]at h;rcases Kq.mp h with rfl|h
  ·exact Ks
  ·exact Ku _ (vS h)
theorem BE{α:Type}{l:List α}{f g:α->Bool}(h:∀x∈l,f x=g x):l.all f=l.all g:=by
 induction l with
 |nil=>rfl
 |cons a r ih=>rw[Lw,Lw,h a Ks,ih fun x hx=>h x (Ku _ hx)]
theorem BF{H H':Hp}(s:ap H H'){vs:List V}(k:∀v∈vs,aL H v)(c h:Int):cx c h H' vs=cx c h H vs:=by
 cases vs with
 |nil=>rfl
 |cons x items=>
  cases x with
  |str w=>
   show(match b9 w with|some aO=>decide (items.length=aO.length)&&(aO.zip items).all (fun p=>dJ c h H' p.1 p.2)|none=>false)=(match b9 w with|some aO=>decide (items.length=aO.length)&&(aO.zip items).all (fun p=>dJ c h H p.1 p.2)|none=>false);cases b9 w with
   |none=>rfl
   |some aO=>
    show(decide (items.length=aO.length)&&(aO.zip items).all (fun p=>dJ c h H' p.1 p.2))=(decide (items.length=aO.length)&&(aO.zip items).all (fun p=>dJ c h H p.1 p.2));rw[BE fun p hp=>wP s (k p.2 (Ku _ (vS hp))) c h p.1]
  |_=>rfl
theorem js{H H':Hp}(s:ap H H'){v:V}(k:aL H v)(c h:Int):cj c h H' v=cj c h H v:=by
 cases k with
 |tup e k=>rw[cr e,cr (s _ _ e),BF s k]
 |lst e=>simp only[cj,e,s _ _ e]
 |dic e=>simp only[cj,e,s _ _ e]
 |_=>rfl
theorem m8{H H':Hp}(s:ap H H'){v:V}(k:aL H v):bL H' v=bL H v:=by
 cases k with
 |tup e k=>rw[b8 e,b8 (s _ _ e)]
 |lst e=>simp only[bL,e,s _ _ e]
 |dic e=>simp only[bL,e,s _ _ e]
 |_=>rfl
theorem yM{c h:Int}{H:Hp}{v:V}(w:cj c h H v=true):∃a x items aO,v=.ref a/\H a=some (.tup (.str x::items))/\b9 x=some aO/\items.length=aO.length:=by
 cases v with
 |ref a=>
  cases e:H a with
  |none=>simp[cj,e]at w
  |some o=>
   cases o with
   |tup vs=>
    rw[cr e]at w;cases vs with
    |nil=>cases w
    |cons x items=>
     cases x with
     |str x=>
      cases ef:b9 x with
      |none=>simp[cx,ef]at w
      |some aO=>
       simp only[cx,ef,LI]at w;exact⟨a,x,items,aO,rfl,e,ef,of_decide_eq_true w.1⟩
     |_=>cases w
   |_=>simp[cj,e]at w
 |_=>cases w
theorem ut(G:Glo)(x:Str):G.kvs.lookup x=none/\b9 x=none\/∃f aO,G.kvs.lookup x=some (.ref f)/\b9 x=some aO/\∀K:Fg,xN K G->kZ K f (aO.map V.str):=by
 unfold b9 sj Glo.kvs;simp only[JI];have lookF:∀{y z:Str} {v:List Str} {r:List (Str×List Str)},((y,v)::r).lookup z=if z=y then some v else r.lookup z:=by
  intro y z v r;rw[Ld];by_cases h:z=y
  ·rw[if_pos h,show(z==y)=true from beq_iff_eq.mpr h]
  ·rw[if_neg h,show(z==y)=false from beq_eq_false_iff_ne.mpr h]
 simp only[lookF];by_cases h1:x="holds"
 ·rw[if_pos h1,if_pos h1];exact .inr ⟨_,_,rfl,rfl,fun K g=>g.t1⟩
 rw[if_neg h1,if_neg h1];by_cases h2:x="not"
 ·rw[if_pos h2,if_pos h2];exact .inr ⟨_,_,rfl,rfl,fun K g=>g.t2⟩
 rw[if_neg h2,if_neg h2];by_cases h3:x="and"
 ·rw[if_pos h3,if_pos h3];exact .inr ⟨_,_,rfl,rfl,fun K g=>g.t3⟩
 rw[if_neg h3,if_neg h3];by_cases h4:x="or"
 ·rw[if_pos h4,if_pos h4];exact .inr ⟨_,_,rfl,rfl,fun K g=>g.t4⟩
 rw[if_neg h4,if_neg h4];by_cases h5:x="knows"
 ·rw[if_pos h5,if_pos h5];exact .inr ⟨_,_,rfl,rfl,fun K g=>g.t5⟩
 rw[if_neg h5,if_neg h5];by_cases h6:x="all"
 ·rw[if_pos h6,if_pos h6];exact .inr ⟨_,_,rfl,rfl,fun K g=>g.t6⟩
 rw[if_neg h6,if_neg h6];by_cases h7:x="common"
 ·rw[if_pos h7,if_pos h7];exact .inr ⟨_,_,rfl,rfl,fun K g=>g.t7⟩
 rw[if_neg h7,if_neg h7];by_cases h8:x="sees"
 ·rw[if_pos h8,if_pos h8];exact .inr ⟨_,_,rfl,rfl,fun K g=>g.t8⟩
 rw[if_neg h8,if_neg h8];exact .inl ⟨rfl,rfl⟩
theorem jX{w:Str}{aO:List Str}(h:b9 w=some aO):aO.length<=2:=by
 have key:∀(l:List (Str×List Str)),(∀p∈l,p.2.length<=2)->l.lookup w=some aO->aO.length<=2:=by
  intro l
  induction l with
  |nil=>intro _ h;cases h
  |cons a r ih=>
   intro ha h;obtain⟨x,v⟩:=a;rw[Ld]at h;cases e:(w==x)with
   |true=>rw[e]at h;cases h;exact ha _ Ks
   |false=>rw[e]at h;exact ih (fun p hp=>ha p (Ku _ hp)) h
 exact key sj (by decide+kernel) h
theorem E8{H:Hp}{Q:VK}{kvs:List (Str×V)}{a:Addr}{k:Str}(e:kvs.lookup k=none)(h:Q (.bl true) H):tP kvs a true (.str k) (.ref a) H Q:=⟨rfl,k,rfl,by rw[e];exact h⟩
theorem DG{H:Hp}{Q:VK}{kvs:List (Str×V)}{a:Addr}{k:Str}{v:V}(e:kvs.lookup k=some v)(h:Q (.bl false) H):tP kvs a true (.str k) (.ref a) H Q:=⟨rfl,k,rfl,by rw[e];exact h⟩
noncomputable def bu(_:Fg):Sp:=fun vs H Q _=>∃(x:V)(b:Int),vs=[x,.int b]/\aL H x/\Q (.bl (aJ x 0 (b-1))) H
noncomputable def lw(K:Fg):TS:=(aN (aq (dH K) [] E0 (aa (ad 0) (aa (tC (.int 0)) (aa (tOp (rI0 fun i j=>.int (i-j)) (ad 1) (tC (.int 1))) ag)))))
theorem zU(h:bu K vs H Q E):lw K { nx:=fun _ H'=>Q .non H',rt:=Q } (start ["thing","bound"] vs) H:=by
 obtain⟨x,b,rfl,k,q⟩:=h;show lw K _ [some _,some _] _;unfold lw;right;exact⟨x,0,b-1,rfl,k.plain,q⟩
noncomputable def fv(_:Fg):Sp:=fun vs H Q _=>∃(x:V)(h:Int),vs=[x,.int h]/\aL H x/\Q (.bl (cV H h x)) H
noncomputable def kh(K:Fg):TS:=(ar (bD (fY (tB (tCB (mW K) (aa (ad 0) (aa (tC (.ty "tuple")) ag))))) (aN (tC (.bl false))) bv)
 (ar (aK (tC (.int 0)) (ao 2))
 (ar (eX (xZ K (ad 0)) (ao 3) (ar (bD (fY (tB (aq (dH K) [] E0 (aa (ad 3) (aa (ad 2) (aa (tOp (rI0 fun i j=>.int (i-j)) (ad 1) (tC (.int 1))) ag)))))) (aN (tC (.bl false))) bv)
 (aK (tOp (rI0 fun i j=>.int (i+j)) (ad 3) (tC (.int 1))) (ao 2))))
 (aN (tC (.bl true))))))
theorem E9{H:Hp}{x:V}{h:Int}(k:aL H x)(n:lg (tyN H x) "tuple"=false):cV H h x=false:=by
 cases k with
 |tup e _=>rw[gP e]at n;cases n
 |lst e=>simp only[cV,e]
 |dic e=>simp only[cV,e]
 |_=>rfl
theorem AB{H:Hp}{x:V}(k:aL H x)(n:lg (tyN H x) "tuple"=true):∃a vs,x=.ref a/\H a=some (.tup vs)/\∀v∈vs,aL H v:=by
 cases k with
 |tup e h=>exact⟨_,_,rfl,e,h⟩
 |lst e=>rw[jW e]at n;cases n
 |dic e=>rw[jh e]at n;cases n
 |_=>cases n
theorem yN(h:fv K vs H Q E):kh K { nx:=fun _ H'=>Q .non H',rt:=Q } (start ["thing","hands","least","hand"] vs) H:=by
 obtain⟨x,h,rfl,k,q⟩:=h;show kh K _ [some _,some _,none,none] _;unfold kh;right;refine ur k (by decide) ?_;right;refine pQ (fun n=>?_) (fun n=>?_)
 ·right
  rw[E9 k n]at q;exact q
 ·obtain⟨a,vs,rfl,e,kv⟩:=AB k n
  rw[fH e]at q;right;refine C9 vs (SqT.of e) (fun i σ H2=>∃(lo:Int)(st:Option V),σ=[some (.ref a),some (.int h),some (.int lo),st]/\H2=H/\cG h lo (vs.drop i)=cG h 0 vs) ⟨0,none,rfl,rfl,rfl⟩ (fun i σ H2 _ ⟨_,_,_,eH,_⟩=>by subst eH;exact SqT.of e) ?_ ?_
  ·rintro i y σ H2 hy ⟨lo,st,rfl,rfl,hr⟩
   have hd:vs.drop i=y::vs.drop (i+1):=by
    obtain⟨h1,h2⟩:=Kn.mp hy;rw[P5 h1,h2]
   rw[hd]at hr;have ky:=kv y (Ky hy);right;refine⟨y,lo,h-1,rfl,ky.plain,?_⟩;right;refine pQ (fun n=>?_) (fun n=>?_)
   ·right
    have z:cG h lo (y::vs.drop (i+1))=false:=by
     cases y with
     |int j=>rw[cG,n,Nh]
     |_=>rfl
    rw[<-hr,z]at q;exact q
   ·cases y with
    |int j=>
     rw[cG,n,LP]at hr;right;exact⟨_,_,rfl,rfl,hr⟩
    |_=>cases n
  ·rintro σ H2 ⟨lo,st,rfl,rfl,hr⟩
   rw[SI]at hr;right;rw[<-hr]at q;exact q
noncomputable def vT(_:Fg):Sp:=fun vs H Q _=>∃(c h:Int)(p:Str)(x:V),vs=[.int c,.int h,.str p,x]/\aL H x/\Q (.bl (dJ c h H p x)) H
noncomputable def uu(K:Fg):TS:=(ar (bD (br (tOp rEq (ad 2) (tC (.str "holder")))) (aN (aq (bu K) [] E0 (aa (ad 3) (aa (tOp (rI0 fun i j=>.int (i+j)) (ad 1) (tC (.int 1))) ag)))) bv)
 (ar (bD (br (tOp rEq (ad 2) (tC (.str "card")))) (aN (aq (bu K) [] E0 (aa (ad 3) (aa (ad 0) ag)))) bv)
 (ar (bD (br (tOp rEq (ad 2) (tC (.str "hand")))) (aN (aq (bu K) [] E0 (aa (ad 3) (aa (ad 1) ag)))) bv)
 (ar (bD (br (tOp rEq (ad 2) (tC (.str "hands")))) (aN (aq (fv K) [] E0 (aa (ad 3) (aa (ad 1) ag)))) bv)
 (aN (tC (.bl true)))))))
theorem G0(h:vT K vs H Q E):uu K { nx:=fun _ H'=>Q .non H',rt:=Q } (start ["cards","hands","place","part"] vs) H:=by
 obtain⟨c,h,p,x,rfl,k,q⟩:=h;show uu K _ [some _,some _,some _,some _] _;unfold uu;unfold dJ at q;right;refine bN (fun n=>?_) (fun n=>?_)
 ·rw[if_pos n]at q
  right;exact⟨x,h+1,rfl,k,by rw[show h+1-1=h by omega];exact q⟩
 rw[if_neg n]at q;right;refine bN (fun n=>?_) (fun n=>?_)
 ·rw[if_pos n]at q
  right;exact⟨x,c,rfl,k,q⟩
 rw[if_neg n]at q;right;refine bN (fun n=>?_) (fun n=>?_)
 ·rw[if_pos n]at q
  right;exact⟨x,h,rfl,k,q⟩
 rw[if_neg n]at q;right;refine bN (fun n=>?_) (fun n=>?_)
 ·rw[if_pos n]at q
  right;exact⟨x,h,rfl,k,q⟩
 rw[if_neg n]at q;right;exact q
noncomputable def oK(_:Fg):Sp:=fun vs H Q _=>∃(c h:Int)(x:V),vs=[.int c,.int h,x]/\aL H x/\∀H',ap H H'->Q (.bl (cj c h H x)) H'
noncomputable def mM(K:Fg)(G:Glo):TS:=(ar (bD (tOr (fY (tB (tCB (mW K) (aa (ad 2) (aa (tC (.ty "tuple")) ag))))) (br (tOp rEq (tCB (dP K) (aa (ad 2) ag)) (tC (.int 0))))) (aN (tC (.bl false))) bv)
 (ar (bD (tOr (fY (tB (tCB (mW K) (aa (tOp (eY K) (ad 2) (tC (.int 0))) (aa (tC (.ty "str")) ag))))) (br (tOp (tP G.kvs G.forms true) (tOp (eY K) (ad 2) (tC (.int 0))) (tC (.ref G.forms))))) (aN (tC (.bl false))) bv)
 (ar (aK (tOp (Bk G.kvs G.forms) (tC (.ref G.forms)) (tOp (eY K) (ad 2) (tC (.int 0)))) (ao 3))
 (ar (bD (br (tOp rNe (tCB (dP K) (aa (ad 2) ag)) (tOp (rI0 fun i j=>.int (i+j)) (tC (.int 1)) (tCB (dP K) (aa (ad 3) ag))))) (aN (tC (.bl false))) bv)
 (aN (tCB (Bg K) (aa (cc (pN iX iX K (aa (ad 3) (aa (tSl (Bj K) (ad 2) (xJ (tC (.int 1))) qA) ag))) (fun _ _ _ _=>(ik K 2 (bx (ao 0) (bx (ao 1) ij)))) (fun _ _ _ _=>bM) (fun _ _ _ _=>(aq (vT K) [] E0 (aa (ad 2) (aa (ad 3) (aa (ad 0) (aa (ad 1) ag)))))) [none,none,some 0,some 1]) ag)))))))
theorem G1{H:Hp}{x:V}{c h:Int}(k:aL H x)(n:lg (tyN H x) "tuple"=false):cj c h H x=false:=by
 cases k with
 |tup e _=>rw[gP e]at n;cases n
 |lst e=>simp only[cj,e]
 |dic e=>simp only[cj,e]
 |_=>rfl
theorem G2{H:Hp}{x:V}(k:aL H x)(n:lg (tyN H x) "str"=true):∃w,x=.str w:=by
 cases k with
 |tup e h=>rw[gP e]at n;cases n
 |lst e=>rw[jW e]at n;cases n
 |dic e=>rw[jh e]at n;cases n
 |str w=>exact⟨w,rfl⟩
 |_=>cases n
theorem Fa{c h:Int}{H:Hp}{x:V}{items:List V}(k:aL H x)(n:lg (tyN H x) "str"=false):cx c h H (x::items)=false:=by
 cases k with
 |str w=>cases n
 |_=>rfl
theorem BG{K:Fg}{G:Glo}(g:xN K G){vs:List V}{H:Hp}{Q:VK}{E:XK}(h:oK K vs H Q E):mM K G { nx:=fun _ H'=>Q .non H',rt:=Q } (start ["cards","hands","thing","form"] vs) H:=by
 obtain⟨c,h,x,rfl,k,q⟩:=h;show mM K G _ [some _,some _,some _,none] _;unfold mM;right;refine ur k (by decide) ?_;right;refine pQ (fun n=>?_) (fun n=>?_)
 ·right
  have:=q H (ap.refl H);rw[G1 k n]at this;exact this
 obtain⟨a,vs,rfl,e,kv⟩:=AB k n;rw[cr e]at q;right;cases vs with
 |nil=>
  refine jg rfl ?_;right;exact q H (ap.refl H)
 |cons y items=>
  refine bC (by show¬(((items.length+1:Nat):Int)=0);omega) ?_;right;refine bS (SqT.of e) (qJ _ _) ?_;right;have ky:=kv y Ks;refine ur ky (by decide) ?_;right;refine pQ (fun n=>?_) (fun n=>?_)
  ·right
   have:=q H (ap.refl H);rw[Fa ky n]at this;exact this
  obtain⟨w,rfl⟩:=G2 ky n;right;refine bS (SqT.of e) (qJ _ _) ?_;right;rcases ut G w with⟨l1,l2⟩|⟨f,aO,l1,l2,tf⟩
  ·refine E8 l1 ?_
   right;have:=q H (ap.refl H);rw[show cx c h H (.str w::items)=false by simp only[cx,l2]]at this;exact this
  have et:cx c h H (.str w::items)=(decide (items.length=aO.length)&&(aO.zip items).all (fun p=>dJ c h H p.1 p.2)):=by simp only[cx,l2]
  rw[et]at q;have tf':=tf K g;refine DG l1 ?_;right;refine bS (SqT.of e) (qJ _ _) ?_;refine F6 l1 ?_;right;refine Av (tf'.sq _) ?_;right;rw[Kk];refine yp (fun n=>?_) (fun n=>?_)
  ·right
   have n':¬items.length=aO.length:=fun z=>n (by show((items.length+1:Nat):Int)=1+((aO.length:Nat):Int);omega);have:=q H (ap.refl H);rw[decide_eq_false n',Nh]at this;exact this
  have n':items.length=aO.length:=by
   have:((items.length+1:Nat):Int)=1+((aO.length:Nat):Int):=n;omega
  rw[decide_eq_true n',LP]at q;right;refine F5 (SqT.of e) (rF _ _) fun b H1 hb s1 e1=>?_;rw[yt]at e1;right;have hfl:aO.length<=1000:=by
   have:=jX l2;omega
  refine pS (S1:=iX) (S2:=iX) (aO.map V.str) items (tf'.sq _) (SqT.of e1) (fun H' _=>tf'.sq _) (fun H' s'=>SqT.of (s' _ _ e1)) (by rw[Kk];omega) (fun i acc _=>acc=(((aO.zip items).take i).map fun p=>dJ c h H p.1 p.2).map V.bl) (fun _ _=>rfl) ?_ ?_
  ·rintro p hp C s' H' fp i x y T acc H2 H3 hx hy ⟨s2,e2,l2',r2⟩ hT s3 e3 e4
   obtain⟨z,hz,rfl⟩:∃z,aO[i]?=some z/\x=.str z:=by
    rw[Kz]at hx;cases e:aO[i]? with
    |none=>rw[e]at hx;cases hx
    |some z=>rw[e]at hx;exact⟨z,rfl,(KA hx).symm⟩
   subst r2;refine iq (SqT.of e3) ?_;right;have ki:=(kv y (Ku _ (Ky hy)));have s13:=(s1.trans s2).trans s3;refine⟨c,h,z,y,rfl,ki.same s13,?_⟩;rw[wP s13 ki];refine bJ.put hp (fun _ _ _ _ r _=>r) (s2.trans s3) e4 l2' ?_;have ez:(aO.zip items)[i]?=some (z,y):=by rw[Nc];exact⟨hz,hy⟩
   rw[LJ,ez,KU,KU];rfl
  ·intro p acc H2 hp s2 e2 r2
   have el:(aO.zip items).take (min (aO.map V.str).length items.length)=aO.zip items:=by
    rw[OL];rw[Of,Kk];exact Km _
   rw[el]at r2;subst r2;right;refine⟨p,_,rfl,SqL.of e2,?_⟩;rw[MV];exact q _ (s1.trans s2)
noncomputable def m9(_:Fg):Sp:=fun vs H Q _=>∃(c h:Int)(v:V),vs=[v]/\aL H v/\cj c h H v=true/\∀(p:Addr)(H':Hp),ap H H'->H p=none->H' p=some (.lst (bL H v))->Q (.ref p) H'
noncomputable def lx(K:Fg)(G:Glo):TS:=(ar (aK (tOp (Bk G.kvs G.forms) (tC (.ref G.forms)) (tOp (eY K) (ad 0) (tC (.int 0)))) (ao 1))
 (aN (cc (pN iX iX K (aa (ad 1) (aa (tSl (Bj K) (ad 0) (xJ (tC (.int 1))) qA) ag))) (fun _ _ _ _=>(ik K 2 (bx (ao 0) (bx (ao 1) ij)))) (fun _ _ _ _=>(br (tOp rEq (ad 0) (tC (.str "saying"))))) (fun _ _ _ _=>(ad 1)) [none,none])))
theorem zV{K:Fg}{G:Glo}(g:xN K G){vs:List V}{H:Hp}{Q:VK}{E:XK}(h:m9 K vs H Q E):lx K G { nx:=fun _ H'=>Q .non H',rt:=Q } (start ["saying","form"] vs) H:=by
 obtain⟨c,h,v,rfl,k,hw,q⟩:=h;obtain⟨a,w,items,aO,rfl,e,ef,hl⟩:=yM hw;rcases ut G w with⟨l1,l2⟩|⟨f,form',l1,l2,tf⟩
 ·rw[ef]at l2
  cases l2
 rw[ef]at l2;cases l2;have tf':=tf K g;have hfl:=jX ef;have ep:bL H (.ref a)=p8 aO items:=by rw[b8 e];simp only[em,ef]
 rw[ep]at q;show lx K G _ [some _,none] _;unfold lx;right;refine bS (SqT.of e) (qJ _ _) ?_;refine F6 l1 ?_;right;refine F5 (SqT.of e) (rF _ _) fun b H1 hb s1 e1=>?_;rw[yt]at e1;right;have hml:min (aO.map V.str).length items.length=aO.length:=by rw[Kk,hl];omega
 refine pS (S1:=iX) (S2:=iX) (aO.map V.str) items (tf'.sq _) (SqT.of e1) (fun H' _=>tf'.sq _) (fun H' s'=>SqT.of (s' _ _ e1)) (by rw[Kk];omega) (fun i acc _=>acc=p8 (aO.take i) (items.take i)) (fun _ _=>rfl) ?_ ?_
 ·intro p hp' C s' H' fp i x y T acc H2 H3 hx hy ⟨s2,e2,l2,r2⟩ hT s3 e3 e4
  obtain⟨z,hz,rfl⟩:∃z,aO[i]?=some z/\x=.str z:=by
   rw[Kz]at hx;cases e:aO[i]? with
   |none=>rw[e]at hx;cases hx
   |some z=>rw[e]at hx;exact⟨z,rfl,(KA hx).symm⟩
  have pt:=Dy aO items i z y hz hy;subst r2;refine iq (SqT.of e3) ?_;right;refine bN (fun c=>?_) (fun c=>?_)
  ·right
   rw[if_pos c]at pt;exact bJ.put hp' (fun _ _ _ _ r _=>r) (s2.trans s3) e4 l2 pt.symm
  ·rw[if_neg c,MI]at pt
   exact bJ.skip (s2.trans s3) e4 l2 pt.symm
 ·intro p acc H2 hp' s2 e2 r2
  rw[hml,<-hl,Le,hl,Le]at r2;subst r2;exact q p H2 (s1.trans s2) (s1.free hp') e2
theorem qf{H:Hp}{v:V}(k:aL H v):∀p∈bL H v,aL H p:=by
 intro p hp;cases k with
 |tup e kv=>
  rw[b8 e]at hp;rename_i vs;cases vs with
  |nil=>cases hp
  |cons x items=>
   cases x with
   |str w=>
    cases ef:b9 w with
    |none=>simp[em,ef]at hp
    |some aO=>
     simp only[em,ef]at hp;obtain⟨z,hz,rfl⟩:=Lr.mp hp;exact kv _ (Ku _ (vS (Mh.mp hz).1))
   |_=>cases hp
 |lst e=>simp[bL,e]at hp
 |dic e=>simp[bL,e]at hp
 |_=>cases hp
theorem uv{c h:Int}{H:Hp}{v:V}(w:cj c h H v=true):(bL H v).length<=2:=by
 obtain⟨a,w,items,aO,rfl,e,ef,hl⟩:=yM w;rw[b8 e];simp only[em,ef];exact K4 (E2 _ _) (jX ef)
noncomputable def ju(_:Fg):Sp:=fun vs H Q _=>∃(c h:Int)(l:Addr)(xs:List V),vs=[.ref l]/\H l=some (.lst xs)/\xs.length<=100/\(∀x∈xs,aL H x/\cj c h H x=true)/\∀(p:Addr)(H':Hp),ap H H'->H p=none->H' p=some (.lst (xs.flatMap (bL H)))->Q (.ref p) H'
noncomputable def gQ(K:Fg):TS:=(ar (aK (bQ ag) (ao 1))
 (ar (eX (cX K (ad 0)) (ao 2) (bR (tBM K "list" vG (ad 1) (aa (aq (m9 K) [] E0 (aa (ad 2) ag)) ag))))
 (aN (ad 1))))
theorem sk{H:Hp}{c h:Int}:∀{xs:List V},(∀x∈xs,aL H x/\cj c h H x=true)->(xs.flatMap (bL H)).length<=2*xs.length
 | [],_=>Km _
 |x::r,hx=>by
  rw[OG,KP,KQ];have:=sk (xs:=r) fun y hy=>hx y (Ku _ hy);have:=uv (hx x Ks).2;omega
theorem uw(h:ju K vs H Q E):gQ K { nx:=fun _ H'=>Q .non H',rt:=Q } (start ["sayings","parts","saying"] vs) H:=by
 obtain⟨c,h,l,xs,rfl,hl,h100,hx,q⟩:=h;show gQ K _ [some _,none,none] _;unfold gQ;right;refine⟨by simp[Kl],fun p H1 hp s1 e1=>?_⟩;right;refine nH xs (SqL.of (s1 _ _ hl)) (fun i σ H2=>∃st,σ=[some (.ref l),some (.ref p),st]/\ap H H2/\H2 p=some (.lst ((xs.take i).flatMap (bL H)))) ⟨none,rfl,s1,e1⟩ (fun i σ H2 _ ⟨_,_,s2,_⟩=>SqL.of (s2 _ _ hl)) ?_ ?_
 ·rintro i x σ H2 hxi ⟨st,rfl,s2,e2⟩
  obtain⟨kx,wx⟩:=hx x (Ky hxi);right;refine⟨Bc e2,?_⟩;right;refine⟨c,h,x,rfl,kx.same s2,by rw[js s2 kx];exact wx,fun r H3 s3 hr e3=>?_⟩;rw[m8 s2 kx]at e3;right;have hle:((xs.take i).flatMap (bL H)).length<=200:=by
   have:=sk (xs:=xs.take i) fun y hy=>hx y (Re hy);rw[Mn]at this;omega
  have hl2:=uv wx;refine EH (s3 _ _ e2) e3 (by rw[Kl];omega) fun H4 o4 e4=>?_;refine⟨_,rfl,(s2.trans s3).off hp o4,?_⟩;rw[e4,LJ,hxi,Ph];simp
 ·rintro σ H2 ⟨st,rfl,s2,e2⟩
  rw[Le]at e2;right;exact q p H2 s2 hp e2
inductive io(c h:Int)(H:Hp):V->Nat->Prop where
 |mk {v:V} {ns:List Nat} (w:cj c h H v=true) (p:Paired (io c h H) (bL H v) ns):io c h H v (1+ns.sum)
inductive Bad(c h:Int)(H:Hp):V->Prop where
 |top {v:V} (w:cj c h H v=false):Bad c h H v
 |part {v p:V} (w:cj c h H v=true) (m:p∈bL H v) (b:Bad c h H p):Bad c h H v
theorem Bad.same{c h:Int}{H H':Hp}(s:ap H H'){v:V}(b:Bad c h H v)(k:aL H v):Bad c h H' v:=by
 induction b with
 |top w=>exact .top (by rw[js s k];exact w)
 |part w m b ih=>exact .part (by rw[js s k];exact w) (by rw[m8 s k];exact m) (ih (qf k _ m))
theorem io.word{c h:Int}{H:Hp}{v:V}{n:Nat}(s:io c h H v n):cj c h H v=true:=by cases s with|mk w p=>exact w
theorem io.pos{c h:Int}{H:Hp}{v:V}{n:Nat}(s:io c h H v n):1<=n:=by cases s with|mk w p=>omega
theorem wQ{c h:Int}{H:Hp}:∀{xs:List V} {ns:List Nat},Paired (io c h H) xs ns->xs.length<=ns.sum
 |_,_,.nil=>Km _
 |_,_,.cons r t=>by
  have:=r.pos;have:=wQ t;rw[KQ,K0];omega
theorem ng{c h:Int}{H:Hp}:∀{xs:List V} {ns:List Nat},Paired (io c h H) xs ns->∃ms,Paired (io c h H) (xs.flatMap (bL H)) ms/\xs.length+ms.sum=ns.sum
 |_,_,.nil=>⟨[],.nil,rfl⟩
 |_,_,.cons (a:=x) r t=>by
  obtain⟨ms,p,e⟩:=ng t;cases r with
  |mk w q=>
   rename_i ks;refine⟨ks++ms,oA q p,?_⟩;rw[KQ,L9,K0];omega
noncomputable def fw(_:Fg):Sp:=fun vs H Q _=>∃(c h:Int)(v:V)(b:Bool),vs=[.int c,.int h,v]/\aL H v/\((b=true/\∃n,n<=30/\io c h H v n)\/(b=false/\(Bad c h H v\/∃n,30<n/\io c h H v n)))/\∀H',ap H H'->Q (.bl b) H'
noncomputable def kj(K:Fg):TS:=(ar (bD (tOr (fY (tB (aq (iy K) [] E0 (aa (ad 0) ag)))) (fY (tB (aq (iy K) [] E0 (aa (ad 1) ag))))) (aN (tC (.bl false))) bv)
 (ar (aK (tC (.int 0)) (ao 3))
 (ar (aK (bQ (aa (ad 2) ag)) (ao 4))
 (ar (nA (br (tOp (rI0 fun i j=>.bl (decide (j<i))) (tCB (dP K) (aa (ad 4) ag)) (tC (.int 0)))) (ar (aK (tOp (rI0 fun i j=>.int (i+j)) (ad 3) (tCB (dP K) (aa (ad 4) ag))) (ao 3))
 (ar (bD (tOr (br (tOp (rI0 fun i j=>.bl (decide (j<i))) (ad 3) (tC (.int 30)))) (fY (tB (tCB (Bg K) (aa (cc (cX K (ad 4)) (fun _ _ _ _=>(ao 0)) (fun _ _ _ _=>bM) (fun _ _ _ _=>(aq (oK K) [] E0 (aa (ad 1) (aa (ad 2) (aa (ad 0) ag))))) [none,some 0,some 1]) ag))))) (aN (tC (.bl false))) bv)
 (aK (aq (ju K) [] E0 (aa (ad 4) ag)) (ao 4)))))
 (aN (tC (.bl true)))))))
theorem yO(h:fw K vs H Q E):kj K { nx:=fun _ H'=>Q .non H',rt:=Q } (start ["cards","hands","thing","words","level"] vs) H:=by
 obtain⟨c,h,v,b,rfl,k,hb,q⟩:=h;show kj K _ [some _,some _,some _,none,none] _;unfold kj;right;refine⟨_,rfl,fF.int _,?_⟩;right;refine Bd ?_;right;refine⟨_,rfl,fF.int _,?_⟩;right;refine Bd ?_;right;refine⟨by simp[Kl],fun p H1 hp s1 e1=>?_⟩;refine C7 ?_;dsimp only[RQ,RS];refine bB ?_;refine Bf (fun m σ H2=>∃(W:Nat)(l:Addr)(xs:List V),σ=[some (.int c),some (.int h),some v,some (.int W),some (.ref l)]/\ap H H2/\H2 l=some (.lst xs)/\(∀x∈xs,aL H x)/\xs.length<=100/\W<=30/\m=31-W/\
   ((b=true/\∃ns:List Nat,Paired (io c h H) xs ns/\W+ns.sum<=30)\/(b=false/\∃x∈xs,Bad c h H x)\/(b=false/\∃ns:List Nat,Paired (io c h H) xs ns/\30<W+ns.sum))) 31
  ⟨0,p,[v],rfl,s1,e1,fun x hx=>by rw[Kr]at hx;subst hx;exact k,by simp,by decide,rfl,?_⟩ ?_
 ·rcases hb with⟨h1,n,h2,h3⟩|⟨h1,h2|⟨n,h2,h3⟩⟩
  ·exact .inl ⟨h1,[n],.cons h3 .nil,by simp;omega⟩
  ·exact .inr (.inl ⟨h1,v,Kr.mpr rfl,h2⟩)
  ·exact .inr (.inr ⟨h1,[n],.cons h3 .nil,by simp;omega⟩)
 rintro m σ H2 ⟨W,l,xs,rfl,s2,e2,kx,h100,hW,hm,hc⟩;right;refine bN (fun c0=>?_) (fun c0=>?_)
 ·refine Be ?_
  have no:b=false->∀H3,ap H2 H3->Q (.bl false) H3:=fun hbf H3 s3=>by rw[<-hbf];exact q _ (s2.trans s3)
  have big:30<(W:Int)+(xs.length:Int)->b=false:=by
   intro z;rcases hc with⟨h1,ns,h2,h3⟩|⟨h1,_⟩|⟨h1,_⟩
   ·have:=wQ h2
    omega
   ·exact h1
   ·exact h1
  right;refine bN (fun c1=>?_) (fun c1=>?_)
  ·right
   exact no (big c1) _ (ap.refl _)
  ·right
   refine fU xs (SqL.of e2) (by omega) (fun i acc _=>acc=((xs.take i).map (cj c h H)).map V.bl) (fun _ _=>rfl) ?_ ?_
   ·intro p' hp' C s' H' fp i x acc H3 hxi ⟨s3,e3,l3,r3⟩
    subst r3;have kx':=kx x (Ky hxi);right;refine⟨c,h,x,rfl,kx'.same (s2.trans s3),fun H4 s4=>?_⟩;rw[js (s2.trans s3) kx'];refine bJ.put hp' (fun _ _ _ _ r _=>r) (s3.trans s4) (s4 _ _ e3) l3 ?_;rw[LJ,hxi,KU,KU];rfl
   ·intro p' acc H3 hp' s3 e3 r3
    rw[Le]at r3;subst r3;right;refine⟨p',_,rfl,SqL.of e3,?_⟩;rw[MV];refine Iz ?_;refine pQ (fun n=>?_) (fun n=>?_)
    ·right
     refine no ?_ _ s3;rcases hc with⟨h1,ns,h2,h3⟩|⟨h1,_⟩|⟨h1,_⟩
     ·have:xs.all (id∘cj c h H)=true:=by
       rw[Np];intro x hx;obtain⟨i,hi⟩:=Rf hx;obtain⟨n',_,hs⟩:=oz h2 hi;exact hs.word
      rw[this]at n;cases n
     ·exact h1
     ·exact h1
    ·have all:∀x∈xs,cj c h H x=true:=fun x hx=>(Np.mp n) x hx
     right;have s23:=s2.trans s3;refine⟨c,h,l,xs,rfl,s3 _ _ e2,h100,fun x hx=>⟨(kx x hx).same s23,by rw[js s23 (kx x hx)];exact all x hx⟩,fun r H4 s4 hr e4=>?_⟩;have ep:xs.flatMap (bL H3)=xs.flatMap (bL H):=by
      have:∀ys:List V,(∀y∈ys,aL H y)->ys.flatMap (bL H3)=ys.flatMap (bL H):=by
       intro ys
       induction ys with
       |nil=>intro _;rfl
       |cons y r ih=>intro hy;rw[OG,OG,m8 s23 (hy y Ks),ih fun z hz=>hy z (Ku _ hz)]
      exact this xs kx
     rw[ep]at e4;have hfl:=sk (H:=H) (c:=c) (h:=h) (xs:=xs) fun x hx=>⟨kx x hx,all x hx⟩;right;have a1:31-(W+xs.length)<m:=by clear hc hb;omega
     have a2:(xs.flatMap (bL H)).length<=100:=by clear hc hb;omega
     have a3:W+xs.length<=30:=by clear hc hb;omega
     refine⟨31-(W+xs.length),a1,W+xs.length,r,_,by rw[Int.natCast_add],s23.trans s4,e4,?_,a2,a3,rfl,?_⟩
     ·intro x hx
      obtain⟨y,hy,hxy⟩:=Ql.mp hx;exact qf (kx y hy) x hxy
     ·rcases hc with⟨h1,ns,h2,h3⟩|⟨h1,x,hx,hbad⟩|⟨h1,ns,h2,h3⟩
      ·obtain⟨ms,p2,e5⟩:=ng h2
       exact .inl ⟨h1,ms,p2,by omega⟩
      ·refine .inr (.inl ⟨h1,?_⟩)
       cases hbad with
       |top w=>rw[all x hx]at w;cases w
       |part w m b=>exact⟨_,Ql.mpr ⟨x,hx,m⟩,b⟩
      ·obtain⟨ms,p2,e5⟩:=ng h2
       exact .inr (.inr ⟨h1,ms,p2,by omega⟩)
 ·have hx0:xs=[]:=Oz.mp (by omega)
  right;rcases hc with⟨h1,_⟩|⟨_,x,hx,_⟩|⟨_,ns,h2,h3⟩
  ·rw[<-h1]
   exact q _ s2
  ·rw[hx0]at hx
   cases hx
  ·subst hx0
   cases h2;simp at h3;omega
end
section
variable{c h:Int}{H:Hp}{x y:V}
theorem BH:dJ c h H "holder" x=aJ x 0 h:=by unfold dJ;rw[if_pos rfl]
theorem Fb:dJ c h H "card" x=aJ x 0 (c-1):=by unfold dJ;rw[if_neg (by decide+kernel),if_pos rfl]
theorem yP:dJ c h H "hand" x=aJ x 0 (h-1):=by unfold dJ;rw[if_neg (by decide+kernel),if_neg (by decide+kernel),if_pos rfl]
theorem wR:dJ c h H "hands" x=cV H h x:=by unfold dJ;rw[if_neg (by decide+kernel),if_neg (by decide+kernel),if_neg (by decide+kernel),if_pos rfl]
theorem gR:dJ c h H "saying" x=true:=by unfold dJ;rw[if_neg (by decide+kernel),if_neg (by decide+kernel),if_neg (by decide+kernel),if_neg (by decide+kernel)]
theorem fg{w:Str}{aO:List Str}{items:List V}(e:b9 w=some aO):cx c h H (.str w::items)=(decide (items.length=aO.length)&&(aO.zip items).all (fun p=>dJ c h H p.1 p.2)):=by simp only[cx,e]
theorem G3:b9 "holds"=some (["holder","card"]:List Str):=rfl
theorem JJ:b9 "not"=some (["saying"]:List Str):=rfl
theorem Gd:b9 "and"=some (["saying","saying"]:List Str):=rfl
theorem Kc:b9 "or"=some (["saying","saying"]:List Str):=rfl
theorem G4:b9 "knows"=some (["hand","saying"]:List Str):=rfl
theorem JK:b9 "all"=some (["hands","saying"]:List Str):=rfl
theorem Fc:b9 "common"=some (["hands","saying"]:List Str):=rfl
theorem DH:b9 "sees"=some (["hand"]:List Str):=rfl
theorem so:cx c h H [.str "holds",x,y]=(aJ x 0 h&&aJ y 0 (c-1)):=by
 rw[fg G3];simp only[LO,Mv,Lw,Nr,BH,Fb,M8,KQ,Mj,decide_true,LP]
theorem AC:cx c h H [.str "sees",x]=aJ x 0 (h-1):=by
 rw[fg DH];simp only[LO,Mv,Lw,Nr,yP,M8,KQ,Mj,decide_true,LP]
theorem IZ:cx c h H [.str "not",x]=true:=by
 rw[fg JJ];simp only[LO,Mv,Lw,Nr,gR,M8,KQ,Mj,decide_true,LP]
theorem I0:cx c h H [.str "and",x,y]=true:=by
 rw[fg Gd];simp only[LO,Mv,Lw,Nr,gR,M8,KQ,Mj,decide_true,LP]
theorem JL:cx c h H [.str "or",x,y]=true:=by
 rw[fg Kc];simp only[LO,Mv,Lw,Nr,gR,M8,KQ,Mj,decide_true,LP]
theorem yQ:cx c h H [.str "knows",x,y]=aJ x 0 (h-1):=by
 rw[fg G4];simp only[LO,Mv,Lw,Nr,gR,yP,M8,KQ,Mj,decide_true,LP]
theorem DI:cx c h H [.str "all",x,y]=cV H h x:=by
 rw[fg JK];simp only[LO,Mv,Lw,Nr,gR,wR,M8,KQ,Mj,decide_true,LP]
theorem DJ:cx c h H [.str "common",x,y]=cV H h x:=by
 rw[fg Fc];simp only[LO,Mv,Lw,Nr,gR,wR,M8,KQ,Mj,decide_true,LP]
theorem fI{i lo hi:Int}(h1:lo<=i)(h2:i<=hi):aJ (.int i) lo hi=true:=by show(decide (lo<=i)&&decide (i<=hi))=true;rw[decide_eq_true h1,decide_eq_true h2];rfl
theorem mO{i lo hi:Int}(h1:¬lo<=i):aJ (.int i) lo hi=false:=by show(decide (lo<=i)&&decide (i<=hi))=false;rw[decide_eq_false h1];rfl
theorem gr{i lo hi:Int}(h1:¬i<=hi):aJ (.int i) lo hi=false:=by show(decide (lo<=i)&&decide (i<=hi))=false;rw[decide_eq_false h1,Ni]
theorem G5:em [.str "not",x]=[x]:=rfl
theorem G6:em [.str "and",x,y]=[x,y]:=rfl
theorem Ja:em [.str "or",x,y]=[x,y]:=rfl
theorem DK:em [.str "knows",x,y]=[y]:=rfl
theorem G7:em [.str "all",x,y]=[y]:=rfl
theorem BI:em [.str "common",x,y]=[y]:=rfl
theorem DL:em [.str "holds",x,y]=[]:=rfl
theorem Fd:em [.str "sees",x]=[]:=rfl
end
theorem mP{h:Nat}:∀(g:List Nat)(lo:Int),(∀k∈g,lo<=(k:Int))->g.Pairwise (· < ·)->(∀k∈g,k<h)->cG (h:Int) lo (av g)=true
 | [],_,_,_,_=>rfl
 |k::r,lo,h1,h2,h3=>by
  show(aJ (.int (k:Int)) lo ((h:Int)-1)&&cG (h:Int) ((k:Int)+1) (av r))=true;rw[PD]at h2;have hk:=h3 k Ks;rw[fI (h1 k Ks) (by omega),mP r _ (fun j hj=>by have:=h2.1 j hj;omega) h2.2 fun j hj=>h3 j (Ku _ hj)];rfl
theorem bI{H:Hp}:∀v∈([]:List V),aL H v:=fun _ h=>(nomatch h)
theorem aB{H:Hp}{x:V}{xs:List V}(h:aL H x)(t:∀v∈xs,aL H v):∀v∈x::xs,aL H v:=fun v hv=>by
 rcases Kq.mp hv with rfl|hv
 ·exact h
 ·exact t v hv
theorem yR{H:Hp}(g:List Nat):∀v∈av g,aL H v:=fun v hv=>by
 obtain⟨k,_,rfl⟩:=Lr.mp hv;exact .int _
theorem cb.known{H:Hp}:∀{s:Sy} {v:V},cb H v s->aL H v
 | .holds _ _,_,⟨a,e,h⟩=>by subst e;exact .tup h (aB (.str _) (aB (.int _) (aB (.int _) bI)))
 | .sees _,_,⟨a,e,h⟩=>by subst e;exact .tup h (aB (.str _) (aB (.int _) bI))
 | .not _,_,⟨a,x,e,h,r⟩=>by subst e;exact .tup h (aB (.str _) (aB r.known bI))
 | .and _ _,_,⟨a,x,y,e,h,r,q⟩=>by subst e;exact .tup h (aB (.str _) (aB r.known (aB q.known bI)))
 | .or _ _,_,⟨a,x,y,e,h,r,q⟩=>by subst e;exact .tup h (aB (.str _) (aB r.known (aB q.known bI)))
 | .knows _ _,_,⟨a,x,e,h,r⟩=>by subst e;exact .tup h (aB (.str _) (aB (.int _) (aB r.known bI)))
 | .all g _,_,⟨a,b,x,e,h,i,r⟩=>by subst e;exact .tup h (aB (.str _) (aB (.tup i (yR g)) (aB r.known bI)))
 | .common g _,_,⟨a,b,x,e,h,i,r⟩=>by subst e;exact .tup h (aB (.str _) (aB (.tup i (yR g)) (aB r.known bI)))
theorem ji{c h:Int}{H:Hp}{v:V}{ns:List Nat}{n:Nat}(w:cj c h H v=true)(p:Paired (io c h H) (bL H v) ns)(e:n=1+ns.sum):io c h H v n:=by subst e;exact .mk w p
theorem cb.sayw{H:Hp}{c h:Nat}:∀{s:Sy} {v:V},cb H v s->s.Ok c h->io (c:Int) (h:Int) H v s.words
 | .holds w k,_,⟨a,e,i⟩,ok=>by
  subst e;have ok':w<=h/\k<c:=ok;refine ji (ns:=[]) ?_ ?_ rfl
  ·rw[cr i,so,fI (by omega) (by omega),fI (by omega) (by omega)];rfl
  ·rw[b8 i,DL];exact .nil
 | .sees k,_,⟨a,e,i⟩,ok=>by
  subst e;have ok':k<h:=ok;refine ji (ns:=[]) ?_ ?_ rfl
  ·rw[cr i,AC,fI (by omega) (by omega)]
  ·rw[b8 i,Fd];exact .nil
 | .not s,_,⟨a,x,e,i,r⟩,ok=>by
  subst e;refine ji (ns:=[s.words]) ?_ ?_ (by simp[Sy.words];omega)
  ·rw[cr i,IZ]
  ·rw[b8 i,G5];exact .cons (r.sayw ok) .nil
 | .and s t,_,⟨a,x,y,e,i,r,q⟩,ok=>by
  subst e;refine ji (ns:=[s.words,t.words]) ?_ ?_ (by simp[Sy.words];omega)
  ·rw[cr i,I0]
  ·rw[b8 i,G6];exact .cons (r.sayw ok.1) (.cons (q.sayw ok.2) .nil)
 | .or s t,_,⟨a,x,y,e,i,r,q⟩,ok=>by
  subst e;refine ji (ns:=[s.words,t.words]) ?_ ?_ (by simp[Sy.words];omega)
  ·rw[cr i,JL]
  ·rw[b8 i,Ja];exact .cons (r.sayw ok.1) (.cons (q.sayw ok.2) .nil)
 | .knows k s,_,⟨a,x,e,i,r⟩,ok=>by
  subst e;have ok':k<h:=ok.1;refine ji (ns:=[s.words]) ?_ ?_ (by simp[Sy.words];omega)
  ·rw[cr i,yQ,fI (by omega) (by omega)]
  ·rw[b8 i,DK];exact .cons (r.sayw ok.2) .nil
 | .all g s,_,⟨a,b,x,e,i,j,r⟩,ok=>by
  subst e;refine ji (ns:=[s.words]) ?_ ?_ (by simp[Sy.words];omega)
  ·rw[cr i,DI,fH j,mP g 0 (fun k _=>by omega) ok.1.1 ok.1.2]
  ·rw[b8 i,G7];exact .cons (r.sayw ok.2) .nil
 | .common g s,_,⟨a,b,x,e,i,j,r⟩,ok=>by
  subst e;refine ji (ns:=[s.words]) ?_ ?_ (by simp[Sy.words];omega)
  ·rw[cr i,DJ,fH j,mP g 0 (fun k _=>by omega) ok.1.1 ok.1.2]
  ·rw[b8 i,BI];exact .cons (r.sayw ok.2) .nil
theorem eS{K:Fg}{H:Hp}{Q:VK}{E:XK}{i b:Int}(h1:0<=i)(h2:i<=b-1)(q:Q (.bl true) H):bu K [.int i,.int b] H Q E:=⟨.int i,b,rfl,.int i,by rw[fI h1 h2];exact q⟩
theorem ux{K:Fg}{H:Hp}{Q:VK}{E:XK}{tp:Addr}{g:List Nat}{h:Nat}(et:H tp=some (.tup (av g)))(pw:g.Pairwise (· < ·))(hg:∀k∈g,k<h)(q:Q (.bl true) H):fv K [.ref tp,.int (h:Int)] H Q E:=
 ⟨.ref tp,(h:Int),rfl,.tup et (yR g),by rw[fH et,mP g 0 (fun _ _=>by omega) pw hg];exact q⟩
theorem zW{K:Fg}{H:Hp}{Q:VK}{E:XK}{c h:Nat}{v:V}{s:Sy}(is:cb H v s)(ok:s.Ok c h)(hw:s.words<=30)(q:∀H',ap H H'->Q (.bl true) H'):fw K [.int (c:Int),.int (h:Int),v] H Q E:=
 ⟨c,h,v,true,rfl,is.known,.inl ⟨rfl,s.words,hw,is.sayw ok⟩,q⟩
section
variable{K:Fg}{vs:List V}{H:Hp}{Q:VK}{E:XK}
noncomputable def kl(K:Fg):TS:=(ar (aK (tOp (rI (fun _ j=>0<j) fun i j=>.int (i%j)) (aq (cD K) [] E0 (aa (ad 0) (aa (ad 1) ag))) (tC (.int 8))) (ao 3))
 (ar (bD (br (tOp rEq (tOp (rI (fun _ j=>0<j) fun i j=>.int (i%j)) (tOp (rI kX fun i j=>.int (i/j)) (aq (cD K) [] E0 (aa (ad 0) (aa (ad 1) ag))) (tC (.int 8))) (tC (.int 16))) (tC (.int 5)))) (aK (tOp (rI0 fun i j=>.int (i+j)) (tC (.int 8)) (tOp (rI (fun _ j=>0<j) fun i j=>.int (i%j)) (tOp (rI kX fun i j=>.int (i/j)) (aq (cD K) [] E0 (aa (ad 0) (aa (ad 1) ag))) (tC (.int 128))) (tC (.int 5)))) (ao 3)) bv)
 (ar (aK (bQ ag) (ao 4))
 (ar (eX (iI (aa (tOp (rI0 fun i j=>.int (i+j)) (tC (.int 1)) (tOp (rI (fun _ j=>0<j) fun i j=>.int (i%j)) (aq (cD K) [] E0 (aa (ad 0) (aa (tOp (rI0 fun i j=>.int (i+j)) (ad 1) (tC (.int 1))) ag))) (tC (.int 5)))) ag)) (ao 5) (bR (tBM K "list" nD (ad 4) (aa (tOp (rI (fun _ j=>0<j) fun i j=>.int (i%j)) (aq (cD K) [] E0 (aa (ad 0) (aa (tOp (rI0 fun i j=>.int (i+j)) (tOp (rI0 fun i j=>.int (i+j)) (ad 1) (tC (.int 2))) (ad 5)) ag))) (tOp (rI0 fun i j=>.int (i+j)) (tCB Bh (aa (tC (.int 4)) (aa (tOp (rI0 fun i j=>.int (i-j)) (ad 3) (tCB (sd K) (aa (ad 4) ag))) ag))) (tC (.int 1)))) ag))))
 (ar (nA (br (tOp (rI0 fun i j=>.bl (decide (j<i))) (aq (iJ K) [] E0 (aa (ad 3) (aa (ad 4) ag))) (ad 2))) (ar (bD (br (tOp (rI0 fun i j=>.bl (decide (j<i))) (tCB (vI K) (aa (ad 4) ag)) (tOp (rI0 fun i j=>.int (i-j)) (ad 3) (tCB (sd K) (aa (ad 4) ag))))) (aK (tOp (rI0 fun i j=>.int (i-j)) (tCB (vI K) (aa (ad 4) ag)) (tC (.int 1))) (pB (ad 4) (tBM K "list" yn (ad 4) (aa (tCB (vI K) (aa (ad 4) ag)) ag)) mE)) bv)
 (aK (tOp (rI0 fun i j=>.int (i-j)) (ad 3) (tC (.int 1))) (ao 3))))
 (aN (bz (aa (ad 3) (aa (ad 4) ag)))))))))
theorem yS(h:lW K vs H Q E):kl K { nx:=fun _ H'=>Q .non H',rt:=Q } (start ["_law_script","_law_at","_law_most","_law_cards","_law_sizes","_law_k"] vs) H:=by
 obtain⟨a,ns,at_,most,rfl,hSc,ha0,ha1,hm,g⟩:=h;show kl K _ [some _,some _,some _,none,none,none] _;unfold kl;refine bB ?_;nofun;refine⟨a,ns,at_,rfl,hSc,ha0,by omega,?_⟩;nofun;refine qF fun NX hNX=>?_;have key:∀c:Nat,c<=12->NX [some (.ref a),some (.int at_),some (.int most),some (.int c),none,none] H:=by
  intro c hc;refine hNX _ _ ?_;refine bB ?_;nofun;refine⟨by simp[Kl],fun q H1 hq s1 e1=>?_⟩;nofun;refine qF fun NX hNX=>?_;have hSc1:=hSc.same s1;nofun;refine⟨a,ns,at_+1,rfl,hSc1,by omega,by omega,?_⟩;nofun;refine n9 (1+du ns (at_+1)%5).toNat rfl (by omega) (by omega) (fun i σ H2=>∃(ss:List Nat)(st:Option V),σ=[some (.ref a),some (.int at_),some (.int most),some (.int c),some (.ref q),st]/\ap H H2/\H2 q=some (.lst (av ss))/\ss.length=i/\ss.sum<=c) ⟨[],none,rfl,s1,e1,rfl,Lk _⟩ ?_ ?_
  ·rintro i σ H2 hi ⟨ss,st,rfl,s2,e2,hl,hs⟩
   have hSc2:=hSc.same s2;right;refine⟨Bc e2,?_⟩;right;refine⟨a,ns,at_+2+(i:Int),rfl,hSc2,by omega,by omega,?_⟩;right;refine Bi (ns:=ss.map fun(s:Nat)=>((s:Nat):Int)) (by rw[<-cT];exact SqL.of e2) ?_;right;rw[iZ];obtain⟨lst,hlst,hlst2⟩:∃l:Nat,(if(c:Int)-((ss.sum:Nat):Int)<4 then(c:Int)-((ss.sum:Nat):Int)else 4)=(l:Int)/\l<=c-ss.sum:=by
    by_cases h:(c:Int)-((ss.sum:Nat):Int)<4
    ·exact⟨c-ss.sum,by rw[if_pos h];omega,Km _⟩
    ·exact⟨4,by rw[if_neg h];rfl,by omega⟩
   rw[hlst];right;obtain⟨z,hz,hz2⟩:∃z:Nat,du ns (at_+2+(i:Int))%((lst:Int)+1)=(z:Int)/\z<=lst:=by
    have m1:=NG (du ns (at_+2+(i:Int))) (b:=(lst:Int)+1) (by omega);have m2:=PB (du ns (at_+2+(i:Int))) (b:=(lst:Int)+1) (by omega);exact⟨(du ns (at_+2+(i:Int))%((lst:Int)+1)).toNat,by omega,by omega⟩
   rw[hz];refine yo e2 (by rw[bo,Kl];omega) fun H4 o4 e4=>?_;rw[kL]at e4;refine⟨ss++[z],_,rfl,s2.off hq o4,e4,by rw[KP,hl];rfl,?_⟩;rw[L9,K0,NV];omega
  ·rintro σ H2 ⟨ss,st,rfl,s2,e2,hl,hs⟩
   exact hNX _ _ (Dq s2 hq e2 (by omega) (by omega) hs hc hm g)
 nofun;refine⟨a,ns,at_,rfl,hSc,ha0,by omega,?_⟩;nofun;refine bN (fun hb=>?_) (fun hb=>?_)
 ·nofun
  refine⟨a,ns,at_,rfl,hSc,ha0,by omega,?_⟩;nofun;have:=key (8+du ns at_/128%5).toNat (by omega);rw[show(((8+du ns at_/128%5).toNat:Nat):Int)=8+du ns at_/128%5 by omega]at this;exact this
 ·nofun
  have:=key (du ns at_%8).toNat (by omega);rw[show(((du ns at_%8).toNat:Nat):Int)=du ns at_%8 by omega]at this;exact this
end
theorem bJ.putW{H H4:Hp}{p:Addr}{R:Nat->List V->Hp->Prop}{i:Nat}{acc:List V}{y:V}(hp:H p=none)(s:ap H H4)(e:H4 p=some (.lst acc))(l:acc.length<=i)(r:∀H6,Off p H4 H6->R (i+1) (acc++[y]) H6):
  H4 p=some (.lst acc)/\bJ H p R (i+1) (acc++[y]) (upd H4 p (.lst (acc++[y]))):=
 ⟨e,s.upd hp _,ay,by rw[KP];exact Rb l 1,r _ jf⟩
section
variable{g:CF TG}{tt:CF TT}{te:CF TE}{σ₀:St}{Q:VK}{H:Hp}{K:Fg}
theorem qg{j:Int}(n:Nat)(hn:j.toNat=n)(hj:j<=1000000)(hj0:-1000000<=j)(R:Addr->Nat->List V->Hp->Prop)(h0:∀p H',ap H H'->R p 0 [] H')
  (hs:∀p,H p=none->∀C s' H' fp,∀i acc H2,i<n->bJ H p (R p) i acc H2->g C s' H' fp (.int i) σ₀ H2 fun σ2 H3=>tt C s' H' fp σ2 H3 fun b H4=>if b=true then te C s' H' fp σ2 H4 fun y H5=>H5 p=some (.lst acc)/\bJ H p (R p) (i+1) (acc++[y]) (upd H5 p (.lst (acc++[y])))else bJ H p (R p) (i+1) acc H4)
  (hd:∀p acc H2,H p=none->ap H H2->H2 p=some (.lst acc)->R p n acc H2->Q (.ref p) H2):
  ∃j':Int,[V.int j]=[.int j']/\-(2^62)<=j'/\j'<2^62/\∀p,H p=none->∃W:Nat->Nat->List V->Hp->Prop,(∃m,W 0 m [] (upd H p (.lst [])))/\∀C s' H' fp,cB (Itr 0 j'.toNat) (g C s' H' fp) (tt C s' H' fp) (te C s' H' fp) σ₀ p Q W:=by
 refine⟨j,rfl,by omega,by omega,fun p hp=>?_⟩;subst hn;exact tK (lo:=0) (bJ H p (R p)) ⟨bi hp _,ay,Km _,h0 _ _ (bi hp _)⟩ (fun i acc H2 _ c=>⟨c.2.1,c.2.2.1⟩) (by rw[Kl];omega) (fun C s' H' fp i acc H2 hi c=>by rw[RP];exact hs p hp C s' H' fp i acc H2 hi c) fun acc H2 c=>hd p acc H2 hp c.1 c.2.1 c.2.2.2
end
section
open PySem.Spec
theorem bO.units64{k:Nat}{A:Around}(r:bO k A):A.units+64<cLine:=by have:=r.un;omega
section
variable{X:Cx}
theorem OpR.weak{f:Value->Value->Sem Value}{r r':R2}(h:OpR X f r)(w:∀x y H Q,r' x y H Q->r x y H Q):OpR X f r':=fun pins s σ H x y v u Q I rx ry q=>h pins s σ H x y v u Q I rx ry (w x y H Q q)
theorem dn.weak{f:Value}{r r':List V->Hp->VK->Prop}(h:dn X f r)(w:∀xs H Q,r' xs H Q->r xs H Q):dn X f r':=fun pins s σ H xs us Q I rx q=>h pins s σ H xs us Q I rx (w xs H Q q)
theorem kQ:OpR X (MR .Add) nY:=CS.weak fun _ _ _ _ ⟨l,b,xs,zs,e1,e2,h1,h2,hz,q⟩=>⟨l,b,xs,zs,e1,e2,h1,h2,hz,q.upd⟩
theorem DM:OpR X (MR .Mult) EG:=Ip.weak fun _ _ _ _ ⟨l,k,xs,e1,e2,h1,h2,h3,hz,q⟩=>⟨l,k,xs,e1,e2,h1,h2,h3,hz,q.upd⟩
theorem qP:dn X (.type "list") (pR X.K):=yh.weak fun _ _ _ ⟨p,ys,e,h,q⟩=>⟨p,ys,e,h,q.upd⟩
end
section
variable{X:Cx}{es:List Expr}{t:TA}{pos:Pos}
theorem aS{x1}(h:PA X es t):PE X (.Tuple es x1 pos) (bz t):=by
 intro pins s σ H Q I hq;refine Rv (thn (h pos pins s σ H _ I hq) fun us s1 ⟨xs,H1,I1,r,z,q⟩=>⟨by rw[<-r.length];exact z,?_⟩);have hf:H1 s1.heap.objs.size=none:=I1.hok.fresh (Km _);refine⟨.ref s1.heap.objs.size,upd H1 s1.heap.objs.size (.tup xs),I1.laid (t':=s1.toks) (fun b u e=>Kh _ e) (Km _) ?_,rfl,q.upd _ hf⟩;exact⟨z,us,r,fQ.new _ _⟩
theorem bf(h:PA X es t):PE X (.List es pos) (bQ t):=by
 intro pins s σ H Q I hq;refine RK (thn (h pos pins s σ H _ I hq) fun us s1 ⟨xs,H1,I1,r,z,q⟩=>⟨by rw[<-r.length];exact z,?_⟩);have hf:H1 s1.heap.objs.size=none:=I1.hok.fresh (Km _);refine⟨.ref s1.heap.objs.size,upd H1 s1.heap.objs.size (.lst xs),I1.laid (t':=s1.toks) (fun b u e=>Kh _ e) (Km _) ?_,rfl,q.upd _ hf⟩;exact⟨z,us,0,r,Kt _ rfl⟩
end
section
variable{X:Cx}{es:List Expr}{te:TE}{t:TA}
theorem af{v:Const}{j:Nat}{p:Pos}(ha:PE X (.Constant v j p) te)(hr:PA X es t):PA X (.Constant v j p::es) (aa te t):=dS ha hr rfl
theorem ac{x:Str}{p:Pos}(ha:PE X (.Name x p) te)(hr:PA X es t):PA X (.Name x p::es) (aa te t):=dS ha hr rfl
theorem aY{a b:Expr}{o:Operator}{p:Pos}(ha:PE X (.BinOp a o b p) te)(hr:PA X es t):PA X (.BinOp a o b p::es) (aa te t):=dS ha hr rfl
theorem iB{a:Expr}{o:UnaryOp}{p:Pos}(ha:PE X (.UnaryOp o a p) te)(hr:PA X es t):PA X (.UnaryOp o a p::es) (aa te t):=dS ha hr rfl
theorem ax{f:Expr}{as:List Expr}{ks:List Keyword}{p:Pos}(ha:PE X (.Call f as ks p) te)(hr:PA X es t):PA X (.Call f as ks p::es) (aa te t):=dS ha hr rfl
theorem aE{as:List Expr}{k:Nat}{p:Pos}(ha:PE X (.Tuple as k p) te)(hr:PA X es t):PA X (.Tuple as k p::es) (aa te t):=dS ha hr rfl
theorem gs{as:List Expr}{p:Pos}(ha:PE X (.List as p) te)(hr:PA X es t):PA X (.List as p::es) (aa te t):=dS ha hr rfl
theorem aP{a b:Expr}{p:Pos}(ha:PE X (.Subscript a b p) te)(hr:PA X es t):PA X (.Subscript a b p::es) (aa te t):=dS ha hr rfl
theorem rO{a:Expr}{os:List CmpOp}{bs:List Expr}{p:Pos}(ha:PE X (.Compare a os bs p) te)(hr:PA X es t):PA X (.Compare a os bs p::es) (aa te t):=dS ha hr rfl
theorem Fe{ks:List (Option Expr)}{vs:List Expr}{p:Pos}(ha:PE X (.Dict ks vs p) te)(hr:PA X es t):PA X (.Dict ks vs p::es) (aa te t):=dS ha hr rfl
theorem bZ{e:Expr}(ha:PE X e te)(hr:PA X es t)(hs:KC (e::es) X.env=(false,eval e X.env)::KC es X.env:=by rfl):PA X (e::es) (aa te t):=dS ha hr hs
structure Kf(N:List Str)(sc:Scope)(i:Nat)(x:Str):Prop where
 n:N[i]?=some x
 v:Vis sc x
 d:(x==("__debug__":Str))=false
 c:(x==("__classdict__":Str))=false
end
end
section
open PySem.Spec
theorem DN{X:Cx}:SlR X (Bj X.K):=fun pins s σ H x v vl vu lo hi sl Q I rx hs pl pu ⟨a,xs,e,h,n,q⟩=>Il pins s σ H x v vl vu lo hi sl Q I rx hs pl pu ⟨a,xs,e,h,n,q.upd⟩
noncomputable def uy(P:Program)(w:World)(K:Fg)(a:Addr)(kvs:List (Str×V)):Prop:=
 (a==Mb)=false/\∃(o:Obj)(es:Array RG)(ep:Nat)(vs:List (Key×Value)),K.lookup a=some o/\o.ExactDict/\o.data=.dict es ep/\KeysOf (jd P w) es/\Pairs (jd P w) es.toList vs/\(vs.map (·.1)).Nodup/\
  Paired (fun(p:Str×V)(q:Key×Value)=>q.1=.inr p.1/\aI p.2 q.2) kvs vs
theorem lh{k:Str}{v:V}:∀{kvs:List (Str×V)} {vs:List (Key×Value)},Paired (fun(p:Str×V)(q:Key×Value)=>q.1=.inr p.1/\aI p.2 q.2) kvs vs->kvs.lookup k=some v->∃u,valueAt vs (.inr k)=some u/\aI v u
 |_,_,.nil,h=>by cases h
 |_,_,.cons (a:=p) (b:=q) r t,h=>by
  obtain⟨x,y⟩:=p;obtain⟨kq,u⟩:=q;obtain⟨r1,r2⟩:=r;simp only at r1 r2;subst r1;rw[Ld]at h;unfold valueAt;rw[La];by_cases e:k=x
  ·subst e
   rw[beq_self_eq_true]at h;cases h;rw[show decide ((Me k:Key)=Me k)=true from decide_eq_true rfl];exact⟨u,rfl,r2⟩
  ·rw[show(k==x)=false from beq_eq_false_iff_ne.mpr e]at h
   rw[show decide ((Me x:Key)=Me k)=false from decide_eq_false fun z=>e (N7 z).symm];exact lh t h
section
variable{X:Cx}{o i:Expr}{pos:Pos}{td ty:TE}{a:Addr}{kvs:List (Str×V)}
theorem uy.of{pins:List (Addr×Obj)}{σ:St}{H:Hp}{s:Shared}(D:uy X.prog X.w X.K a kvs)(I:Inv X pins σ H s):∃vs,s.heap.DictOf (jd X.prog X.w) a vs/\Paired (fun(p:Str×V)(q:Key×Value)=>q.1=.inr p.1/\aI p.2 q.2) kvs vs:=by
 obtain⟨_,o,es,ep,vs,lk,ex,hd,hk,hp,nd,rel⟩:=D;exact⟨vs,⟨o,es,ep,I.kIn a o lk,ex,hd,hk,hp,nd⟩,rel⟩
theorem DO(D:uy X.prog X.w X.K a kvs)(ho:PE X o td)(hi:PE X i ty)(hs:EJ i):PE X (.Subscript o i pos) (tOp (Bk kvs a) td ty):=by
 intro pins s σ H Q I h;refine Ay P6.lookup hs (thn (ho pins s σ H _ I h) fun u s1 ⟨x,H1,I1,rx,q1⟩=>thn (hi pins s1 σ H1 _ I1 q1) fun iv s2 ⟨y,H2,I2,ry,ex,k,v,ey,el,q2⟩=>?_);subst ex ey;obtain rfl:u=KY a:=rx;obtain⟨vs,dd,rel⟩:=D.of I2;obtain⟨w',hw,rw'⟩:=lh rel el;exact⟨dd.typeIs,SJ (F7 (k:=.inr k) ry) dd.mapOf hw ⟨v,H2,I2.tok _,rw',q2⟩⟩
theorem rP{k:Str}:∀{kvs:List (Str×V)} {vs:List (Key×Value)},Paired (fun(p:Str×V)(q:Key×Value)=>q.1=.inr p.1/\aI p.2 q.2) kvs vs->kvs.lookup k=none->valueAt vs (.inr k)=none
 |_,_,.nil,_=>rfl
 |_,_,.cons (a:=p) (b:=q) r t,h=>by
  obtain⟨x,y⟩:=p;obtain⟨kq,u⟩:=q;obtain⟨r1,r2⟩:=r;simp only at r1 r2;subst r1;rw[Ld]at h;unfold valueAt;rw[La];by_cases e:k=x
  ·subst e
   rw[beq_self_eq_true]at h;cases h
  ·rw[show(k==x)=false from beq_eq_false_iff_ne.mpr e]at h
   rw[show decide ((Me x:Key)=Me k)=false from decide_eq_false fun z=>e (N7 z).symm];exact rP t h
theorem yT(D:uy X.prog X.w X.K a kvs):OpR X (MD .NotIn) (tP kvs a true):=by
 intro pins s σ H x y v u Q I rx ry h;obtain⟨rfl,k,rfl,q⟩:=h;obtain rfl:u=KY a:=ry;obtain⟨vs,dd,rel⟩:=D.of I;refine wpAny_notIn_of (F7 (k:=.inr k) rx) D.1 dd.mapOf ?_;refine⟨.bl (!(kvs.lookup k).isSome),H,I.tok _,?_,q⟩;cases e:kvs.lookup k with
 |none=>rw[rP rel e];rfl
 |some v'=>
  obtain⟨w',hw,_⟩:=lh rel e;rw[hw];rfl
end
theorem G8{X:Cx}{pos:Pos}:PE X (.Dict [] [] pos) Bl:=fun pins s σ H Q I h=>EL pins s σ H Q I (New.upd (Q:=fun p H2=>Q (.ref p) H2) h)
end
section
open PySem.Spec
structure BJ(P:Program)(w:World)(K:Fg)(mg:Str->Option Value)(G:Glo):Prop where
 ok:xN K G
 mf:mg "FORMS"=some (.ref G.forms)
 df:uy P w K G.forms G.kvs
theorem jj{K:Fg}{a:Addr}{od:Option Addr}{its:Array Value}{n:Nat}{sl:Array (Option Value)}(l:K.lookup a=some ⟨.type "tuple",od,.seq its n,sl⟩)(xs:List V)(hz:its.size<=Kw)(r:aG xs its.toList):kZ K a xs:=⟨_,its,n,l,rfl,rfl,hz,r⟩
theorem G9{P:Program}{w:World}{K:Fg}{mg:Str->Option Value}{aF aC f1 f2 f3 f4 f5 f6 f7 f8:Addr}{k1 k2 k3 k4 k5 k6 k7 k8 u1 u2 u3 u4 u5 u6 u7 u8 u9 ua ub uc ud ue:Tok}{ep n1 n2 n3 n4 n5 n6 n7 n8:Nat}{o1 o2 o3 o4 o5 o6 o7 o8:Option Addr}{s1 s2 s3 s4 s5 s6 s7 s8:Array (Option Value)}
  (nF:(aF==Mb)=false) (mf:mg "FORMS"=some (.ref aF))
  (lF:K.lookup aF=some ⟨.type "dict",none,.dict #[⟨Ly w.params "holds",.str "holds" k1,.ref f1⟩,⟨Ly w.params "not",.str "not" k2,.ref f2⟩,⟨Ly w.params "and",.str "and" k3,.ref f3⟩,⟨Ly w.params "or",.str "or" k4,.ref f4⟩,
   ⟨Ly w.params "knows",.str "knows" k5,.ref f5⟩,⟨Ly w.params "all",.str "all" k6,.ref f6⟩,⟨Ly w.params "common",.str "common" k7,.ref f7⟩,⟨Ly w.params "sees",.str "sees" k8,.ref f8⟩] ep,#[]⟩)
  (l1:K.lookup f1=some ⟨.type "tuple",o1,.seq #[.str "holder" u1,.str "card" u2] n1,s1⟩) (l2:K.lookup f2=some ⟨.type "tuple",o2,.seq #[.str "saying" u3] n2,s2⟩) (l3:K.lookup f3=some ⟨.type "tuple",o3,.seq #[.str "saying" u4,.str "saying" u5] n3,s3⟩) (l4:K.lookup f4=some ⟨.type "tuple",o4,.seq #[.str "saying" u6,.str "saying" u7] n4,s4⟩)
  (l5:K.lookup f5=some ⟨.type "tuple",o5,.seq #[.str "hand" u8,.str "saying" u9] n5,s5⟩) (l6:K.lookup f6=some ⟨.type "tuple",o6,.seq #[.str "hands" ua,.str "saying" ub] n6,s6⟩) (l7:K.lookup f7=some ⟨.type "tuple",o7,.seq #[.str "hands" uc,.str "saying" ud] n7,s7⟩) (l8:K.lookup f8=some ⟨.type "tuple",o8,.seq #[.str "hand" ue] n8,s8⟩)
  : BJ P w K mg ⟨aF,aC,f1,f2,f3,f4,f5,f6,f7,f8⟩ where
 mf:=mf
 ok:=⟨jj l1 _ (by show 2<=Kw;decide) (.cons ⟨_,rfl⟩ (.cons ⟨_,rfl⟩ .nil)),jj l2 _ (by show 1<=Kw;decide) (.cons ⟨_,rfl⟩ .nil),jj l3 _ (by show 2<=Kw;decide) (.cons ⟨_,rfl⟩ (.cons ⟨_,rfl⟩ .nil)),jj l4 _ (by show 2<=Kw;decide) (.cons ⟨_,rfl⟩ (.cons ⟨_,rfl⟩ .nil)),
  jj l5 _ (by show 2<=Kw;decide) (.cons ⟨_,rfl⟩ (.cons ⟨_,rfl⟩ .nil)),jj l6 _ (by show 2<=Kw;decide) (.cons ⟨_,rfl⟩ (.cons ⟨_,rfl⟩ .nil)),jj l7 _ (by show 2<=Kw;decide) (.cons ⟨_,rfl⟩ (.cons ⟨_,rfl⟩ .nil)),jj l8 _ (by show 1<=Kw;decide) (.cons ⟨_,rfl⟩ .nil)⟩
 df:=by
  refine⟨nF,_,_,_,[(.inr "holds",.ref f1),(.inr "not",.ref f2),(.inr "and",.ref f3),(.inr "or",.ref f4),(.inr "knows",.ref f5),(.inr "all",.ref f6),(.inr "common",.ref f7),(.inr "sees",.ref f8)],lF,⟨rfl,rfl,rfl⟩,rfl,?_,?_,?_,?_⟩
  ·intro e he
   simp only[List.mem_toArray,Array.mem_def,Kq,Lq,or_false]at he;rcases he with rfl|rfl|rfl|rfl|rfl|rfl|rfl|rfl
   ·exact⟨.inr "holds",bt P w _ _,rfl⟩
   ·exact⟨.inr "not",bt P w _ _,rfl⟩
   ·exact⟨.inr "and",bt P w _ _,rfl⟩
   ·exact⟨.inr "or",bt P w _ _,rfl⟩
   ·exact⟨.inr "knows",bt P w _ _,rfl⟩
   ·exact⟨.inr "all",bt P w _ _,rfl⟩
   ·exact⟨.inr "common",bt P w _ _,rfl⟩
   ·exact⟨.inr "sees",bt P w _ _,rfl⟩
  ·exact .cons (bt P w _ _) rfl (.cons (bt P w _ _) rfl (.cons (bt P w _ _) rfl (.cons (bt P w _ _) rfl (.cons (bt P w _ _) rfl (.cons (bt P w _ _) rfl (.cons (bt P w _ _) rfl (.cons (bt P w _ _) rfl .nil)))))))
  ·show([.inr "holds",.inr "not",.inr "and",.inr "or",.inr "knows",.inr "all",.inr "common",.inr "sees"]:List Key).Nodup
   decide+kernel
  ·exact .cons ⟨rfl,rfl⟩ (.cons ⟨rfl,rfl⟩ (.cons ⟨rfl,rfl⟩ (.cons ⟨rfl,rfl⟩ (.cons ⟨rfl,rfl⟩ (.cons ⟨rfl,rfl⟩ (.cons ⟨rfl,rfl⟩ (.cons ⟨rfl,rfl⟩ .nil)))))))
end
section
open PySem.Spec
noncomputable def CX1(P:Program)(w:World):CXT:=fun outer H s E e s'=>
 ∃(a C:Addr)(a0:Value)(H':Hp)(B:Heap),e=.ref a/\s'.os=s.os/\AllBare s'.gens/\Un (frs outer) [] H H' s.heap s'.heap/\HOk P w H' s'.heap/\
  Pb B outer a (.ref C) a0 s'.heap/\(∀b o,s.heap.get? b=some o->H b=none->b∉frs outer->B.get? b=some o)/\
  (∀b o,s.heap.get? b=some o->b∉frs outer->∃o',B.get? b=some o')/\(∀b u o,H' b=some u->s'.heap.get? b=some o->B.get? b=some o)/\H' a=none/\E (.ref C) (some a) H'
theorem bE.there{P:Program}{w:World}{H:Hp}{h:Heap}{a:Addr}{o:HO}(x:bE P w H h a o):∃ob,h.get? a=some ob:=by
 cases o with
 |lst xs=>obtain⟨_,_,_,_,e⟩:=x;exact⟨_,e⟩
 |tup xs=>obtain⟨_,_,_,_,e,_⟩:=x;exact⟨_,e⟩
 |dK kvs=>obtain⟨_,_,_,_,o,_,_,e,_⟩:=x;exact⟨_,e⟩
 |dT kvs=>obtain⟨_,_,_,_,o,_,_,e,_⟩:=x;exact⟨_,e⟩
 |set S n=>obtain⟨o,_,_,_,e,_⟩:=x;exact⟨_,e⟩
 |ins C dx fs=>obtain⟨_,_,_,e,_⟩:=x;exact⟨_,e⟩
 |own y=>exact x
 |xd fs=>obtain⟨_,⟨_,_,_,e,_⟩,_⟩:=x;exact⟨_,e⟩
 |rng lo hi=>obtain⟨_,_,_,e⟩:=x;exact⟨_,e⟩
 |frz ob u=>obtain⟨e,_⟩:=x;exact⟨_,e⟩
 |tbl ps=>exact⟨_,x⟩
 |met f y=>exact⟨_,x⟩
 |ext φ=>obtain⟨_,e,_⟩:=x;exact e
theorem HOk.on{P:Program}{w:World}{H:Hp}{h h':Heap}(x:HOk P w H h)(k:∀b u o,H b=some u->h.get? b=some o->h'.get? b=some o):HOk P w H h':=fun a o e=>
 (x a o e).stay (fun b u hb q=>by
  rcases hb with rfl|hb
  ·exact k _ _ _ e q
  ·exact k _ _ _ hb q) (fun _ q=>q) fun _ _ q=>q
section
variable{P:Program}{w:World}{K:Fg}{mg:Str->Option Value}{base:Heap}{N:List Str}{qual:Str}{scope:Scope}{f:Addr}{cd:Value}{A:Around}{outer:List Env}{s:Shared}{H:Hp}{E:XK}
theorem mQ:fR (CX1 P w) (db (CX1 P w) P w K mg base N qual scope f cd A outer s H E) E:=by
 rintro pins σ H1 s1 e s' I ⟨a,C,a0,H',B,rfl,os,bare,un,hok,fl,kb,kth,kt,na,q⟩;have own:∀b o,s.heap.get? b=some o->b∉frs outer->b∉frs (db (CX1 P w) P w K mg base N qual scope f cd A outer s H E).stack:=fun b o hb hn hm=>by
  rcases Kq.mp (show b∈s.heap.objs.size::frs outer from hm)with rfl|hm
  ·exact absurd (Ko hb) (Lz _)
  ·exact hn hm
 have inS:∀b,b∈frs outer->b∈frs (db (CX1 P w) P w K mg base N qual scope f cd A outer s H E).stack:=fun b h=>Ku s.heap.objs.size h;have un0:Un (frs outer) [] H H1 s.heap s1.heap:=I.base;have no:∀b:Addr,b∉([]:List Addr):=fun b z=>by cases z
 refine wpAny_leaves_onW I.ok.frames rfl fl fun h' x1 x2=>?_;have keep:∀b o,s.heap.get? b=some o->H b=none->b∉frs outer->B.get? b=some o:=fun b o hb hn hf=>
  kb b o (un0.keep b o hb hn hf (no b)) (un0.free b o hb hn (no b)) (own b o hb hf)
 have ther:∀b o,s.heap.get? b=some o->b∉frs outer->∃o',B.get? b=some o':=fun b o hb hf=>by
  obtain⟨o1,h1⟩:=un0.there b o hb (no b);exact kth b o1 h1 (own b o hb hf)
 have slot:∀b o,s.heap.get? b=some o->H b=none->b∈frs outer->∃sl,h'.get? b=some { o with slots:=sl }:=fun b o hb hn hf=>by
  obtain⟨sl,h1⟩:=un0.slot b o hb hn hf (no b);obtain⟨sl2,h2⟩:=un.slot b _ h1 (un0.free b o hb hn (no b)) (Ku _ hf) (no b);obtain⟨_,o3,h3,nf⟩:=fl.2.2.1.mem (inS b hf);rw[h2]at h3;cases h3;obtain⟨sl4,h4⟩:=x2 b _ h2 nf;exact⟨sl4,h4⟩
 refine⟨a,C,a0,H',B,rfl,os.trans I.os,bare,⟨fun b o hb hn hf _=>x1.1 b o (keep b o hb hn hf),fun b o hb hn hf _=>slot b o hb hn hf,fun b o hb hn _=>?_,fun b o hb _=>?_,fun b xs e=>un.tups b xs (un0.tups b xs e),fun b o u e=>un.frzs b o u (un0.frzs b o u e),fun b ps e=>?_⟩,
  hok.on fun b u o e1 e2=>x1.1 b o (kt b u o e1 e2),x1,keep,ther,fun b u o e1 e2=>?_,na,q⟩
 ·obtain⟨o1,h1⟩:=un0.there b o hb (no b)
  exact un.free b o1 h1 (un0.free b o hb hn (no b)) (no b)
 ·by_cases hf:b∈frs outer
  ·obtain⟨o1,h1⟩:=un0.there b o hb (no b)
   obtain⟨o2,h2⟩:=un.there b o1 h1 (no b);obtain⟨_,o3,h3,nf⟩:=x1.2.2.1.mem hf;exact⟨o3,h3⟩
  ·obtain⟨o',e'⟩:=ther b o hb hf
   exact⟨o',x1.1 b o' e'⟩
 ·obtain⟨m1,e1⟩:=un0.tbls b ps e
  obtain⟨m2,e2⟩:=un.tbls b _ e1;exact⟨m1++m2,by rw[e2,Pr]⟩
 ·have e2:h'.get? b=some o:=e2
  obtain⟨o1,h1⟩:∃o1,s'.heap.get? b=some o1:=(hok b u e1).there;have h2:=kt b u o1 e1 h1;have h3:=x1.1 b o1 h2;rw[e2]at h3;cases h3;exact h2
theorem JM{pins:List (Addr×Obj)}{σ:St}{H1:Hp}{s1:Shared}{a C:Addr}{h2:Heap}{us:List Value}(I:Inv (db (CX1 P w) P w K mg base N qual scope f cd A outer s H E) pins σ H1 s1)(hx:Heap.MadeExcOf s1.heap h2 a (.ref C) us)(q:∀a,H1 a=none->E (.ref C) (some a) H1):
  (db (CX1 P w) P w K mg base N qual scope f cd A outer s H E).xe (.ref a) { s1 with heap:=h2 }:=by
 have un0:Un (frs outer) [] H H1 s.heap s1.heap:=I.base;have no:∀b:Addr,b∉([]:List Addr):=fun b z=>by cases z
 have own:∀b o,s.heap.get? b=some o->b∉frs outer->b∉frs (db (CX1 P w) P w K mg base N qual scope f cd A outer s H E).stack:=fun b o hb hn hm=>by
  rcases Kq.mp (show b∈s.heap.objs.size::frs outer from hm)with rfl|hm
  ·exact absurd (Ko hb) (Lz _)
  ·exact hn hm
 have hin:∀env∈(db (CX1 P w) P w K mg base N qual scope f cd A outer s H E).stack,∀b,env.frame=some b->b∈frs (db (CX1 P w) P w K mg base N qual scope f cd A outer s H E).stack:=fun env he b hb=>NA.mpr ⟨env,he,hb⟩;have na:H1 a=none:=by
  cases e:H1 a with
  |none=>rfl
  |some u=>obtain⟨o,ho⟩:=(I.hok a u e).there;rw[hx.new]at ho;cases ho
 have get:∀b o,s1.heap.get? b=some o->b∉frs (db (CX1 P w) P w K mg base N qual scope f cd A outer s H E).stack->(Ob s1.heap (frs (db (CX1 P w) P w K mg base N qual scope f cd A outer s H E).stack)).get? b=some o:=fun b o e n=>Ru _ e n;refine wpAny_leaves_madeW (s:={ s1 with heap:=h2 }) I.ok.frames rfl (fun b o e=>RE _ e) (PySem.W.funFrames_hide I.stack hin) hx fun h' t x1 x2 x3 x4=>?_;have keep:∀b o,s.heap.get? b=some o->H b=none->b∉frs outer->(Ob s1.heap (frs (db (CX1 P w) P w K mg base N qual scope f cd A outer s H E).stack)).get? b=some o:=fun b o hb hn hf=>
  get b o (un0.keep b o hb hn hf (no b)) (own b o hb hf)
 have ther:∀b o,s.heap.get? b=some o->b∉frs outer->∃o',(Ob s1.heap (frs (db (CX1 P w) P w K mg base N qual scope f cd A outer s H E).stack)).get? b=some o':=fun b o hb hf=>by
  obtain⟨o1,h1⟩:=un0.there b o hb (no b);exact⟨o1,get b o1 h1 (own b o hb hf)⟩
 have trk:∀b u o,H1 b=some u->s1.heap.get? b=some o->(Ob s1.heap (frs (db (CX1 P w) P w K mg base N qual scope f cd A outer s H E).stack)).get? b=some o:=fun b u o e1 e2=>get b o e2 fun hm=>by
  rw[I.stkFree b hm]at e1;cases e1
 refine⟨a,C,.ref t,H1,_,rfl,I.os,I.bare,⟨fun b o hb hn hf _=>x1.1 b o (keep b o hb hn hf),fun b o hb hn hf _=>?_,fun b o hb hn _=>un0.free b o hb hn (no b),fun b o hb _=>?_,un0.tups,un0.frzs,un0.tbls⟩,
  I.hok.on fun b u o e1 e2=>x1.1 b o (trk b u o e1 e2),x1,keep,ther,fun b u o e1 e2=>?_,na,q a na⟩
 ·obtain⟨sl,h1⟩:=un0.slot b o hb hn hf (no b)
  obtain⟨_,o3,h3,nf⟩:=I.stack.mem (Ku s.heap.objs.size hf:b∈s.heap.objs.size::frs outer);rw[h1]at h3;cases h3;obtain⟨sl4,h4⟩:=x4 b _ (hx.keeps _ _ h1) nf;exact⟨sl4,h4⟩
 ·by_cases hf:b∈frs outer
  ·obtain⟨_,o3,h3,nf⟩:=x1.2.2.1.mem hf
   exact⟨o3,h3⟩
  ·obtain⟨o',e'⟩:=ther b o hb hf
   exact⟨o',x1.1 b o' e'⟩
 ·have e2:h'.get? b=some o:=e2
  obtain⟨o1,h1⟩:=(I.hok b u e1).there;have h2:=trk b u o1 e1 h1;have h3:=x1.1 b o1 h2;rw[e2]at h3;cases h3;exact h2
end
noncomputable def xO(K:Fg)(C:Addr):Prop:=∃(Bn newId inN B nid initId:String)(bmN bmB:List Value),ExcBaseFacts Bn newId inN bmN/\bmB.contains (.type Bn)=true/\ExcBaseFacts B nid initId bmB/\
 ∀h,K.In h->∃nm q N bs bm hdct sn sub ab col dd k0 k1 k2 k3 k5,∃mN:Str->Option Value,bm.contains (.type "BaseException")=true/\mN "__init__"=none/\
  h.get? C=some (excClassObj nm q C N bs bm hdct sn sub ab col dd k0 k1 k2 k3 k5 newId)/\h.Ns N mN/\OwnTail h bmB bm
noncomputable def uz(C:Addr)(E:XK)(t:TA):TS:=fun _ σ H=>t σ H fun vs H1=>vs.length<=Kw/\∀a,H1 a=none->E (.ref C) (some a) H1
noncomputable def Ge(X:Cx)(C:Addr)(E:XK):Prop:=∀(pins:List (Addr×Obj))(σ:St)(H1:Hp)(s1:Shared)(a:Addr)(h2:Heap)(us:List Value),Inv X pins σ H1 s1->Heap.MadeExcOf s1.heap h2 a (.ref C) us->(∀a,H1 a=none->E (.ref C) (some a) H1)->X.xe (.ref a) { s1 with heap:=h2 }
theorem DP{P:Program}{w:World}{K:Fg}{mg:Str->Option Value}{base:Heap}{N:List Str}{qual:Str}{scope:Scope}{f:Addr}{cd:Value}{A:Around}{outer:List Env}{s:Shared}{H:Hp}{E:XK}{C:Addr}:
  Ge (db (CX1 P w) P w K mg base N qual scope f cd A outer s H E) C E:=fun _ _ _ _ _ _ _ I hx q=>JM I hx q
theorem yU{X:Cx}{C:Addr}{E:XK}{x:Str}{np cpos pos:Pos}{e:Expr}{es:List Expr}{t:TA}(hc:X.calm=true)(ec:xO X.K C)(hg:Gl X x)(hm:X.mg x=some (.ref C))(mk:Ge X C E)(ha:PA X (e::es) t)
  (hdb:(x==("__debug__":Str))=false:=by decide) (he:KC (e::es) X.env=(false,eval e X.env)::KC es X.env:=by rfl) (hpl:(backTo cpos (KC es X.env)).any (·.1)=false:=by rfl):
  PS X (.Raise (some (.Call (.Name x np) (e::es) [] cpos)) none pos) (uz C E t):=by
 intro pins s σ H D I h;obtain⟨Bn,newId,inN,B,nid,initId,bmN,bmB,Fn,hBn,F,ex⟩:=ec;obtain⟨nm,q,N,bs,bm,hdct,sn,sub,ab,col,dd,k0,k1,k2,k3,k5,mN,hbase,hni,hC,hN,hT⟩:=ex X.base I.ok.mod.kin;obtain⟨z,hs⟩:∃z,backTo cpos (KC (e::es) X.env)=(false,z)::backTo cpos (KC es X.env):=⟨_,by rw[he];rfl⟩;refine wpAny_Raise_call_subU (C:=C) (nm:=nm) (q:=q) (N:=N) (bs:=bs) (hdct:=hdct) (sn:=sn) (sub:=sub) (ab:=ab) (col:=col) (dd:=dd) (k0:=k0) (k1:=k1) (k2:=k2) (k3:=k3) (k5:=k5) Fn hBn F hbase (I.ok.hd hc) (by rw[hs];show(false||(backTo cpos (KC es X.env)).any (·.1))=false;rw[hpl];rfl) hni (qx I hg hm ⟨rfl,?_⟩ hdb);have hA:=ha cpos pins s σ H _ I h;rw[hs]at hA ⊢;refine N1 (thn hA fun us s2 ⟨vs,H2,I2,r2,q2⟩=>⟨rfl,by rw[<-r2.length];exact q2.1,I2.bk _ _ hC,hN.keeps I2.bk,hT.keeps I2.bk,fun h' a hx=>mk pins σ H2 s2 a h' us I2 hx q2.2⟩)
theorem yV{K:Fg}{C:Addr}(q:PySem.W.excIn K C [.type "ValueError",.type "Exception",.type "BaseException",.type "object"] "ValueError.__new__"=true):xO K C:=by
 refine⟨_,_,_,_,_,_,_,_,M9,M9.hasB,M9,fun h X=>?_⟩;unfold PySem.W.excIn at q
 split at q
 ·rename_i dd cd sl ho
  split at q
  ·rename_i C' bm k0 k1 k2 k3 n k5 hm hs
   simp only[LI,beq_iff_eq,Bool.not_eq_true']at q;obtain⟨⟨⟨⟨⟨rfl,rfl⟩,hdel⟩,ht⟩,hok⟩,hni⟩:=q;obtain⟨nm,bs,mro,ns,qn,hd,sn,sub,ab,col,del⟩:=cd;dsimp only at hm hdel hok hni;subst hm hdel;have hsl:sl=#[k0,k1,k2,k3,some (.builtin "ValueError.__new__"),k5]:=by
    obtain⟨l⟩:=sl;simp only at hs;rw[hs]
   subst hsl;have T:=PySem.W.tail_of_in X ht;exact⟨nm,qn,ns,bs,bm,hd,sn,sub,ab,col,dd,k0,k1,k2,k3,k5,_,T.hasType M9.hasBase,PySem.W.nsMap_none_of_in X hok hni,X _ _ ho,.of_isNs (PySem.W.isNs_of_in X hok),T⟩
  ·cases q
 ·cases q
end
section
open PySem.Spec
structure sr(X:Cx)(pins:List (Addr×Obj))(H:Hp)(B:Heap):Prop where
 s0:∀b o,X.s₀.heap.get? b=some o->b∉frs X.stack->∃o',B.get? b=some o'
 ce:∀x c,X.env.cells.lookup x=some c->∃o,B.get? c=some o
 pi:∀p∈X.pn++pins,B.get? p.1=some p.2
 tr:∀b u,H b=some u->∃o,B.get? b=some o
section
variable{X:Cx}{pins:List (Addr×Obj)}{σ:St}{H:Hp}{s:Shared}{B h':Heap}
theorem Inv.flew(I:Inv X pins σ H s)(hB:B.StaysIn s.heap)(K:sr X pins H B)(k:B.StaysIn h')(sm:s.heap.UpToSlots h')(ff:h'.FunFrames B X.stack):Inv X pins σ H { s with heap:=h' }:=by
 have notL:∀b o,X.s₀.heap.get? b=some o->b∉X.fs->b∉frs X.stack:=fun b o e n z=>by
  rcases Kq.mp (I.stkSub b z)with rfl|z
  ·exact absurd (KI (Ko e) I.ok.above) (Lz _)
  ·exact n z
 have same:∀b o,(∃o',B.get? b=some o')->s.heap.get? b=some o->h'.get? b=some o:=fun b o ⟨o',e⟩ q=>by
  have:=hB b o' e;rw[q]at this;cases this;exact k b _ e
 obtain⟨m,ns,hm⟩:=I.loc;refine⟨I.ok,I.os,I.bare,⟨fun b o e n hf hx=>?_,fun b o e n hf hx=>?_,I.base.free,fun b o e hx=>?_,I.base.tups,I.base.frzs,I.base.tbls⟩,⟨m,sm.ns ns,fun i x v h1 h2 h3=>?_⟩,fun x c e=>?_,I.free,I.freeC,fun p hp=>?_,?_,I.len⟩
 ·exact same b o (K.s0 b o e (notL b o e hf)) (I.base.keep b o e n hf hx)
 ·obtain⟨sl,h1⟩:=I.base.slot b o e n hf hx
  have hb:b∈frs X.stack:=by
   rcases I.ok.stk with q|⟨q,_⟩
   ·rw[q];exact hf
   ·rw[q]
    obtain⟨env,he,hb⟩:=NA.mp hf;exact NA.mpr ⟨env,Ku _ he,hb⟩
  obtain⟨_,o3,h3,nf⟩:=I.stack.mem hb;rw[h1]at h3;cases h3;obtain⟨sl2,h4⟩:=sm _ _ h1 nf;exact⟨sl2,h4⟩
 ·by_cases hb:b∈frs X.stack
  ·obtain⟨_,o3,h3,_⟩:=ff.mem hb
   exact⟨o3,h3⟩
  ·obtain⟨o',e'⟩:=K.s0 b o e hb
   exact⟨o',k b o' e'⟩
 ·obtain⟨u,r,l⟩:=hm i x v h1 h2 h3
  refine⟨u,r,?_⟩;rcases l with l|⟨l1,c,l2,o,l3,l4⟩
  ·exact .inl l
  ·exact .inr ⟨l1,c,l2,o,same c o (K.ce x c l2) l3,l4⟩
 ·obtain⟨v,o,l3,l4⟩:=I.cell x c e
  exact⟨v,o,same c o (K.ce x c e) l3,l4⟩
 ·obtain⟨_,r⟩:=I.pin p hp
  exact⟨k _ _ (K.pi p hp),r⟩
 ·exact I.hok.on fun b u o e1 e2=>same b o (K.tr b u e1) e2
theorem Inv.thrown{E:XK}{e:Value}{s':Shared}(hex:X.ex=[])(hfn:∀x,X.fn x=true)(I:Inv X pins σ H s)(x:CX1 X.prog X.w X.stack H s E e s'):
  ∃(a C:Addr)(a0:Value)(H':Hp)(B:Heap),e=.ref a/\Inv X pins σ H' s'/\sr X pins H' B/\Pb B X.stack a (.ref C) a0 s'.heap/\H' a=none/\E (.ref C) (some a) H':=by
 obtain⟨a,C,a0,H',B,rfl,os,bare,un,hok,fl,kb,kth,kt,na,q⟩:=x;have notS:∀b:Addr,b≠X.env.locals->b∉X.fs->b∉frs X.stack:=fun b n1 n2 z=>(Kq.mp (I.stkSub b z)).elim n1 n2;refine⟨a,C,a0,H',B,rfl,I.call' (ch:=[]) os un hok bare (fun b z=>by cases z),⟨fun b o e n=>?_,fun x c e=>?_,fun p hp=>?_,fun b u e=>?_⟩,fl,na,q⟩
 ·obtain⟨o1,h1⟩:=I.base.there b o e (by rw[hex];intro z;cases z)
  exact kth b o1 h1 n
 ·obtain⟨v,o,l3,l4⟩:=I.cell x c e
  refine kth c o l3 (notS c (fun z=>?_) fun z=>?_)
  ·obtain⟨m,⟨o2,es,ep,h2,h3,_⟩,_⟩:=I.loc
   rw[<-z,l3]at h2;cases h2;rw[l4]at h3;cases h3
  ·obtain⟨_,o3,h3,_⟩:=I.ok.funs.mem z
   exact absurd (KI (Ko h3) (I.ok.cab x c (hfn x) e)) (Lz _)
 ·obtain⟨h1,h2,h3,h4,_⟩:=I.pin p hp
  exact kb _ _ h1 h2 (notS _ h3 h4)
 ·obtain⟨o,ho⟩:=(hok b u e).there
  exact⟨o,kt b u o e ho⟩
theorem BK{a C D:Addr}{a0:Value}{i:Nat}{n y:Str}{np hpos:Pos}{b0:Stmt}{suite:List Stmt}{Q:Flow->Shared->Prop}(hst:X.stack=X.env::X.outer)(hfr:X.env.frame=some X.env.locals)(I:Inv X pins σ H s)(Hd:sr X pins H B)
  (fl:Pb B X.stack a (.ref C) a0 s.heap) (hg:Gl X y) (hm:X.mg y=some (.ref D)) (hx:PySem.W.exmOne X.K (.ref C) (.ref D)=some true) (hN:X.N.Nodup) (hi:X.N[i]?=some n) (hloc:X.env.scope.names.lookup n=some .local)
  (k:∀s3 oe vs,Inv X pins (σ.set i (some (.ref a))) H s3->s3.heap.get? a=some oe->oe.cls=.ref C->oe.data=.fields vs->a≠X.env.locals->
   wpAny (model X.prog X.w) (X.A.mark (some (.ref a))) (execs (b0::suite) X.env) (fun f s4=>wpAny (model X.prog X.w) X.A (do bindName X.env n .none;Rg X.env n hpos) (fun _ s5=>Q f s5) X.xe s4) (fun _ _=>False) s3)
  (hdb:(y==("__debug__":Str))=false:=by decide):
  wpAny (model X.prog X.w) X.A (noteFrame (.ref a) X.env) (fun _ s2=>wpAny (model X.prog X.w) X.A (setFlight (.ref a) none) (fun _ s3=>wpAny (model X.prog X.w) X.A (handleBy (.ref a) X.env [.ExceptHandler (some (.Name y np)) (some n) (b0::suite) hpos]) Q X.xe s3) X.xe s2) X.xe s:=by
 have fl0:Pb B (X.env::X.outer) a (.ref C) a0 s.heap:=hst▸fl;refine wpAny_looks_onW (hst▸I.ok.frames) hfr fl0 fun h1 x1 u1=>?_;refine wpAny_landsW x1 fun h2 x2 u2=>?_;have I2:Inv X pins σ H { s with heap:=h2 }:=I.flew fl.1 Hd x2.1 (u1.trans u2) (hst▸x2.2.2.1);refine wpAny_handleBy_cons (codeAny_handlers_test (N3 I2.ok.kind hg (Qr (by rw[I2.ok.glob];exact I2.mod.glob.keeps I2.bk) hm ?_) hdb)) (by intro q;cases q);have LT:Rn (model X.prog X.w) h2 (typeOf (.ref a)) (.ref C):=by
  obtain⟨ob,hob,hc⟩:=x2.there;rw[<-hc];exact(Rn.ld hob).andThen .now
 refine(PySem.W.exm_one I2.kIn LT hx).here ?_;refine codeAny_handlers_suite_as ?_;refine lands_againW x2 fun h3 x3 u3=>?_;have I3:Inv X pins σ H { s with heap:=h3 }:=I2.flew x2.1 Hd x3.1 u3 (hst▸x3.2.2.1);obtain⟨oe,vs,hoe,hoec,hoed,_⟩:=x3.first;have neL:a≠X.env.locals:=fun z=>by
  obtain⟨m,⟨o2,es,ep,h2,h3,_⟩,_⟩:=I3.loc;rw[<-z]at h2;have h2:=hoe.symm.trans h2;cases h2;rw[hoed]at h3;cases h3
 refine pj I3 hN hi (.inl hloc) (v:=.ref a) rfl (fun s4 I4 ⟨b,sb,hb⟩=>?_) (.inr hloc);have neb:a≠b:=fun z=>by
  rcases hb with hb|hb
  ·exact neL (z.trans hb)
  ·obtain⟨v,o,e1,e2⟩:=I3.cell n b hb
   rw[<-z]at e1;have e1:=hoe.symm.trans e1;cases e1;rw[hoed]at e2;cases e2
 exact LM (k s4 oe vs I4 ((sb.2 a neb).trans hoe) hoec hoed neL) (fun _ _ q=>q) fun _ _ z=>z.elim
theorem DQ{M:Model}{A:Around}{E:Value->Shared->Prop}{i:Nat}{n:Str}{v:V}{Q:Unit->Shared->Prop}(I:Inv X pins (σ.set i (some v)) H s)(hl:i<σ.length)(hN:X.N.Nodup)(hi:X.N[i]?=some n)(hloc:X.env.scope.names.lookup n=some .local)
  (h:∀s',Inv X pins (σ.set i none) H s'->Q () s'):wpAny M A (unbindName X.env n) Q E s:=by
 obtain⟨m,hn,hm⟩:=id I.loc;have hcls:(X.env.scope.kind== .class||(X.env.scope.kind== .module&&X.env.locals != X.env.globals))=false:=by rw[I.ok.kind];rfl
 obtain⟨u,_,lk⟩:=hm i n v hi (by rw[NI hl]) (.inl hloc);have hv:m n=some u:=by
  rcases lk with⟨_,e⟩|⟨k,_⟩
  ·exact e
  ·have k:X.env.scope.names.lookup n=some .cell\/X.env.scope.names.lookup n=some .free:=k
   rw[hloc]at k;rcases k with k|k<;>cases k
 have cne:=I.cne;have above:∀b o,X.s₀.heap.get? b=some o->b≠X.env.locals:=fun b o e=>K3 (KI (Ko e) I.ok.above);refine wpAny_unbindName_local hloc hn hv hcls fun h' w hn' hs=>?_;refine h _ ⟨I.ok,I.os,I.bare,⟨fun b o e n hb hx=>(hs.2 b (above b o e)).trans (I.base.keep b o e n hb hx),fun b o e n hb hx=>?_,I.base.free,fun b o e hx=>?_,I.base.tups,I.base.frzs,I.base.tbls⟩,⟨_,hn',fun j y v' e1 e2 e3=>?_⟩,fun y c e=>?_,I.free,I.freeC,fun p hp=>?_,I.hok.on fun b ob o e1 e2=>(hs.2 b fun z=>?_).trans e2,by simpa using I.len⟩
 ·obtain⟨sl,e1⟩:=I.base.slot b o e n hb hx
  exact⟨sl,(hs.2 b (above b o e)).trans e1⟩
 ·obtain⟨o',e1⟩:=I.base.there b o e hx
  exact⟨o',(hs.2 b (above b o e)).trans e1⟩
 ·by_cases hj:j=i
  ·subst hj
   rw[NI hl]at e2;cases e2
  ·rw[N0 (LK hj)]at e2
   obtain⟨u',r',q⟩:=hm j y v' e1 (by rw[N0 (LK hj)];exact e2) e3;refine⟨u',r',?_⟩;rcases q with⟨k,e⟩|⟨k,c,e,z⟩
   ·refine .inl ⟨k,?_⟩
    have:y≠n:=fun e=>hj (rS hN e1 (e▸hi));simp[this,e]
   ·exact .inr ⟨k,c,e,z.sameBut hs (cne y c e)⟩
 ·obtain⟨w',z⟩:=I.cell y c e
  exact⟨w',z.sameBut hs (cne y c e)⟩
 ·obtain⟨e,n,ne,nf,d⟩:=I.pin p hp
  exact⟨(hs.2 p.1 ne).trans e,n,ne,nf,d⟩
 ·rw[z,I.free]at e1;cases e1
theorem mR{i:Nat}{n:Str}{hpos:Pos}{Q:Unit->Shared->Prop}(I:Inv X pins σ H s)(hN:X.N.Nodup)(hi:X.N[i]?=some n)(hloc:X.env.scope.names.lookup n=some .local)(h:∀s',Inv X pins (σ.set i none) H s'->Q () s'):
  wpAny (model X.prog X.w) X.A (do bindName X.env n .none;Rg X.env n hpos) Q X.xe s:=by
 have hl:i<σ.length:=by rw[I.len];exact(Kn.mp hi).1
 refine Kg (wpAny_bindName (rT I hN hi (.inl hloc) (v:=.non) rfl (fun s' I'=>?_) (.inr hloc)));exact OO (DQ I' hl hN hi hloc h)
end
noncomputable abbrev Cx.tried(X:Cx)(pn:List (Addr×Obj))(E:Value->Shared->Prop):Cx:={ X with pn:=pn,xe:=E }
noncomputable abbrev Cx.suite(X:Cx)(a:Addr)(pn:List (Addr×Obj)):Cx:={ X with A:=X.A.mark (some (.ref a)),calm:=false,pn:=pn,xe:=fun _ _=>False }
section
variable{X:Cx}{pins pn pins':List (Addr×Obj)}{σ:St}{H:Hp}{s:Shared}{B:Heap}{E:Value->Shared->Prop}{a:Addr}
theorem Inv.tried(I:Inv X pins σ H s):Inv (X.tried (X.pn++pins) E) [] σ H s:=
 ⟨⟨I.ok.mod,I.ok.kind,I.ok.glob,I.ok.blt,I.ok.above,I.ok.inj,I.ok.has,I.ok.cab,I.ok.hd,I.ok.frames,I.ok.stk,I.ok.exf,I.ok.bs,I.ok.bsz,I.ok.noex,I.ok.exfs,I.ok.funs,I.ok.frf⟩,
  I.os,I.bare,I.base,I.loc,I.cell,I.free,I.freeC,fun p hp=>I.pin p (by simpa using hp),I.hok,I.len⟩
theorem Inv.untried(I:Inv (X.tried (X.pn++pins) E) pins' σ H s):Inv X pins σ H s:=
 ⟨⟨I.ok.mod,I.ok.kind,I.ok.glob,I.ok.blt,I.ok.above,I.ok.inj,I.ok.has,I.ok.cab,I.ok.hd,I.ok.frames,I.ok.stk,I.ok.exf,I.ok.bs,I.ok.bsz,I.ok.noex,I.ok.exfs,I.ok.funs,I.ok.frf⟩,
  I.os,I.bare,I.base,I.loc,I.cell,I.free,I.freeC,fun p hp=>I.pin p (Ll _ hp),I.hok,I.len⟩
theorem Inv.suite{oe:Obj}{vs:Array Value}(I:Inv X pins σ H s)(e:s.heap.get? a=some oe)(hd:oe.data=.fields vs)(hn:H a=none)(hL:a≠X.env.locals):Inv (X.suite a (X.pn++pins++[(a,oe)])) [] σ H s:=
 ⟨⟨I.ok.mod,I.ok.kind,I.ok.glob,I.ok.blt,I.ok.above,I.ok.inj,I.ok.has,I.ok.cab,(fun z=>by cases z),I.ok.frames,I.ok.stk,I.ok.exf,I.ok.bs,I.ok.bsz,I.ok.noex,I.ok.exfs,I.ok.funs,I.ok.frf⟩,
  I.os,I.bare,I.base,I.loc,I.cell,I.free,I.freeC,fun p hp=>by
   rcases Lf.mp (show p∈X.pn++pins++[(a,oe)]from by simpa using hp)with hp|hp
   ·exact I.pin p hp
   ·obtain rfl:p=(a,oe):=by simpa using hp
    refine⟨e,hn,hL,fun z=>?_,fun v q=>by have q:oe.data=_:=q;rw[hd]at q;cases q⟩;obtain⟨_,o3,h3,nf⟩:=I.funs.mem z;have h3:=e.symm.trans h3;cases h3;exact nf _ hd,I.hok,I.len⟩
theorem Inv.unsuite(ok:X.Ok){q:Addr×Obj}(I:Inv (X.suite a (X.pn++pins++[q])) pins' σ H s):Inv X pins σ H s:=
 ⟨ok,I.os,I.bare,I.base,I.loc,I.cell,I.free,I.freeC,fun p hp=>I.pin p (Ll _ (Ll _ hp)),I.hok,I.len⟩
theorem Inv.blank(I:Inv X pins σ H s):Inv X pins (Ls X.N.length none) H s:=by
 obtain⟨m,ns,_⟩:=id I.loc;exact⟨I.ok,I.os,I.bare,I.base,⟨m,ns,fun i x v _ h2 _=>by
  rw[Qs]at h2
  split at h2<;>cases h2⟩,I.cell,I.free,I.freeC,I.pin,I.hok,by simp⟩
theorem sr.untried(K:sr (X.tried (X.pn++pins) E) pins' H B):sr X pins H B:=⟨K.s0,K.ce,fun p hp=>K.pi p (Ll _ hp),K.tr⟩
end
noncomputable def Jb(K:Fg)(D:Addr)(len i:Nat)(E:XK)(tb:TS)(ts:Addr->Addr->TS):TS:=fun Z σ H=>tb Z σ H/\∀C a H',E (.ref C) (some a) H'->H' a=none->PySem.W.exmOne K (.ref C) (.ref D)=some true/\
 ts C a { nx:=fun σ' H''=>Z.nx (σ'.set i none) H'',bk:=fun σ' H''=>Z.bk (σ'.set i none) H'',ct:=fun σ' H''=>Z.ct (σ'.set i none) H'',rt:=Z.rt } ((Ls len none).set i (some (.ref a))) H'
theorem Jc{X:Cx}{D:Addr}{E:XK}{i:Nat}{n y:Str}{np hpos pos:Pos}{b0:Stmt}{body suite:List Stmt}{tb:TS}{ts:Addr->Addr->TS}(hst:X.stack=X.env::X.outer)(hfr:X.env.frame=some X.env.locals)(hex:X.ex=[])(hfn:∀x,X.fn x=true)
  (hg:Gl X y) (hm:X.mg y=some (.ref D)) (hN:X.N.Nodup) (hi:X.N[i]?=some n) (hloc:X.env.scope.names.lookup n=some .local)
  (hb:∀pn xe,fR (CX1 X.prog X.w) (X.tried pn xe) E->PSs (X.tried pn xe) body tb)
  (hs:∀(a C:Addr)(oe:Obj)(pn:List (Addr×Obj)),oe.cls=.ref C->(a,oe)∈pn->PSs (X.suite a pn) (b0::suite) (ts C a)) (hdb:(y==("__debug__":Str))=false:=by decide):
  PS X (.Try body [.ExceptHandler (some (.Name y np)) (some n) (b0::suite) hpos] [] [] pos) (Jb X.K D X.N.length i E tb ts):=by
 intro pins s σ H Z I h;obtain⟨h1,h2⟩:=h;have hp:fR (CX1 X.prog X.w) (X.tried (X.pn++pins) fun e s'=>∃(a C:Addr)(a0:Value)(σ':St)(H':Hp)(B:Heap),e=.ref a/\Inv X pins σ' H' s'/\sr X pins H' B/\Pb B X.stack a (.ref C) a0 s'.heap/\H' a=none/\E (.ref C) (some a) H') E:=fun pins' σ' H' s1 e s' I' x=>by
  obtain⟨a,C,a0,H2,B,rfl,I2,K2,fl,na,q⟩:=Inv.thrown (X:=X.tried (X.pn++pins) _) hex hfn I' x;exact⟨a,C,a0,σ',H2,B,rfl,I2.untried,K2.untried,fl,na,q⟩
 refine wpAny_Try_except (LM (hb _ _ hp [] s σ H Z I.tried h1) (fun f s1 q=>?_) fun e s1 ⟨a,C,a0,σ',H',B,he,I',K',fl,na,q⟩=>?_)
 ·cases f with
  |next=>
   obtain⟨σ',H',I',q⟩:=q;exact Oc ⟨σ',H',I'.untried,q⟩
  |brk=>obtain⟨σ',H',I',q⟩:=q;exact⟨σ',H',I'.untried,q⟩
  |cont=>obtain⟨σ',H',I',q⟩:=q;exact⟨σ',H',I'.untried,q⟩
  |ret u=>obtain⟨v,σ',H',I',r,q⟩:=q;exact⟨v,σ',H',I'.untried,r,q⟩
 ·subst he
  obtain⟨hx,ht⟩:=h2 C a H' q na;refine BK hst hfr I'.blank K' fl hg hm hx hN hi hloc (fun s3 oe vs I3 e3 c3 d3 n3=>?_) hdb;refine LM (hs a C oe _ c3 (K5 _ (Kr.mpr rfl)) [] s3 _ H' _ (I3.suite e3 d3 na n3) ht) (fun f s4 q=>?_) fun _ _ z=>z;cases f with
  |next=>obtain⟨σ4,H4,I4,q⟩:=q;exact mR (I4.unsuite I3.ok) hN hi hloc fun s5 I5=>⟨_,H4,I5,q⟩
  |brk=>obtain⟨σ4,H4,I4,q⟩:=q;exact mR (I4.unsuite I3.ok) hN hi hloc fun s5 I5=>⟨_,H4,I5,q⟩
  |cont=>obtain⟨σ4,H4,I4,q⟩:=q;exact mR (I4.unsuite I3.ok) hN hi hloc fun s5 I5=>⟨_,H4,I5,q⟩
  |ret u=>obtain⟨v,σ4,H4,I4,r,q⟩:=q;exact mR (I4.unsuite I3.ok) hN hi hloc fun s5 I5=>⟨v,_,H4,I5,r,q⟩
end
section
open PySem.Spec PySem.W
structure ExI(K:Frag)(C:Addr):Prop where
 ga:findIn K (.ref C) "__getattribute__"=some (some (.builtin "BaseException.__getattribute__"))
 gt:findIn K (.ref C) "__getattr__"=some none
 cl:findIn K (.ref C) "__class__"=some (some (.builtin "object.__class__"))
 mo:mroIn K C (.type "object")=some true
 mb:mroIn K C (.type "BaseException")=some true
section
variable{prog:Program}{w:World}{A:Around}{E:Value->Shared->Prop}{h:Heap}{g:Array Q5}{d:Drawn}{t:Nat}{os:OsState}{a:Addr}{o:Obj}{C:Addr}{K:Frag}
theorem Jd{R:Result->Shared->Prop}(X:K.In h)(Z:ExI K C)(hx:h.get? a=some o)(hc:o.cls=.ref C)(hq:R (.ok (.ret (.ref C))) ⟨h,g,d,t,os⟩):
  codeAny (model prog w) A (.call (.builtin "getset_descriptor.__get__") ⟨[.builtin "object.__class__",.ref a,.ref C],[]⟩) R ⟨h,g,d,t,os⟩:=by
 have hT5:(⟨h,g,d,t,os⟩:Shared).TypeIs (.builtin "object.__class__") "getset_descriptor":=OY;have L1:=looks_mroIn (M:=model prog w) X Z.mo;refine Pc Rr.plain F.entry_gs_get (Rr.check _ _ _ _ _ _ _ _ hT5 (F.args_gs_get _ _ _) ?_)
 repeat (any_goals (first|assumption| (with_reducible refine NQ hx ?_;rw[hc])| (rw[F.owner_object_class];with_reducible refine L1.at ?_)|wp_step))
 refine⟨RX _ (by decide+kernel),Mx F.entry_object_class ?_⟩
 repeat (any_goals (first|assumption| (with_reducible refine NQ hx ?_;rw[hc])|wp_step))
theorem Ff{tk:Tok}{Q:Fin->Shared->Prop}(X:K.In h)(Z:ExI K C)(hx:h.get? a=some o)(hc:o.cls=.ref C)(hq:Q (.done (.ret (.ref C))) ⟨h,g,d,t,os⟩):
  wpAny (model prog w) A (Builtin.«object.__getattribute__» ⟨[.ref a,.str "__class__" tk],[]⟩) Q E ⟨h,g,d,t,os⟩:=by
 have hT5:(⟨h,g,d,t,os⟩:Shared).TypeIs (.builtin "object.__class__") "getset_descriptor":=OY;have f5:=OY;have f6:=Rr.lookup;have f7:=F.slot_gs_set.lookup;have L1:=RY (M:=model prog w) X Z.cl
 repeat (any_goals (first|assumption| (with_reducible refine NQ hx ?_;rw[hc])|with_reducible refine L1.at ?_|wp_step))
 refine Jd X Z hx hc ?_
 repeat (any_goals (first|assumption|wp_step))
theorem Fh{M:Model}{nameV:Value}{Q:Unit->Shared->Prop}(X:K.In h)(Z:ExI K C)(hx:h.get? a=some o)(hc:o.cls=.ref C)(hq:Q () ⟨h,g,d,t,os⟩):wpAny M A (Qm "BaseException.__getattribute__" ⟨[.ref a,nameV],[]⟩) Q E ⟨h,g,d,t,os⟩:=by
 have hk:builtinKind "BaseException.__getattribute__"=some .slot:=by decide+kernel
 have hsplit:splitId "BaseException.__getattribute__"=some ("BaseException","__getattribute__"):=by decide+kernel
 have L1:=looks_mroIn (M:=M) X Z.mb;have ha:=F.args_bexc_ga (.ref a) nameV;simp only[Qm,hk,hsplit];refine Kg ?_
 ·unfold Rc
  repeat (first| (with_reducible refine NQ hx ?_;rw[hc])|with_reducible refine L1.at ?_|wp_step)
  exact hq
theorem Ha{tk:Tok}{R:Result->Shared->Prop}(X:K.In h)(Z:ExI K C)(hx:h.get? a=some o)(hc:o.cls=.ref C)(hq:R (.ok (.ret (.ref C))) ⟨h,g,d,t,os⟩):
  codeAny (model prog w) A (.call (.builtin "BaseException.__getattribute__") ⟨[.ref a,.str "__class__" tk],[]⟩) R ⟨h,g,d,t,os⟩:=
 Pc Rh.ga.plain F.entry_bexc_ga (Fh X Z hx hc (Ff X Z hx hc hq))
theorem JN{tk:Tok}{Q:Value->Shared->Prop}(X:K.In h)(Z:ExI K C)(hx:h.get? a=some o)(hc:o.cls=.ref C)(hq:Q (.ref C) ⟨h,g,d,t,os⟩):
  wpAny (model prog w) A (getAttrBy (.ref a) (.str "__class__" tk) false) Q E ⟨h,g,d,t,os⟩:=by
 have f3:=Rh.ga.bind (.ref a);have hx2:(Ny "BaseException.__getattribute__"==Ny "object.__getattribute__")=false:=by decide+kernel
 have hx1:(onTheHeap (KY C)&&Ny "BaseException.__getattribute__"==Ny "object.__getattribute__")=false:=by rw[hx2];rfl
 have L1:=RY (M:=model prog w) X Z.ga;have L2:=RY (M:=model prog w) X Z.gt
 repeat (any_goals (first|assumption| (with_reducible refine NQ hx ?_;rw[hc])|with_reducible refine L1.at ?_|with_reducible refine L2.at ?_|wp_step))
 refine Ha X Z hx hc ?_
 repeat (any_goals (first|assumption|wp_step))
theorem Hb{Q:Option Value->Shared->Prop}(X:K.In h)(Z:ExI K C)(hx:h.get? a=some o)(hc:o.cls=.ref C)(hq:Q (some (.ref C)) ⟨h,g,d,t+1,os⟩):wpAny (model prog w) A (getAttr? (.ref a) "__class__") Q E ⟨h,g,d,t,os⟩:=by
 unfold getAttr? getAttrBy?
 repeat (any_goals (first|assumption|with_reducible apply JN X Z hx hc|wp_step))
end
theorem su{K:Frag}{a C:Addr}{o:Obj}(Z:ExI K C)(hcl:∃c' d' cd' sl',K.lookup C=some ⟨c',d',.cls cd',sl'⟩)(hc:o.cls=.ref C):KitX K (.ref a) (.ref C) (fun h=>h.get? a=some o) where
 ty:=fun _ _ _ e=>hc▸(Looks.ld e).andThen .now
 it:=fun _ _ X _=>by
  obtain⟨c',d',cd',sl',ho⟩:=hcl;intro A' Q' E' s' k q;unfold isType loadHead;exact Kg (wpAny_loadPart (k _ _ (X _ _ ho)) (Ki q))
 ne:=fun h tp dd its n sl X htp=>by
  obtain⟨c',d',cd',sl',ho⟩:=hcl;refine Bool.eq_false_iff.mpr fun q=>?_;have e:C=tp:=KY.inj (beq_iff_eq.mp q);subst e;have z:=(X _ _ ho).symm.trans htp;cases z
 ca:=fun{_ _ _ _ _ s} X e k=>by
  obtain⟨h,g,d,t,os⟩:=s;exact Hb X Z e hc k
end
section
open PySem.Spec PySem.W
theorem uA:NR "ValueError"=some (.type "ValueError"):=by decide+kernel
noncomputable def FnX(P:Program)(w:World)(K:Frag)(mg:Str->Option Value)(base:Heap)(k:Nat)(x:Str)(ps:List Str)(sp:Sp):Prop:=
 ∃f fd,bg P w K mg base (CX1 P w) k f fd ps sp/\mg x=some (.ref f)/\keepIn K (.ref f)=true/\fi K fd ps []
theorem i9{X:Cx}{k:Nat}{x:Str}{ps:List Str}{sp:Sp}{E:XK}{p pos:Pos}{e:Expr}{es:List Expr}{t:TA}(F:FnX X.prog X.w X.K X.mg X.base k x ps sp)(hr:bO k X.A)(hx:fR (CX1 X.prog X.w) X E)(ha:PA X (e::es) t)(hg:Gl X x:=by rfl)
  (hdb:(x==("__debug__":Str))=false:=by decide) (he:KC (e::es) X.env=(false,eval e X.env)::KC es X.env:=by rfl) (hpl:(backTo pos (KC es X.env)).any (·.1)=false:=by rfl):
  PE X (.Call (.Name x p) (e::es) [] pos) (aq sp [] E t):=by
 obtain⟨f,fd,ok,m,kp,b⟩:=F;exact Am ok hr hg m kp b .nil hx ha hdb he hpl
noncomputable def Gf(K:Frag)(C:Addr):Prop:=∃c' d' cd' sl',K.lookup C=some ⟨c',d',.cls cd',sl'⟩
noncomputable def yW(K:Frag)(C a:Addr):List V->Hp->VK->Prop:=fun xs H Q=>ExI K C/\Gf K C/\((∃D b,xs=[.ref a,.ref D]/\kitOne K (.ref C) (.ref D)=some b/\Q (.bl b) H)\/
 (∃T b,xs=[.ref a,.ty T]/\kitOne K (.ref C) (.type T)=some b/\Q (.bl b) H)\/(∃(p:Addr)(Ds:List Addr)(b:Bool),xs=[.ref a,.ref p]/\H p=some (.tup (Ds.map V.ref))/\kitAny K (.ref C) (Ds.map KY)=some b/\Q (.bl b) H))
theorem uB:∀{Ds:List Addr} {us:List Value},aG (Ds.map V.ref) us->us=Ds.map KY
 | [],_,h=>by cases h;rfl
 |D::Ds,_,h=>by
  cases h with
  |cons r rs=>
   rw[uB rs,show _=KY D from r];rfl
theorem oM{X:Cx}{a C:Addr}{oe:Obj}(hp:(a,oe)∈X.pn)(hc:oe.cls=.ref C):dn X (.builtin "isinstance") (yW X.K C a):=by
 intro pins s σ H xs us Q I r h;obtain⟨Z,hcl,h⟩:=h;have e0:=(I.pin (a,oe) (Ll _ hp)).1;rcases h with⟨D,b,rfl,e,q⟩|⟨T,b,rfl,e,q⟩|⟨p,Ds,b,rfl,hH,e,q⟩
 ·obtain⟨u,v,rfl,ru,rv⟩:=r.two
  cases ru;cases rv;exact kia_one (su Z hcl hc) I.kIn e0 e (fun z=>nomatch z) fun tk=>⟨.bl b,H,I.tok tk,rfl,q⟩
 ·obtain⟨u,v,rfl,ru,rv⟩:=r.two
  cases ru;cases (show v=LF T from rv);exact kia_one (su Z hcl hc) I.kIn e0 e (fun z=>nomatch z) fun tk=>⟨.bl b,H,I.tok tk,rfl,q⟩
 ·obtain⟨u,v,rfl,ru,rv⟩:=r.two
  cases ru;cases rv;obtain⟨_,its,ri,o',ho',hcl',⟨n,hda⟩,hdn⟩:=I.hok p _ hH;obtain⟨oc,od,oda,osl⟩:=o';cases hcl';cases hda;cases hdn;have ei:=uB ri;subst ei;exact kia_tup (su Z hcl hc) I.kIn e0 ho' e (fun z=>nomatch z) fun tk=>⟨.bl b,H,I.tok tk,rfl,q⟩
noncomputable def Gg(K:Frag)(D:Addr)(len i:Nat)(tb:XK->TS)(ts:Addr->Addr->TS):TS:=fun Z σ H=>∃E:XK,Jb K D len i E (tb E) ts Z σ H
theorem Hc{X:Cx}{D:Addr}{i:Nat}{n y:Str}{np hpos pos:Pos}{b0:Stmt}{body suite:List Stmt}{tb:XK->TS}{ts:Addr->Addr->TS}(hst:X.stack=X.env::X.outer)(hfr:X.env.frame=some X.env.locals)(hex:X.ex=[])(hfn:∀x,X.fn x=true)
  (hg:Gl X y) (hm:X.mg y=some (.ref D)) (hN:X.N.Nodup) (hi:X.N[i]?=some n) (hloc:X.env.scope.names.lookup n=some .local)
  (hb:∀E pn xe,fR (CX1 X.prog X.w) (X.tried pn xe) E->PSs (X.tried pn xe) body (tb E))
  (hs:∀(a C:Addr)(oe:Obj)(pn:List (Addr×Obj)),oe.cls=.ref C->(a,oe)∈pn->PSs (X.suite a pn) (b0::suite) (ts C a)) (hdb:(y==("__debug__":Str))=false:=by decide):
  PS X (.Try body [.ExceptHandler (some (.Name y np)) (some n) (b0::suite) hpos] [] [] pos) (Gg X.K D X.N.length i tb ts):=fun pins s σ H Z I ⟨E,h⟩=>
 Jc hst hfr hex hfn hg hm hN hi hloc (hb E) hs hdb pins s σ H Z I h
end
section
open PySem.Spec PySem.W
section
variable{P:Program}{w:World}{K:Frag}{mg:Str->Option Value}{base:Heap}{k:Nat}{f:Addr}{fd:KD}{ps:List Str}
theorem bg.up{sp:Sp}(F:bg P w K mg base CX0 k f fd ps sp):bg P w K mg base (CX1 P w) k f fd ps sp:=
 ⟨F.len,fun A outer s H args us vs Q E hr he hb hv hs=>Nl (F.run A outer s H args us vs Q E hr he hb hv hs) fun r s' h=>by
  cases r with
  |ok fl=>cases fl<;>exact h
  |error e=>exact(show False from h).elim⟩
theorem bg.or{CX:CXT}{sp sp':Sp}(F:bg P w K mg base CX k f fd ps sp)(G:bg P w K mg base CX k f fd ps sp'):bg P w K mg base CX k f fd ps (fun vs H Q E=>sp vs H Q E\/sp' vs H Q E):=
 ⟨fun vs H Q E h=>h.elim (F.len vs H Q E) (G.len vs H Q E),fun A outer s H args us vs Q E hr he hb hv hs=>hs.elim (F.run A outer s H args us vs Q E hr he hb hv) (G.run A outer s H args us vs Q E hr he hb hv)⟩
end
theorem Def.fnX{P:Program}{w:World}{K:Frag}{mg:Str->Option Value}{base:Heap}{x:Str}{st:Stmt}{N ps:List Str}{f:Addr}{fd:KD}{k:Nat}{sp:Sp}(D:Def K mg x st ps f fd)(S:az N ps (am st))(len:∀vs H Q E,sp vs H Q E->vs.length=ps.length)
  (hbody:∀(cdv:Value)(A:Around)(outer:List Env)(s:Shared)(H:Hp)(vs:List V)(Q:VK)(E:XK),bO k (A.deeper (envOfC x (am st) s.heap.objs.size f cdv))->sp vs H Q E->
   ∃t,PSs (db (CX1 P w) P w K mg base N x (am st) f cdv A outer s H E) (dz st) t/\t { nx:=fun _ H'=>Q .non H',rt:=Q } (start N vs) H):bg P w K mg base (CX1 P w) (k+1) f fd ps sp:=by
 obtain⟨oc,od,kV,doc,pm,an,cdv,ct,osl,rfl,lk,hcd⟩:=D.fn.ex;exact A3 lk hcd S len fun A outer s H vs Q E hr hsp=>hbody cdv A outer s H vs Q E hr hsp
end
section
open PySem.Spec PySem.W
section
variable{P:Program}{w:World}{K:Frag}{mg:Str->Option Value}{base:Heap}
noncomputable def FnM(P:Program)(w:World)(K:Frag)(mg:Str->Option Value)(base:Heap)(k:Nat)(C:Addr)(m:Str)(ps:List Str)(sp:Sp):Prop:=
 ∃f fd,bg P w K mg base CX0 k f fd ps sp/\yc K C m f/\fi K fd ps []
structure dQ(K:Frag)(C:Addr)(m qual:Str)(st:Stmt)(ps:List Str)(f:Addr)(fd:KD):Prop where
 fn:Fun K m qual st f fd
 mt:yc K C m f
 b:fi K fd ps []
theorem dQ.ok{C:Addr}{m qual:Str}{st:Stmt}{N ps:List Str}{f:Addr}{fd:KD}{k:Nat}{sp:Sp}(D:dQ K C m qual st ps f fd)(S:az N ps (am st))(len:∀vs H Q E,sp vs H Q E->vs.length=ps.length)
  (hbody:∀(cdv:Value)(A:Around)(outer:List Env)(s:Shared)(H:Hp)(vs:List V)(Q:VK)(E:XK),bO k (A.deeper (envOfC qual (am st) s.heap.objs.size f cdv))->sp vs H Q E->
   ∃t,PSs (db CX0 P w K mg base N qual (am st) f cdv A outer s H E).nox (dz st) t/\t { nx:=fun _ H'=>Q .non H',rt:=Q } (start N vs) H):FnM P w K mg base (k+1) C m ps sp:=
 ⟨f,fd,D.fn.ok S len hbody,D.mt,D.b⟩
noncomputable def FnI(P:Program)(w:World)(K:Frag)(mg:Str->Option Value)(base:Heap)(k:Nat)(C:Addr)(ps:List Str)(sp:Sp):Prop:=
 ∃f fd,bg P w K mg base CX0 k f fd ps sp/\Mk K C f/\fi K fd ps []
structure yX(K:Frag)(C:Addr)(qual:Str)(st:Stmt)(ps:List Str)(f:Addr)(fd:KD):Prop where
 fn:Fun K "__init__" qual st f fd
 made:Mk K C f
 b:fi K fd ps []
theorem yX.ok{C:Addr}{qual:Str}{st:Stmt}{N ps:List Str}{f:Addr}{fd:KD}{k:Nat}{sp:Sp}(D:yX K C qual st ps f fd)(S:az N ps (am st))(len:∀vs H Q E,sp vs H Q E->vs.length=ps.length)
  (hbody:∀(cdv:Value)(A:Around)(outer:List Env)(s:Shared)(H:Hp)(vs:List V)(Q:VK)(E:XK),bO k (A.deeper (envOfC qual (am st) s.heap.objs.size f cdv))->sp vs H Q E->
   ∃t,PSs (db CX0 P w K mg base N qual (am st) f cdv A outer s H E).nox (dz st) t/\t { nx:=fun _ H'=>Q .non H',rt:=Q } (start N vs) H):FnI P w K mg base (k+1) C ps sp:=
 ⟨f,fd,D.fn.ok S len hbody,D.made,D.b⟩
end
section
variable{X:Cx}{k:Nat}{C:Addr}{m:Str}{ps:List Str}{sp:Sp}{p pos apos:Pos}{o e:Expr}{es:List Expr}{ta:TE}{t:TA}
theorem aA{a:Expr}{f:Str}{p:Pos}{te:TE}(ha:PE X (.Attribute a f p) te)(hr:PA X es t):PA X (.Attribute a f p::es) (aa te t):=dS ha hr rfl
theorem dc{pl:Sem Bool}(F:FnM X.prog X.w X.K X.mg X.base k C m ps sp)(hr:bO k X.A)(c:Cls X.K C)(he:PE X o ta)(ha:PA X (e::es) t)
  (hst:KC (e::es) X.env=(false,eval e X.env)::KC es X.env:=by rfl) (hpl:(backTo pos (KC es X.env)).any (·.1)=false:=by rfl)
  (ht:eval (.Call (.Attribute o m apos) (e::es) [] pos) X.env=(do
   let ov <-eval o X.env
   standAt apos.atName
   let(f,first) <-holding [ov] (QA ov m pl)
   callWith pos f first (backTo pos (KC (e::es) X.env)) (Pj pos (N8 [] X.env))):=by rfl):
  PE X (.Call (.Attribute o m apos) (e::es) [] pos) (dq C m sp [] E0 ta t):=by
 obtain⟨f,fd,ok,mt,b⟩:=F;exact An he c mt ok hr b .nil A7 ha hst hpl ht
theorem Fi{x:Str}(F:FnI X.prog X.w X.K X.mg X.base k C ps sp)(hr:bO (k+1) X.A)(hm:X.mg x=some (.ref C))(ha:PA X (e::es) t)(hg:Gl X x:=by rfl)
  (hdb:(x==("__debug__":Str))=false:=by decide) (he:KC (e::es) X.env=(false,eval e X.env)::KC es X.env:=by rfl) (hpl:(backTo pos (KC es X.env)).any (·.1)=false:=by rfl):
  PE X (.Call (.Name x p) (e::es) [] pos) (xI C sp [] E0 t):=by
 obtain⟨f,fd,ok,mk,b⟩:=F;exact Gv mk ok hr hg hm b .nil A7 ha hdb he hpl
end
end
section
open PySem.Spec PySem.W
structure fJ(K:Frag)(C:Addr):Prop where
 cl:Cls K C
 n1:d9 K C "dealt"
 n2:d9 K C "cards"
 n3:d9 K C "sizes"
 n4:d9 K C "hands"
 n5:d9 K C "views"
 n6:d9 K C "deeds"
set_option genInjectivity false in
structure GF extends Glo where
 Table:Addr
structure Gh(P:Program)(w:World)(K:Frag)(mg:Str->Option Value)(G:GF):Prop where
 tb:BJ P w K mg G.toGlo
 m_Table:mg "Table"=some (.ref G.Table)
 ct:fJ K G.Table
theorem Fj{P:Program}{w:World}{K:Frag}{mg:Str->Option Value}{G:Glo}{aT:Addr}(t:BJ P w K mg G)(m:mg "Table"=some (.ref aT))(pg:plainGet K aT Ti=true)(hd:hasDictIn K aT=true)(po:plainOver K aT=true)(sa:findIn K (.ref aT) "__setattr__"=some (some (.builtin "object.__setattr__")))
  (n1:findIn K (.ref aT) "dealt"=some none) (n2:findIn K (.ref aT) "cards"=some none) (n3:findIn K (.ref aT) "sizes"=some none) (n4:findIn K (.ref aT) "hands"=some none) (n5:findIn K (.ref aT) "views"=some none) (n6:findIn K (.ref aT) "deeds"=some none):Gh P w K mg ⟨G,aT⟩:=
 ⟨t,m,⟨⟨pg,hd,po,sa⟩,n1,n2,n3,n4,n5,n6⟩⟩
end
section
open PySem.Spec PySem.W
set_option genInjectivity false in
structure Errs where
 CardError:Addr
 NoPack:Addr
 TooMany:Addr
 NoHand:Addr
 NoRow:Addr
 NoSaying:Addr
theorem gS{X:Cx}{st:List Stmt}:PSs X st dD:=fun _ _ _ _ _ _ h=>h.elim
theorem AD{C:Addr}{E:XK}{t:TA}{D:jk}{σ:St}{H:Hp}(h:t σ H fun vs H1=>vs.length<=Kw/\∀a,H1 a=none->E (.ref C) (some a) H1):uz C E t D σ H:=h
end
section
open PySem.Spec PySem.W
section
variable{P:Program}{w:World}{K:Frag}{mg:Str->Option Value}{base:Heap}
noncomputable def gu(P:Program)(w:World)(K:Frag)(mg:Str->Option Value)(base:Heap)(k:Nat)(C:Addr)(m:Str)(ps:List Str)(sp:Sp):Prop:=
 ∃f fd,bg P w K mg base (CX1 P w) k f fd ps sp/\yc K C m f/\fi K fd ps []
theorem dQ.fnX{C:Addr}{m qual:Str}{st:Stmt}{N ps:List Str}{f:Addr}{fd:KD}{k:Nat}{sp:Sp}(D:dQ K C m qual st ps f fd)(S:az N ps (am st))(len:∀vs H Q E,sp vs H Q E->vs.length=ps.length)
  (hbody:∀(cdv:Value)(A:Around)(outer:List Env)(s:Shared)(H:Hp)(vs:List V)(Q:VK)(E:XK),bO k (A.deeper (envOfC qual (am st) s.heap.objs.size f cdv))->sp vs H Q E->
   ∃t,PSs (db (CX1 P w) P w K mg base N qual (am st) f cdv A outer s H E) (dz st) t/\t { nx:=fun _ H'=>Q .non H',rt:=Q } (start N vs) H):bg P w K mg base (CX1 P w) (k+1) f fd ps sp:=by
 obtain⟨oc,od,kV,doc,pm,an,cdv,ct,osl,rfl,lk,hcd⟩:=D.fn.ex;exact A3 lk hcd S len fun A outer s H vs Q E hr hsp=>hbody cdv A outer s H vs Q E hr hsp
end
section
variable{X:Cx}{k:Nat}{C:Addr}{m:Str}{ps:List Str}{sp:Sp}{p pos apos:Pos}{o e:Expr}{es:List Expr}{ta:TE}{t:TA}
theorem jY{pl:Sem Bool}{E:XK}(F:gu X.prog X.w X.K X.mg X.base k C m ps sp)(hr:bO k X.A)(hx:fR (CX1 X.prog X.w) X E)(c:Cls X.K C)(he:PE X o ta)(ha:PA X (e::es) t)
  (hst:KC (e::es) X.env=(false,eval e X.env)::KC es X.env:=by rfl) (hpl:(backTo pos (KC es X.env)).any (·.1)=false:=by rfl)
  (ht:eval (.Call (.Attribute o m apos) (e::es) [] pos) X.env=(do
   let ov <-eval o X.env
   standAt apos.atName
   let(f,first) <-holding [ov] (QA ov m pl)
   callWith pos f first (backTo pos (KC (e::es) X.env)) (Pj pos (N8 [] X.env))):=by rfl):
  PE X (.Call (.Attribute o m apos) (e::es) [] pos) (dq C m sp [] E ta t):=by
 obtain⟨f,fd,ok,mt,b⟩:=F;exact An he c mt ok hr b .nil hx ha hst hpl ht
end
end
section
open PySem.Spec PySem.W
set_option genInjectivity false in
structure GQ extends GF,Errs
structure yY(K:Frag)(G:Errs)(C:Addr)(b1 b2:Bool):Prop where
 exm:exmOne K (.ref C) (.ref G.CardError)=some true
 xi:ExI K C
 ic:Gf K C
 k1:kitOne K (.ref C) (.ref G.NoHand)=some b1
 k2:kitOne K (.ref C) (.ref G.NoSaying)=some b2
 k3:kitOne K (.ref C) (.type "ValueError")=some true
 k4:kitAny K (.ref C) [.ref G.NoPack,.ref G.NoRow,.ref G.TooMany]=some false
structure Gi(K:Frag)(G:Errs):Prop where
 nh:yY K G G.NoHand true false
 ns:yY K G G.NoSaying false true
structure cE(P:Program)(w:World)(K:Frag)(mg:Str->Option Value)(G:GQ):Prop where
 tb:BJ P w K mg G.toGlo
 m_Table:mg "Table"=some (.ref G.Table)
 ct:fJ K G.Table
 ok:Gi K G.toErrs
 m_CardError:mg "CardError"=some (.ref G.CardError)
 m_NoPack:mg "NoPack"=some (.ref G.NoPack)
 m_TooMany:mg "TooMany"=some (.ref G.TooMany)
 m_NoHand:mg "NoHand"=some (.ref G.NoHand)
 m_NoRow:mg "NoRow"=some (.ref G.NoRow)
 m_NoSaying:mg "NoSaying"=some (.ref G.NoSaying)
 ex_NoHand:xO K G.NoHand
 ex_NoSaying:xO K G.NoSaying
theorem cE.cl_Table{P:Program}{w:World}{K:Frag}{mg:Str->Option Value}{G:GQ}(T:cE P w K mg G):Cls K G.Table:=T.ct.cl
theorem AE{K:Frag}{C c1 c2 c3 c4 c5 c6:Addr}{b1 b2:Bool}{v1:Value}{v2:Option Addr}{v3:ClassData}{v4:Array (Option Value)}
  (e:exmOne K (.ref C) (.ref c1)=some true) (ga:findIn K (.ref C) "__getattribute__"=some (some (.builtin "BaseException.__getattribute__"))) (gt:findIn K (.ref C) "__getattr__"=some none) (cl:findIn K (.ref C) "__class__"=some (some (.builtin "object.__class__")))
  (mo:mroIn K C (.type "object")=some true) (mb:mroIn K C (.type "BaseException")=some true) (lk:K.lookup C=some ⟨v1,v2,.cls v3,v4⟩)
  (k1:kitOne K (.ref C) (.ref c4)=some b1) (k2:kitOne K (.ref C) (.ref c6)=some b2) (k3:kitOne K (.ref C) (.type "ValueError")=some true) (k4:kitAny K (.ref C) [.ref c2,.ref c5,.ref c3]=some false):yY K ⟨c1,c2,c3,c4,c5,c6⟩ C b1 b2:=
 ⟨e,⟨ga,gt,cl,mo,mb⟩,⟨_,_,_,_,lk⟩,k1,k2,k3,k4⟩
theorem Fk{P:Program}{w:World}{K:Frag}{mg:Str->Option Value}{G:GF}{c1 c2 c3 c4 c5 c6:Addr}(t:Gh P w K mg G)
  (m1:mg "CardError"=some (.ref c1)) (m2:mg "NoPack"=some (.ref c2)) (m3:mg "TooMany"=some (.ref c3)) (m4:mg "NoHand"=some (.ref c4)) (m5:mg "NoRow"=some (.ref c5)) (m6:mg "NoSaying"=some (.ref c6))
  (q4:excIn K c4 [.type "ValueError",.type "Exception",.type "BaseException",.type "object"] "ValueError.__new__"=true) (q6:excIn K c6 [.type "ValueError",.type "Exception",.type "BaseException",.type "object"] "ValueError.__new__"=true)
  (e4:yY K ⟨c1,c2,c3,c4,c5,c6⟩ c4 true false) (e6:yY K ⟨c1,c2,c3,c4,c5,c6⟩ c6 false true):cE P w K mg ⟨G,⟨c1,c2,c3,c4,c5,c6⟩⟩:=
 ⟨t.tb,t.m_Table,t.ct,⟨e4,e6⟩,m1,m2,m3,m4,m5,m6,yV q4,yV q6⟩
end
end L2
section
namespace L2
open PySem
end L2
end
section
namespace L2
open PySem
noncomputable def sw(K:Fg)(t:TA):TE:=fun σ H Q=>t σ H fun xs H1=>∃(p:Addr)(ns:List Int),xs=[.ref p]/\SqL K H1 p (ns.map V.int)/\ns.length<64/\
 ∀(q:Addr)(H':Hp)(ms:List Int),H1 q=none->ap H1 H'->H' q=some (.lst (ms.map V.int))->ms.Pairwise (· < ·)->(∀y,y∈ms↔y∈ns)->Q (.ref q) H'
theorem DR{K:Fg}{t:TA}{σ:St}{H:Hp}{Q:VK} (h:t σ H fun xs H1=>∃(p:Addr)(ns:List Int),xs=[.ref p]/\SqL K H1 p (ns.map V.int)/\ns.length<64/\
 ∀(q:Addr)(H':Hp)(ms:List Int),H1 q=none->ap H1 H'->H' q=some (.lst (ms.map V.int))->ms.Pairwise (· < ·)->(∀y,y∈ms↔y∈ns)->Q (.ref q) H'):sw K t σ H Q:=h
theorem yZ{α:Type}[DecidableEq α]:∀{l m:List α},l.Nodup->(∀x∈l,x∈m)->l.length<=m.length
 | [],m,_,_=>Lk _
 |x::l,m,nd,h=>by
  have hx:x∈m:=h x Ks;obtain⟨n1,n2⟩:=MZ.mp nd;have:=yZ (m:=m.erase x) n2 fun y hy=>(List.mem_erase_of_ne (fun e:y=x=>n1 (e▸hy))).mpr (h y (Ku _ hy));rw[List.length_erase_of_mem hx]at this;have:=List.length_pos_of_mem hx;rw[KQ];omega
end L2
end
namespace L2
open PySem PyProof.Rows
noncomputable def GE(P:Hp->V->Prop)(σ:St)(H0:Hp)(te:TE):Prop:=∀H,ap H0 H->∀Q:VK,(∀x H',ap H H'->P H' x->Q x H')->te σ H Q
noncomputable def GA(P:Hp->V->Prop)(σ:St)(H0:Hp)(n:Nat)(ta:TA):Prop:=∀H,ap H0 H->∀R:List V->Hp->Prop,(∀xs H',ap H H'->xs.length=n->(∀x∈xs,P H' x)->R xs H')->ta σ H R
theorem GA.nil{P:Hp->V->Prop}{σ:St}{H0:Hp}:GA P σ H0 0 ag:=fun H s R q=>F2 (q [] H (ap.refl _) rfl fun _ h=>(nomatch h))
theorem GA.cons{P:Hp->V->Prop}(st:∀H H' x,ap H H'->P H x->P H' x){σ:St}{H0:Hp}{n:Nat}{te:TE}{tr:TA}(b:GE P σ H0 te)(t:GA P σ H0 n tr):GA P σ H0 (n+1) (aa te tr):=fun H s R q=>
 C8 (b H s _ fun x H1 s1 px=>t H1 (s.trans s1) _ fun xs H2 s2 hl hb=>q (x::xs) H2 (s1.trans s2) (by rw[KQ,hl]) fun y hy=>by
  rcases Kq.mp hy with rfl|hy
  ·exact st _ _ _ s2 px
  ·exact hb y hy)
section
variable{K:Fg}{vs:List V}{H:Hp}{Q:VK}{E:XK}
noncomputable def y7(H:Hp)(x:V):Option Sy->Prop
 |some t=>cb H x t
 |none=>(∃i,x=.int i)\/∃b g,x=.ref b/\H b=some (.tup (av g))
theorem y7.keep{H H':Hp}(k:dF H H'){x:V}{o:Option Sy}(h:y7 H x o):y7 H' x o:=by
 cases o with
 |some t=>exact cb.keep k h
 |none=>
  rcases h with h|⟨b,g,e,h⟩
  ·exact .inl h
  ·exact .inr ⟨b,g,e,k _ _ h⟩
structure Ke(H H2:Hp)(r:Addr)(c h most:Nat)(ss:List Sy):Prop where
 same:ap H H2
 new:H r=none
 at_:∃xs,H2 r=some (.lst xs)/\xM H2 xs ss
 ne:ss≠[]
 ok:∀s∈ss,s.Ok c h/\s.words<=most
end
section
variable{K:Fg}{vs:List V}{H:Hp}{Q:VK}{E:XK}
open KF
noncomputable def iaR:IA->V
 |none=>.non
 |some c=>.int c
theorem JO(a:IA):iaV (iaR a)=some a:=by cases a<;>rfl
noncomputable def wAt(w:List Nat)(c:Int):Int:=(w.getD c.toNat 0:Nat)
noncomputable def kR(w:List Nat)(h:Int)(cs:List Int)(a:IA):Prop:=
 (a=none/\∀c∈cs,wAt w c≠h)\/∃c,a=some c/\c∈cs/\wAt w c=h/\∀d∈cs,wAt w d=h->c<=d
theorem kR.uniq{w:List Nat}{h:Int}{cs ds:List Int}(m:∀y,y∈cs↔y∈ds){a b:IA}(x:kR w h cs a)(y:kR w h ds b):a=b:=by
 rcases x with⟨rfl,x⟩|⟨c,rfl,x1,x2,x3⟩
 ·rcases y with⟨rfl,_⟩|⟨d,rfl,y1,y2,_⟩
  ·rfl
  ·exact absurd y2 (x d ((m d).mpr y1))
 ·rcases y with⟨rfl,y⟩|⟨d,rfl,y1,y2,y3⟩
  ·exact absurd x2 (y c ((m c).mp x1))
  ·have h1:=x3 d ((m d).mpr y1) y2
   have h2:=y3 c ((m c).mp x1) x2;rw[show c=d by omega]
theorem kR.stay{w:List Nat}{h c d:Int}{cs:List Int}(x:kR w h cs (some d))(e:¬c<d):kR w h (cs++[c]) (some d):=by
 rcases x with⟨z,_⟩|⟨d',z,x1,x2,x3⟩
 ·cases z
 ·cases z
  refine .inr ⟨d,rfl,Ll _ x1,x2,fun y hy hz=>?_⟩;rcases Lf.mp hy with z|z
  ·exact x3 y z hz
  ·rw[Kr.mp z]
   omega
theorem Fl{w:List Nat}{c:Int}(h0:0<=c)(h1:c<w.length):atI (av w) c=some (.int (wAt w c)):=by
 obtain⟨n,rfl⟩:∃n:Nat,c=(n:Int):=⟨c.toNat,by omega⟩;have hn:n<w.length:=by omega
 refine cN ?_;unfold wAt av;rw[Kz,Kj hn];simp[KG,Kj hn]
noncomputable def li(_:Fg):Sp:=fun vs H Q _=>∃(t p:Addr)(w:List Nat)(h:Int)(ms:List Int),vs=[.ref t,.int h,.ref p]/\H t=some (.tup (av w))/\H p=some (.lst (ms.map V.int))/\ms.Pairwise (· < ·)/\(∀c∈ms,0<=c/\c<w.length)/\
 ∀a,kR w h ms a->Q (iaR a) H
noncomputable def jv(K:Fg):TS:=(ar (eX (cX K (ad 2)) (ao 3) (bD (br (tOp rEq (tOp (eY K) (ad 0) (ad 3)) (ad 1))) (aN (ad 3)) bv))
 (aN (tC .non)))
theorem xc(h:li K vs H Q E):jv K { nx:=fun _ H'=>Q .non H',rt:=Q } (start ["deal","holder","rising","card"] vs) H:=by
 obtain⟨t,p,w,h,ms,rfl,et,ep,pw,hb,q⟩:=h;show jv K _ [some _,some _,some _,none] _;unfold jv;right;refine nH (ms.map V.int) (SqL.of ep) (fun i σ' H2=>∃u:Option V,σ'=[some (.ref t),some (.int h),some (.ref p),u]/\H2=H/\∀c∈ms.take i,wAt w c≠h) ⟨none,rfl,rfl,fun c hc=>by simp at hc⟩ ?_ ?_ ?_
 ·rintro i σ' H2 hi ⟨u,rfl,rfl,_⟩
  exact SqL.of ep
 ·rintro i x σ' H2 hx ⟨u,rfl,rfl,hn⟩
  rw[Kz]at hx;obtain⟨c,hc,rfl⟩:=QR.mp hx;have hm:c∈ms:=Ky hc;right;refine bS (SqT.of et) (Fl (hb c hm).1 (hb c hm).2) ?_;right;by_cases e:wAt w c=h
  ·rw[if_pos (decide_eq_true e)]
   right;refine q (some c) (.inr ⟨c,rfl,hm,e,fun d hd he=>?_⟩);obtain⟨j,hj⟩:=Rf hd;obtain⟨hi1,hi2⟩:=Kn.mp hc;obtain⟨hj1,hj2⟩:=Kn.mp hj;rcases P0 j i with z|z|z
   ·exact absurd he (hn d (OX.mpr ⟨j,by rw[Qd z];exact hj⟩))
   ·subst z
    rw[<-hi2,<-hj2];exact Pq _
   ·have:=Nd.mp pw i j hi1 hj1 z
    rw[hi2,hj2]at this;omega
  ·rw[if_neg (by rw[decide_eq_false e];exact Kv)]
   right;refine⟨_,rfl,rfl,fun d hd=>?_⟩;rw[LJ,hc]at hd;rcases Lf.mp hd with z|z
   ·exact hn d z
   ·rw[Kr.mp z]
    exact e
 ·rintro σ' H2 ⟨u,rfl,rfl,hn⟩
  right;rw[Kk,Le]at hn;exact q none (.inl ⟨rfl,hn⟩)
noncomputable def bp(_:Fg):Sp:=fun vs H Q _=>∃z:Str,vs=[.bl true,.str z]/\Q .non H
noncomputable def eU(K:Fg):TS:=(bD (fY (tB (ad 0))) dD bv)
theorem rk(h:bp K vs H Q E):vs.length=2:=by
 obtain⟨z,rfl,q⟩:=h;rfl
theorem mh(h:bp K vs H Q E):eU K { nx:=fun _ H'=>Q .non H',rt:=Q } (start ["fit","reason"] vs) H:=by
 obtain⟨z,rfl,q⟩:=h;show eU K _ [some _,some _] _;unfold eU;right;exact q
noncomputable def gx(H:Hp)(c:Int)(x:V)(b:Bool):Prop:=(∃(p:Addr)(xs:List V),x=.ref p/\H p=some (.lst xs)/\xs.length<=1000/\(∀y∈xs,aL H y)/\b=xs.all fun y=>aJ y 0 (c-1))\/(aL H x/\lg (tyN H x) "list"=false/\b=false)
noncomputable def gy(_:Fg):Sp:=fun vs H Q _=>∃(x:V)(c:Int)(b:Bool),vs=[x,.int c]/\gx H c x b/\∀H',ap H H'->Q (.bl b) H'
noncomputable def km(K:Fg):TS:=(aN (mD (tCB (mW K) (aa (ad 0) (aa (tC (.ty "list")) ag))) (tCB (Bg K) (aa (cc (cX K (ad 0)) (fun _ _ _ _=>(ao 0)) (fun _ _ _ _=>bM) (fun _ _ _ _=>(aq (bu K) [] E0 (aa (ad 0) (aa (ad 1) ag)))) [none,some 1]) ag))))
theorem y8(h:gy K vs H Q E):km K { nx:=fun _ H'=>Q .non H',rt:=Q } (start ["thing","cards"] vs) H:=by
 obtain⟨x,c,b,rfl,cv,q⟩:=h;show km K _ [some _,some _] _;unfold km;right;rcases cv with⟨p,xs,rfl,ep,hl,kx,rfl⟩|⟨k,n,rfl⟩
 ·refine F4 (.lst ep) (rE K) ?_
  right;refine fU xs (SqL.of ep) (by omega) (fun i acc _=>acc=((xs.take i).map fun y=>aJ y 0 (c-1)).map V.bl) (fun _ _=>rfl) ?_ ?_
  ·rintro p' hp' C s' H' fp i y acc H2 hy ⟨s2,e2,l2,rfl⟩
   right;refine⟨y,c,rfl,(kx y (Ky hy)).same s2,?_⟩;refine bJ.put hp' (fun i acc H H' r k=>r) s2 e2 l2 ?_;rw[LJ,hy,KU,KU];rfl
  ·rintro p' acc H2 hp' s2 e2 rfl
   right;refine⟨p',xs.map fun y=>aJ y 0 (c-1),rfl,SqL.of (by rw[e2,Le]),?_⟩;rw[MV];exact q H2 s2
 ·refine ur k (by decide) ?_
  rw[n];right;exact q H (ap.refl H)
theorem BL{K:Fg}{H:Hp}{Q:VK}{E:XK}{p:Addr}{ns:List Int}{c:Int}(ep:H p=some (.lst (ns.map V.int)))(hl:ns.length<=1000)(hb:∀n∈ns,0<=n/\n<c)(q:∀H',ap H H'->Q (.bl true) H'):gy K [.ref p,.int c] H Q E:=
 ⟨_,_,true,rfl,.inl ⟨p,_,rfl,ep,by rw[Kk];exact hl,fun y hy=>by obtain⟨n,_,rfl⟩:=Lr.mp hy;exact .int n,by
  symm;rw[MV,Np];intro n hn;have:=hb n hn;exact fI (by omega) (by omega)⟩,q⟩
theorem nO{K:Fg}{ta tv:TE}{f:Str}{D:jk}{σ:St}{H:Hp}(h:tv σ H fun y H1=>ta σ H1 fun x H2=>∃a C dx fs,x=.ref a/\H2 a=some (.ins C dx fs)/\Cls K C/\d9 K C f/\fs.length<1000/\D.nx σ (upd H2 a (.ins C dx (gp f y fs)))):pI K ta tv f D σ H:=h
theorem bT{K:Fg}{ta:TE}{f:Str}{σ:St}{H:Hp}{Q:VK}(h:ta σ H fun x H1=>∃a C dx fs v,x=.ref a/\H1 a=some (.ins C dx fs)/\Cls K C/\d9 K C f/\fs.lookup f=some v/\Q v H1):cp K ta f σ H Q:=h
theorem Je{C:Addr}{sp:Sp}{dvs:List V}{E:XK}{t:TA}{σ:St}{H:Hp}{Q:VK}(h:t σ H fun vs H1=>∀x dx,H1 x=none->H1 dx=none->dx≠x->sp (.ref x::(vs++dvs)) (upd (upd H1 dx (.own x)) x (.ins C dx [])) (fun v H2=>v=.non/\Q (.ref x) H2) E):xI C sp dvs E t σ H Q:=h
theorem dh{C:Addr}{m:Str}{sp:Sp}{dvs:List V}{E:XK}{ta:TE}{t:TA}{σ:St}{H:Hp}{Q:VK}(h:ta σ H fun x H1=>∃a dx fs,x=.ref a/\H1 a=some (.ins C dx fs)/\fs.lookup m=none/\t σ H1 fun vs H2=>sp (x::(vs++dvs)) H2 Q E):dq C m sp dvs E ta t σ H Q:=h
noncomputable def Kx(x:Addr)(H H':Hp):Prop:=∀b o,b≠x->H b=some o->H' b=some o
theorem Kx.refl(x:Addr)(H:Hp):Kx x H H:=fun _ _ _ e=>e
theorem Kx.same{x:Addr}{H H1 H2:Hp}(k:Kx x H H1)(s:ap H1 H2):Kx x H H2:=fun b o n e=>s _ _ (k b o n e)
theorem Kx.upd{x:Addr}{H H1:Hp}{u:HO}(k:Kx x H H1):Kx x H (L2.upd H1 x u):=fun b o n e=>by rw[aM n];exact k b o n e
theorem jZ{H H':Hp}{x p:Addr}{ws:List (List Nat)}{C dx:Addr}{fs:List (Str×V)}(D:bH H p ws)(hx:H x=some (.ins C dx fs))(k:Kx x H H'):bH H' p ws:=by
 obtain⟨rs,e,hr⟩:=D;refine⟨rs,k _ _ (fun z=>by rw[z,hx]at e;cases e) e,Paired.mapP hr fun a w e=>k _ _ (fun z=>by rw[z,hx]at e;cases e) e⟩
theorem qh{H:Hp}{x b:Addr}{C dx:Addr}{fs:List (Str×V)}{xs:List V}(hx:H x=some (.ins C dx fs))(e:H b=some (.lst xs)):b≠x:=fun z=>by rw[z,hx]at e;cases e
theorem qQ{R:Hp->Prop}{H:Hp}{a C dx:Addr}{fs:List (Str×V)}(h:∀H3,Kx a H H3->H3 a=some (.ins C dx fs)->R H3):R (upd H a (.ins C dx fs)):=h _ (Kx.upd (Kx.refl _ _)) ay
structure Kp(M:List Addr)(H H':Hp):Prop where
 k:∀b o,H b=some o->(b∉M\/∀xs,o≠.lst xs)->H' b=some o
 f:∀b,H' b=none->H b=none
theorem Kp.of{M:List Addr}{H H':Hp}(s:ap H H'):Kp M H H':=⟨fun b o e _=>s b o e,fun b h=>s.free h⟩
theorem Kp.trans{M:List Addr}{H H1 H2:Hp}(a:Kp M H H1)(b:Kp M H1 H2):Kp M H H2:=⟨fun x o e h=>b.k x o (a.k x o e h) h,fun x h=>a.f x (b.f x h)⟩
theorem Kp.mono{M N:List Addr}{H H':Hp}(a:Kp M H H')(h:∀b∈M,b∈N):Kp N H H':=⟨fun x o e q=>a.k x o e (q.imp (fun n m=>n (h x m)) id),a.f⟩
theorem Kp.keep{M:List Addr}{H H':Hp}(a:Kp M H H'):dF H H':=fun b xs e=>a.k b _ e (.inr fun _ z=>nomatch z)
theorem Kp.tup{M:List Addr}{H H':Hp}(a:Kp M H H'){b:Addr}{xs:List V}(e:H b=some (.tup xs)):H' b=some (.tup xs):=a.keep _ _ e
theorem Kp.ins{M:List Addr}{H H':Hp}(a:Kp M H H'){b C dx:Addr}{fs:List (Str×V)}(e:H b=some (.ins C dx fs)):H' b=some (.ins C dx fs):=a.k b _ e (.inr fun _ z=>nomatch z)
theorem Kp.lst{M:List Addr}{H H':Hp}(a:Kp M H H'){b:Addr}{o:HO}(n:b∉M)(e:H b=some o):H' b=some o:=a.k b _ e (.inl n)
theorem Kp.new{M:List Addr}{H0 H H':Hp}(s:ap H0 H)(a:Kp M H H')(h:∀b∈M,H0 b=none):ap H0 H':=fun b o e=>a.lst (fun m=>by rw[h b m]at e;cases e) (s b o e)
theorem Kp.upd{M:List Addr}{H H':Hp}{l:Addr}{xs ys:List V}(a:Kp M H H')(e:H' l=some (.lst xs))(hl:l∈M):Kp M H (L2.upd H' l (.lst ys)):=⟨fun b o q n=>by
 by_cases z:b=l
 ·subst z
  have:=a.k _ _ q n;rw[e]at this;cases this;rcases n with n|n
  ·exact absurd hl n
  ·exact absurd rfl (n _)
 ·rw[aM z]
  exact a.k b o q n,fun b h=>by
 by_cases z:b=l
 ·subst z
  rw[ay]at h;cases h
 ·rw[aM z]at h
  exact a.f b h⟩
theorem Kp.off{M:List Addr}{H H1 H2:Hp}{l:Addr}{xs ys:List V}(a:Kp M H H1)(e:H1 l=some (.lst xs))(hl:l∈M)(o:Off l H1 H2)(e2:H2 l=some (.lst ys)):Kp M H H2:=by
 have:H2=L2.upd H1 l (.lst ys):=by
  funext b
  by_cases z:b=l
  ·subst z;rw[ay];exact e2
  ·rw[aM z];exact o b z
 rw[this];exact a.upd e hl
noncomputable def uC(M:List Addr)(H:Hp)(d:V)(m:List Nat×List V):Prop:=∃t h v,d=.ref t/\H t=some (.tup [.ref h,.ref v])/\H h=some (.tup (av m.1))/\H v=some (.lst m.2)/\v∉M
theorem uC.kp{M N:List Addr}{H H':Hp}{d:V}{m:List Nat×List V}(h:uC M H d m)(a:Kp N H H')(hn:∀b∈N,b∈M):uC M H' d m:=by
 obtain⟨t,x,v,e,h1,h2,h3,h4⟩:=h;exact⟨t,x,v,e,a.tup h1,a.tup h2,a.lst (fun z=>h4 (hn _ z)) h3,h4⟩
noncomputable def y9(pd ps pv pe:Addr)(T:TM):List (Str×V):=[("dealt",.ref pd),("cards",.int T.c),("sizes",.ref ps),("hands",.int T.k),("views",.ref pv),("deeds",.ref pe)]
structure TbX(G:GQ)(M:List Addr)(H:Hp)(x pv pe:Addr)(T:TM)(dx pd ps:Addr)(qs:List Addr)(es:List V):Prop where
 hx:H x=some (.ins G.Table dx (y9 pd ps pv pe T))
 dl:bH H pd T.ws
 nd:pd∉M
 sz:H ps=some (.lst (av T.ss))
 ns:ps∉M
 vs:H pv=some (.lst (qs.map V.ref))
 qv:Paired (fun(q:Addr)(v:List Nat)=>H q=some (.lst (av v))/\q∉M) qs T.vw
 pes:H pe=some (.lst es)
 ed:Paired (uC M H) es T.ds
structure Tb(G:GQ)(M:List Addr)(H:Hp)(x pv pe:Addr)(T:TM):Prop where
 ok:T.Ok
 ex:∃dx pd ps qs es,TbX G M H x pv pe T dx pd ps qs es
 ne:pv≠pe
 mv:pv∈M
 me:pe∈M
 al:∀b∈M,H b≠none
theorem bH.kp{M:List Addr}{H H':Hp}{p:Addr}{ws:List (List Nat)}(d:bH H p ws)(a:Kp M H H')(n:p∉M):bH H' p ws:=d.to' a.keep fun rs e=>a.lst n e
theorem Tb.kp{G:GQ}{M N:List Addr}{H H':Hp}{x pv pe:Addr}{T:TM}(t:Tb G M H x pv pe T)(a:Kp N H H')(hn:∀b∈N,b∈M)(n1:pv∉N)(n2:pe∉N):Tb G M H' x pv pe T:=by
 obtain⟨dx,pd,ps,qs,es,X⟩:=t.ex;exact⟨t.ok,⟨dx,pd,ps,qs,es,a.ins X.hx,X.dl.kp a fun z=>X.nd (hn _ z),X.nd,a.lst (fun z=>X.ns (hn _ z)) X.sz,X.ns,a.lst n1 X.vs,Paired.mapP X.qv fun _ _ ⟨e,n⟩=>⟨a.lst (fun z=>n (hn _ z)) e,n⟩,a.lst n2 X.pes,Paired.mapP X.ed fun _ _ h=>h.kp a hn⟩,t.ne,t.mv,t.me,fun b hb z=>t.al b hb (a.f b z)⟩
theorem Tb.same{G:GQ}{M:List Addr}{H H':Hp}{x pv pe:Addr}{T:TM}(t:Tb G M H x pv pe T)(s:ap H H'):Tb G M H' x pv pe T:=t.kp (N:=[]) (Kp.of s) (fun _ z=>nomatch z) (fun z=>nomatch z) (fun z=>nomatch z)
theorem Tb.off{G:GQ}{M:List Addr}{H:Hp}{x pv pe:Addr}{T:TM}(t:Tb G M H x pv pe T){p:Addr}(h:H p=none):p∉M:=fun z=>t.al p z h
theorem Tb.at{G:GQ}{M:List Addr}{H:Hp}{x pv pe:Addr}{T:TM}(t:Tb G M H x pv pe T)(m:Str)(h1:(m=="dealt")=false)(h2:(m=="cards")=false)(h3:(m=="sizes")=false)(h4:(m=="hands")=false)(h5:(m=="views")=false)(h6:(m=="deeds")=false):∃dx fs,H x=some (.ins G.Table dx fs)/\fs.lookup m=none:=by
 obtain⟨dx,pd,ps,qs,es,X⟩:=t.ex;refine⟨dx,_,X.hx,?_⟩;simp only[y9,NK,h1,h2,h3,h4,h5,h6]
noncomputable def fS(_:Fg)(G:GQ):Sp:=fun vs H Q _=>∃(M:List Addr)(x dx a:Addr)(c:Nat)(ss:List Nat),vs=[.ref x,.int c,.ref a]/\H x=some (.ins G.Table dx [])/\H a=some (.lst (av ss))/\pW c ss/\KM.cg c ss<=2000/\(∀b∈M,H b≠none)/\x∉M/\
 ∀(H':Hp)(pv pe:Addr),Kx x H H'->H pv=none->H pe=none->Tb G (pv::pe::M) H' x pv pe (TM.begun c ss)->Q .non H'
noncomputable def jw(K:Fg)(G:GQ):TS:=(ar (pI K (ad 0) (aq (ke K) [] E0 (aa (ad 1) (aa (ad 2) ag))) "dealt")
 (ar (pI K (ad 0) (ad 1) "cards")
 (ar (pI K (ad 0) (tCB (pR K) (aa (ad 2) ag)) "sizes")
 (ar (pI K (ad 0) (tCB (dP K) (aa (ad 2) ag)) "hands")
 (ar (pI K (ad 0) (cc (iI (aa (cp K (ad 0) "hands") ag)) (fun _ _ _ _=>(ao 0)) (fun _ _ _ _=>bM) (fun _ _ _ _=>(aq (lf K) [] E0 (aa (cp K (ad 1) "dealt") (aa (ad 0) ag)))) [none,some 0]) "views")
 (pI K (ad 0) (bQ ag) "deeds"))))))
noncomputable abbrev za:List Str:=["self","cards","sizes"]
theorem Jf{α β:Type}{F:α->β->Prop}{l:List α}{m:List β}{a:α}{b:β}(h:Paired F l m)(q:F a b):Paired F (l++[a]) (m++[b]):=by
 induction h with
 |nil=>exact .cons q .nil
 |cons x _ ih=>exact .cons x ih
theorem zb{R:Addr->List Nat->Prop}:∀{acc:List V} {f:Nat->List Nat},(∀j:Nat,j<acc.length->∃q,acc[j]?=some (.ref q)/\R q (f j))->∃qs:List Addr,acc=qs.map V.ref/\Paired R qs ((KS acc.length).map f)
 | [],_,_=>⟨[],rfl,.nil⟩
 |x::acc,f,h=>by
  obtain⟨qs,e,p⟩:=zb (acc:=acc) (f:=fun j=>f (j+1)) fun j hj=>by
   obtain⟨q,h1,h2⟩:=h (j+1) (by rw[KQ];omega);exact⟨q,by simpa using h1,h2⟩
  obtain⟨q,h1,h2⟩:=h 0 (by simp);refine⟨q::qs,by rw[KL,<-e];exact congrArg (· ::acc) (by simpa using h1),?_⟩;rw[KQ,QP,KL,MW];exact .cons h2 p
theorem xf{K:Fg}{G:GQ}(ct:fJ K G.Table){vs:List V}{H:Hp}{Q:VK}{E:XK}(h:fS K G vs H Q E):jw K G { nx:=fun _ H'=>Q .non H',rt:=Q } (start za vs) H:=by
 obtain⟨M,x,dx,a,c,ss,rfl,hx,e,pk,hm,hM,hxM,q⟩:=h;have nk:∀{H1:Hp} {b:Addr} {fs:List (Str×V)},Kx x H H1->H1 x=some (.ins G.Table dx fs)->H1 b=none->H b=none:=fun{H1 b fs} kk ex eb=>by
  cases e:H b with
  |none=>rfl
  |some o=>
   by_cases z:b=x
   ·rw[z,ex]at eb;cases eb
   ·rw[kk _ _ z e]at eb;cases eb
 have h5:=pk.l5;have nxa:a≠x:=fun z=>by rw[z,hx]at e;cases e
 show jw K G _ [some _,some _,some _] _;unfold jw;refine bB (nO ?_);right;refine⟨c,a,ss,rfl,e,pk,hm,fun p H1 s1 hp D1=>?_⟩;have okT:=TM.Ok.begun pk hm;have hws:∀w∈KM.ci (ss++[c-ss.sum]) c,w.length<=1000:=fun w hw=>by
  have:=(KM.iw _ c w hw).len;have:=pk.c12;omega
 have hwl:(KM.ci (ss++[c-ss.sum]) c).length<=2000:=by rw[KM.j9 pk.sum];exact hm
 obtain⟨ws,hWs⟩:∃ws,ws=KM.ci (ss++[c-ss.sum]) c:=⟨_,rfl⟩;rw[<-hWs]at hws hwl D1;right;refine⟨x,G.Table,dx,[],rfl,s1 _ _ hx,ct.cl,ct.n1,by simp,qQ fun H2 l2 x2=>?_⟩;have k2:Kx x H H2:=fun b o n e=>l2 _ _ n (s1 _ _ e);have D2:=jZ D1 (s1 _ _ hx) l2;refine bB (nO ?_);right;refine⟨x,G.Table,dx,_,rfl,x2,ct.cl,ct.n2,M0 rfl,qQ fun H3 l3 x3=>?_⟩;have k3:Kx x H H3:=fun b o n e=>l3 _ _ n (k2 _ _ n e);have D3:=jZ D2 x2 l3;refine bB (nO ?_);right;refine yq (SqL.of (k3 _ _ nxa e)) fun l4 H4 hl4 s4 e4=>?_;have nxl:l4≠x:=qh (s4 _ _ x3) e4;right;refine⟨x,G.Table,dx,_,rfl,s4 _ _ x3,ct.cl,ct.n3,M0 rfl,qQ fun H5 l5 x5=>?_⟩;have k5:Kx x H H5:=fun b o n e=>l5 _ _ n (s4 _ _ (k3 _ _ n e));have D5:=jZ (D3.same' s4) (s4 _ _ x3) l5;have a5:=k5 _ _ nxa e;refine bB (nO ?_);right;rw[bo];refine⟨x,G.Table,dx,_,rfl,x5,ct.cl,ct.n4,M0 rfl,qQ fun H6 l6 x6=>?_⟩;have k6:Kx x H H6:=fun b o n e=>l6 _ _ n (k5 _ _ n e);have D6:=jZ D5 x5 l6;have e46:H6 l4=some (.lst (av ss)):=l6 _ _ nxl (l5 _ _ nxl e4);refine bB (nO ?_);right;refine bT ?_;right;refine⟨x,G.Table,dx,_,_,rfl,x6,ct.cl,ct.n4,rfl,?_⟩;right;refine qg ss.length (by omega) (by omega) (by omega) (fun p' i acc H2=>acc.length=i/\∀j:Nat,j<i->∃q,acc[j]?=some (.ref q)/\(q≠p'/\q∉M)/\H2 q=some (.lst (av (lZ ws (j:Int))))) (fun _ _ _=>⟨rfl,fun j hj=>absurd hj (O8 _)⟩) ?_ ?_
 ·intro p' hp' C s' H' fp i acc H7 hi ⟨s7,e7,l7,r7⟩
  right;refine bT ?_;right;refine⟨x,G.Table,dx,_,_,rfl,s7 _ _ x6,ct.cl,ct.n1,rfl,?_⟩;right;refine⟨p,ws,(i:Int),rfl,D6.same' s7,hws,by omega,fun q8 H8 hq8 s8 e8=>?_⟩;obtain⟨r1,r2⟩:=r7;refine bJ.putW hp' (s7.trans s8) (s8 _ _ e7) l7 fun H9 o9=>⟨by rw[KP,r1];rfl,fun j hj=>?_⟩;by_cases hj2:j<i
  ·obtain⟨q,h1,h2,h3⟩:=r2 j hj2
   exact⟨q,by rw[MG (by omega)];exact h1,h2,(o9 _ h2.1).trans (s8 _ _ h3)⟩
  ·have ej:j=i:=by omega
   subst ej;have hqp:q8≠p':=fun z=>by rw[z,e7]at hq8;cases hq8
   exact⟨q8,by rw[M4 (by omega),r1,O9];rfl,⟨hqp,fun z=>hM _ z (nk (k6.same s7) (s7 _ _ x6) hq8)⟩,(o9 _ hqp).trans e8⟩
 ·intro pv acc H7 hpv s7 e7 ⟨r1,r2⟩
  right;refine⟨x,G.Table,dx,_,rfl,s7 _ _ x6,ct.cl,ct.n5,M0 rfl,qQ fun H8 kk x8=>?_⟩;have k8:Kx x H H8:=fun b o n e=>kk _ _ n (s7 _ _ (k6 _ _ n e));have D8:=jZ (D6.same' s7) (s7 _ _ x6) kk;have v8:=kk _ _ (qh (s7 _ _ x6) e7) e7;refine nO ?_;right;refine⟨by simp[Kl],fun pe H9 hpe s9 e9=>?_⟩;right;refine⟨x,G.Table,dx,_,rfl,s9 _ _ x8,ct.cl,ct.n6,M0 rfl,qQ fun HA kz xA=>?_⟩;have kA:Kx x H HA:=fun b o n e=>kz _ _ n (s9 _ _ (k8 _ _ n e));have gv:=nk k6 x6 hpv;have ge:=nk k8 x8 hpe;have npv:pv≠pe:=bd v8 hpe;have npd:p∉pv::pe::M:=fun z=>by
   obtain⟨rs6,er6,_⟩:=id D6;rcases Kq.mp z with z|z
   ·rw[z]at er6;rw[er6]at hpv;cases hpv
   ·rcases Kq.mp z with z|z
    ·obtain⟨rs8,er8,_⟩:=id D8
     rw[z]at er8;rw[er8]at hpe;cases hpe
    ·exact hM _ z hp
  have e48:=kk _ _ nxl (s7 _ _ e46);have nps:l4∉pv::pe::M:=fun z=>by
   rcases Kq.mp z with z|z
   ·rw[z]at e46;rw[e46]at hpv;cases hpv
   ·rcases Kq.mp z with z|z
    ·rw[z]at e48;rw[e48]at hpe;cases hpe
    ·exact hM _ z (nk k3 x3 hl4)
  have rr:=zb (R:=fun q v=>(q≠pv/\q∉M)/\H8 q=some (.lst (av v))) (f:=fun j=>lZ ws ((j:Nat):Int)) (fun j hj=>by
   obtain⟨q,h1,h2,h3⟩:=r2 j (by rw[<-r1];exact hj);exact⟨q,h1,h2,kk _ _ (qh (s7 _ _ x6) h3) h3⟩)
  rw[r1]at rr;obtain⟨qs,rfl,hqs⟩:=rr;have up:∀{b:Addr} {xs:List V},H8 b=some (.lst xs)->HA b=some (.lst xs):=fun e=>kz _ _ (qh (s9 _ _ x8) (s9 _ _ e)) (s9 _ _ e);have pe9:=kz _ _ (qh (s9 _ _ x8) e9) e9;refine q HA pv pe kA gv ge ⟨okT,⟨dx,p,l4,qs,[],xA,?_,npd,up e48,nps,up v8,?_,pe9,.nil⟩,npv,Ks,Ku _ Ks,fun b hb y=>?_⟩
  ·show bH _ p (KM.ci (ss++[c-ss.sum]) c)
   rw[<-hWs];exact jZ (D8.same' s9) (s9 _ _ x8) kz
  ·show Paired _ qs ((KS ss.length).map fun i=>lZ (KM.ci (ss++[c-ss.sum]) c) ((i:Nat):Int))
   rw[<-hWs];refine Paired.mapP hqs fun a' v ⟨h2,h3⟩=>⟨up h3,fun z=>?_⟩;rcases Kq.mp z with z|z
   ·exact h2.1 z
   ·rcases Kq.mp z with z|z
    ·rw[z]at h3;rw[h3]at hpe;cases hpe
    ·exact h2.2 z
  ·rcases Kq.mp hb with z|z
   ·rw[z,up v8]at y;cases y
   ·rcases Kq.mp z with z|z
    ·rw[z,pe9]at y;cases y
    ·cases eb:H b with
     |none=>exact hM b z eb
     |some o=>rw[kA b o (fun w=>hxM (w▸z)) eb]at y;cases y
end
section
open KF
theorem TbX.view{G:GQ}{M:List Addr}{H:Hp}{x pv pe:Addr}{T:TM}{dx pd ps:Addr}{qs:List Addr}{es:List V}(X:TbX G M H x pv pe T dx pd ps qs es){i:Nat}(hi:i<T.vw.length):∃qi,qs[i]?=some qi/\H qi=some (.lst (av (T.vw.getD i [])))/\qi∉M:=by
 have lq:qs.length=T.vw.length:=Lv X.qv;have hq:qs[i]?=some (qs[i]'(by omega)):=Kj _;obtain⟨v,hv,h1,h2⟩:=cf X.qv hq;exact⟨_,hq,by rw[jV hv];exact h1,h2⟩
noncomputable def dU(_:Fg)(G:GQ):Sp:=fun vs H Q _=>∃(M:List Addr)(x pv pe:Addr)(T:TM)(i:Nat),vs=[.ref x,.int i]/\Tb G M H x pv pe T/\i<T.k/\∀(p:Addr)(H':Hp),H p=none->ap H H'->H' p=some (.lst (av (T.vw.getD i [])))->Q (.ref p) H'
noncomputable def gz(K:Fg)(G:GQ):TS:=(ar (bR (aq (bp K) [] E0 (aa (aq (bu K) [] E0 (aa (ad 1) (aa (cp K (ad 0) "hands") ag))) (aa (tC (.str "this is no hand")) ag))))
 (aN (tCB (pR K) (aa (tOp (cz K) (cp K (ad 0) "views") (ad 1)) ag))))
noncomputable abbrev mi:List Str:=["self","hand"]
theorem vU{K:Fg}{G:GQ}{vs:List V}{H:Hp}{Q:VK}{E:XK}(h:dU K G vs H Q E):vs.length=2:=by
 obtain⟨M,x,pv,pe,T,i,rfl,_⟩:=h;rfl
theorem oX{K:Fg}{G:GQ}(ct:fJ K G.Table){vs:List V}{H:Hp}{Q:VK}{E:XK}(h:dU K G vs H Q E):gz K G { nx:=fun _ H'=>Q .non H',rt:=Q } (start mi vs) H:=by
 obtain⟨M,x,pv,pe,T,i,rfl,t,hi,q⟩:=h;obtain⟨dx,pd,ps,qs,es,X⟩:=t.ex;show gz K G _ [some _,some _] _;unfold gz;right;refine bT ?_;right;refine⟨x,G.Table,dx,_,_,rfl,X.hx,ct.cl,ct.n4,rfl,?_⟩;right;refine eS (by omega) (by omega) ?_;right;refine⟨_,rfl,?_⟩;right;refine bT ?_;right;refine⟨x,G.Table,dx,_,_,rfl,X.hx,ct.cl,ct.n5,rfl,?_⟩;right;obtain⟨qi,hq,h2,_⟩:=X.view (i:=i) (by rw[t.ok.len];exact hi);refine bW (SqL.of X.vs) (cN (v:=.ref qi) (by rw[Kz,hq];rfl)) ?_;right;refine yq (SqL.of h2) fun p H1 hp s1 e1=>?_;exact q p H1 hp s1 e1
noncomputable def Tld(G:GQ)(M:List Addr)(H:Hp)(x pv pe:Addr)(T:TM)(ys:List V)(Q:VK):Prop:=∀p Hm H',Kp [pv,pe] H Hm->Tb G M Hm x pv pe T->Hm p=none->ap Hm H'->H' p=some (.lst ys)->Q (.ref p) H'
noncomputable def fz(_:Fg)(G:GQ):Sp:=fun vs H Q _=>∃(M:List Addr)(x pv pe tp vp:Addr)(T:TM)(g:List Nat)(as:List IA)(ys:List V),vs=[.ref x,.ref tp,.ref vp]/\Tb G M H x pv pe T/\H tp=some (.tup (av g))/\(∀h∈g,h<T.k)/\H vp=some (.lst ys)/\vp∉M/\ys.map iaV=as.map some/\as.length=T.n/\T.ds.length<1000/\
 Tld G M H x pv pe (T.learn g as ys) ys Q
noncomputable def iK(K:Fg)(G:GQ):TS:=(ar (eX (xZ K (ad 1)) (ao 3) (aK (aq (si K) [] E0 (aa (tOp (cz K) (cp K (ad 0) "views") (ad 3)) (aa (ad 2) ag))) (pB (cp K (ad 0) "views") (ad 3) mE)))
 (ar (bR (tBM K "list" nD (cp K (ad 0) "deeds") (aa (bz (aa (ad 1) (aa (ad 2) ag))) ag)))
 (aN (tCB (pR K) (aa (ad 2) ag)))))
noncomputable abbrev xg:List Str:=["self","hands","values","hand"]
theorem JP{n j:Nat}(h:j<n):ixN n (j:Int)=some j:=by
 unfold ixN;rw[if_pos (by omega),if_pos (by omega)];simp
theorem BM{α β:Type}{F:α->β->Prop}{l:List α}{m:List β}(h:Paired F l m){a:α}{b:β}(r:F a b):∀i:Nat,Paired F (l.set i a) (m.set i b):=by
 induction h with
 |nil=>exact fun i=>.nil
 |cons r' t ih=>
  intro i;cases i with
  |zero=>exact .cons r t
  |succ i=>exact .cons r' (ih i)
theorem vV{K:Fg}{G:GQ}(ct:fJ K G.Table){vs:List V}{H:Hp}{Q:VK}{E:XK}(h:fz K G vs H Q E):iK K G { nx:=fun _ H'=>Q .non H',rt:=Q } (start xg vs) H:=by
 obtain⟨M,x,pv,pe,tp,vp,T,g,as,ys,rfl,t,et,hg,evp,nvp,hia,hla,hds,q⟩:=h;obtain⟨dx,pd,ps,qs,es,X⟩:=t.ex;have n2:=t.ok.n2;show iK K G _ [some _,some _,some _,none] _;unfold iK;right;have me1:pv∈[pv,pe]:=Ks;have me2:pe∈[pv,pe]:=Ku _ Ks;have sub:∀b∈[pv,pe],b∈M:=fun b hb=>by
  rcases Kq.mp hb with z|z
  ·rw[z];exact t.mv
  ·rw[Kr.mp z];exact t.me
 have nvp':vp∉[pv,pe]:=fun z=>nvp (sub _ z);refine C9 (av g) (SqT.of et) (fun j σ' H2=>∃(u:Option V)(qs2:List Addr),σ'=[some (.ref x),some (.ref tp),some (.ref vp),u]/\Kp [pv] H H2/\H2 pv=some (.lst (qs2.map V.ref))/\Paired (fun(q:Addr)(v:List Nat)=>H2 q=some (.lst (av v))/\q∉M) qs2 (lrn T.vw (g.take j) as)) ⟨none,qs,rfl,Kp.of (ap.refl _),X.vs,X.qv⟩ ?_ ?_ ?_
 ·rintro j σ' H2 hj ⟨u,qs2,rfl,k2,_⟩
  exact SqT.of (k2.tup et)
 ·rintro j y σ' H2 hy ⟨u,qs2,rfl,k2,e2,p2⟩
  obtain⟨hd,hh,rfl⟩:=jT hy;have hk:=hg hd (Ky hh);have hx2:=k2.ins X.hx;have lq:qs2.length=T.vw.length:=by rw[Lv p2,vR]
  have hdl:hd<qs2.length:=by rw[lq,t.ok.len];exact hk
  have hq:qs2[hd]?=some (qs2[hd]'hdl):=Kj _;generalize qs2[hd]'hdl=qi at hq;obtain⟨v,hv,h1,h2⟩:=cf p2 hq;have hvw:Within T.n v:=qO (P:=Within T.n) (fun v hv=>qe hv hla) (g.take j) T.vw (fun h hh=>by rw[t.ok.len];exact hg h (Re hh)) t.ok.win v (Ky hv);right;refine bT ?_;right;refine⟨x,G.Table,dx,_,_,rfl,hx2,ct.cl,ct.n5,rfl,?_⟩;right;refine bW (SqL.of e2) (cN (v:=.ref qi) (by rw[Kz,hq];rfl)) ?_;right;refine⟨qi,vp,v,ys,as,rfl,h1,k2.lst (fun z=>nvp' (by rw[Kr.mp z];exact me1)) evp,hia,by rw[hvw.1,hla],by rw[hvw.1];omega,fun q' H3 hq' s3 e3=>?_⟩;right;refine bT ?_;right;refine⟨x,G.Table,dx,_,_,rfl,s3 _ _ hx2,ct.cl,ct.n5,rfl,?_⟩;right;refine pP (s3 _ _ e2) (JP (by rw[Kk];exact hdl)) ?_;have nq:q'≠pv:=(bd e2 hq').symm;have nqM:q'∉M:=fun z=>t.al _ z (k2.f _ hq');refine⟨_,qs2.set hd q',rfl,(k2.trans (Kp.of s3)).upd (s3 _ _ e2) (Kr.mpr rfl),by rw[ay,List.map_set],?_⟩;rw[cI hh,E7,jV hv];refine BM (Paired.mapP p2 fun a w ⟨z1,z2⟩=>⟨?_,z2⟩) ⟨by rw[aM nq];exact e3,nqM⟩ hd;rw[aM (show a≠pv from fun z=>z2 (by rw[z];exact t.mv))];exact s3 _ _ z1
 ·rintro σ' H2 ⟨u,qs2,rfl,k2,e2,p2⟩
  rw[bo,Le]at p2;have hx2:=k2.ins X.hx;have ee2:=k2.lst (fun z=>t.ne (Kr.mp z).symm) X.pes;right;refine bT ?_;right;refine⟨x,G.Table,dx,_,_,rfl,hx2,ct.cl,ct.n6,rfl,?_⟩;refine⟨.inl ⟨rfl,_,SqL.of ee2⟩,?_⟩;right;refine⟨by simp[Kl],fun p3 H3 hp3 s3 e3=>?_⟩;right;have les:es.length=T.ds.length:=Lv X.ed;refine yo (s3 _ _ ee2) (by rw[Kl];omega) fun H4 o4 e4=>?_;have k4:Kp [pv,pe] H H4:=((k2.mono fun b hb=>by rw[Kr.mp hb];exact me1).trans (Kp.of s3)).off (s3 _ _ ee2) me2 o4 e4;right;refine yq (SqL.of (k4.lst nvp' evp)) fun p5 H5 hp5 s5 e5=>?_;have keep4:∀{b:Addr} {o:HO},b≠pe->H2 b=some o->H4 b=some o:=fun nb e=>(o4 _ nb).trans (s3 _ _ e);refine q p5 H4 H5 k4 ⟨t.ok.learn hg hla,⟨dx,pd,ps,qs2,es++[.ref p3],k4.ins X.hx,X.dl.kp k4 fun z=>X.nd (sub _ z),X.nd,k4.lst (fun z=>X.ns (sub _ z)) X.sz,X.ns,keep4 t.ne e2,Paired.mapP p2 fun a w ⟨z1,z2⟩=>⟨keep4 (show a≠pe from fun z=>z2 (by rw[z];exact t.me)) z1,z2⟩,e4,?_⟩,t.ne,t.mv,t.me,fun b hb z=>t.al b hb (k4.f b z)⟩ hp5 s5 e5;refine Jf (Paired.mapP X.ed fun _ _ h=>h.kp k4 sub) ⟨p3,tp,vp,rfl,?_,k4.tup et,k4.lst nvp' evp,nvp⟩;exact(o4 _ (fun z=>by rw[z]at hp3;rw[ee2]at hp3;cases hp3)).trans e3
noncomputable def cY(_:Fg)(G:GQ):Sp:=fun vs H Q _=>∃(M:List Addr)(x pv pe:Addr)(T:TM)(v:V)(s:Sy),vs=[.ref x,v]/\Tb G M H x pv pe T/\cb H v s/\s.Ok T.c T.k/\s.words<=30/\
 ∀p H',H p=none->ap H H'->H' p=some (.lst (blV T.n (T.tr s)))->Q (.ref p) H'
noncomputable def fA(K:Fg)(G:GQ):TS:=(ar (bD (fY (tB (aq (fw K) [] E0 (aa (cp K (ad 0) "cards") (aa (cp K (ad 0) "hands") (aa (ad 1) ag)))))) dD bv)
 (aN (aq (bY K 35) [] E0 (aa (cp K (ad 0) "dealt") (aa (cp K (ad 0) "views") (aa (ad 1) ag))))))
noncomputable abbrev j0:List Str:=["self","S"]
theorem sx{K:Fg}{G:GQ}{vs:List V}{H:Hp}{Q:VK}{E:XK}(h:cY K G vs H Q E):vs.length=2:=by
 obtain⟨M,x,pv,pe,T,v,s,rfl,_⟩:=h;rfl
theorem Tb.tab{G:GQ}{M:List Addr}{H:Hp}{x pv pe:Addr}{T:TM}{dx pd ps:Addr}{qs:List Addr}{es:List V}(ok:T.Ok)(X:TbX G M H x pv pe T dx pd ps qs es):Table H pd pv T.c T.n T.ws T.vw:=
 ⟨X.dl,rfl,ok.cards,by have:=ok.n2;omega,by have:=ok.pk.c12;omega,⟨qs,X.vs,Paired.mapP X.qv fun _ _ h=>h.1⟩,ok.win,by rw[ok.len];have:=ok.pk.l5;show T.ss.length<=1000;omega⟩
theorem mS{K:Fg}{G:GQ}(ct:fJ K G.Table){vs:List V}{H:Hp}{Q:VK}{E:XK}(h:cY K G vs H Q E):fA K G { nx:=fun _ H'=>Q .non H',rt:=Q } (start j0 vs) H:=by
 obtain⟨M,x,pv,pe,T,v,s,rfl,t,hS,hok,hw,q⟩:=h;obtain⟨dx,pd,ps,qs,es,X⟩:=t.ex;show fA K G _ [some _,some _] _;unfold fA;right;refine bT ?_;right;refine⟨x,G.Table,dx,_,_,rfl,X.hx,ct.cl,ct.n2,rfl,?_⟩;right;refine bT ?_;right;refine⟨x,G.Table,dx,_,_,rfl,X.hx,ct.cl,ct.n4,rfl,?_⟩;right;refine zW hS hok hw fun H1 s1=>?_;have x1:=s1 _ _ X.hx;right;refine bT ?_;right;refine⟨x,G.Table,dx,_,_,rfl,x1,ct.cl,ct.n1,rfl,?_⟩;right;refine bT ?_;right;refine⟨x,G.Table,dx,_,_,rfl,x1,ct.cl,ct.n5,rfl,?_⟩;right;refine⟨pd,pv,v,T.c,T.n,T.ws,T.vw,s,rfl,(Tb.tab t.ok X).same s1,hS.keep s1.keep,by rw[t.ok.len];exact hok,by omega,fun p H2 hp2 s2 e2=>?_⟩;right;exact q p H2 (s1.free hp2) (s1.trans s2) e2
noncomputable def dW(_:Fg)(G:GQ):Sp:=fun vs H Q _=>∃(M:List Addr)(x pv pe tp:Addr)(T:TM)(g:List Nat)(v:V)(s:Sy),vs=[.ref x,.ref tp,v]/\Tb G M H x pv pe T/\H tp=some (.tup (av g))/\g.Pairwise (· < ·)/\(∀h∈g,h<T.k)/\cb H v s/\s.Ok T.c T.k/\s.words<=30/\T.ds.length<1000/\
 Tld G M H x pv pe (T.word g s) (blV T.n (T.tr s)) Q
noncomputable def gA(K:Fg)(G:GQ):TS:=(ar (bR (aq (bp K) [] E0 (aa (aq (fv K) [] E0 (aa (ad 1) (aa (cp K (ad 0) "hands") ag))) (aa (tC (.str "this is no tuple of hands")) ag))))
 (aN (dq G.Table "learn" (fz K G) [] E0 (ad 0) (aa (ad 1) (aa (dq G.Table "truths" (cY K G) [] E0 (ad 0) (aa (ad 2) ag)) ag)))))
noncomputable abbrev mj:List Str:=["self","hands","S"]
theorem vW{K:Fg}{G:GQ}{vs:List V}{H:Hp}{Q:VK}{E:XK}(h:dW K G vs H Q E):vs.length=3:=by
 obtain⟨M,x,pv,pe,tp,T,g,v,s,rfl,_⟩:=h;rfl
theorem oY{K:Fg}{G:GQ}(ct:fJ K G.Table){vs:List V}{H:Hp}{Q:VK}{E:XK}(h:dW K G vs H Q E):gA K G { nx:=fun _ H'=>Q .non H',rt:=Q } (start mj vs) H:=by
 obtain⟨M,x,pv,pe,tp,T,g,v,s,rfl,t,et,pw,hg,hS,hok,hw,hds,q⟩:=h;obtain⟨dx,pd,ps,qs,es,X⟩:=t.ex;show gA K G _ [some _,some _,some _] _;unfold gA;right;refine bT ?_;right;refine⟨x,G.Table,dx,_,_,rfl,X.hx,ct.cl,ct.n4,rfl,?_⟩;right;refine ux et pw hg ?_;right;refine⟨_,rfl,?_⟩;right;obtain⟨dx1,fs1,hx1,hl1⟩:=t.at "learn" (by decide+kernel) (by decide+kernel) (by decide+kernel) (by decide+kernel) (by decide+kernel) (by decide+kernel);refine dh ?_;right;refine⟨x,dx1,fs1,rfl,hx1,hl1,?_⟩;right;obtain⟨dx2,fs2,hx2,hl2⟩:=t.at "truths" (by decide+kernel) (by decide+kernel) (by decide+kernel) (by decide+kernel) (by decide+kernel) (by decide+kernel);refine dh ?_;right;refine⟨x,dx2,fs2,rfl,hx2,hl2,?_⟩;right;refine⟨M,x,pv,pe,T,v,s,rfl,t,hS,hok,hw,fun p1 H1 hp1 s1 e1=>?_⟩;right;refine⟨M,x,pv,pe,tp,p1,T,g,_,_,rfl,t.same s1,s1 _ _ et,hg,e1,t.off hp1,IY _ _,GZ _ _,hds,fun p2 Hm H2 k2 t2 hp2 s2 e2=>?_⟩;right;exact q p2 Hm H2 ((Kp.of s1).trans k2) t2 hp2 s2 e2
noncomputable def uD(w:List Nat)(h:Int)(ns:List Int):IA:=(ns.filter fun c=>decide (wAt w c=h)).min?
theorem DS(w:List Nat)(h:Int)(ns:List Int):kR w h ns (uD w h ns):=by
 unfold uD;cases e:(ns.filter fun c=>decide (wAt w c=h)).min? with
 |none=>
  rw[List.min?_eq_none_iff]at e;refine .inl ⟨rfl,fun c hc z=>?_⟩;have:c∈ns.filter fun c=>decide (wAt w c=h):=Mh.mpr ⟨hc,decide_eq_true z⟩;rw[e]at this;cases this
 |some m=>
  rw[List.min?_eq_some_iff]at e;obtain⟨h1,h2⟩:=e;obtain⟨h3,h4⟩:=Mh.mp h1;exact .inr ⟨m,rfl,h3,of_decide_eq_true h4,fun d hd z=>h2 d (Mh.mpr ⟨hd,decide_eq_true z⟩)⟩
noncomputable def kS(ws:List (List Nat))(h:Int)(ns:List Int):List IA:=ws.map fun w=>uD w h ns
noncomputable def TM.show(T:TM)(i:Nat)(h:Int)(ns:List Int):TM:=T.learn [i] (kS T.ws h ns) ((kS T.ws h ns).map iaR)
noncomputable def dX(_:Fg)(G:GQ):Sp:=fun vs H Q _=>∃(M:List Addr)(x pv pe l:Addr)(T:TM)(i:Nat)(h:Int)(ns:List Int),vs=[.ref x,.int i,.int h,.ref l]/\Tb G M H x pv pe T/\H l=some (.lst (ns.map V.int))/\i<T.k/\0<=h/\h<=T.k/\ns.length<64/\(∀n∈ns,0<=n/\n<T.c)/\T.ds.length<1000/\
 Tld G M H x pv pe (T.show i h ns) ((kS T.ws h ns).map iaR) Q
noncomputable def gB(K:Fg)(G:GQ):TS:=(ar (bR (aq (bp K) [] E0 (aa (aq (bu K) [] E0 (aa (ad 1) (aa (cp K (ad 0) "hands") ag))) (aa (tC (.str "this is no hand")) ag))))
 (ar (bR (aq (bp K) [] E0 (aa (aq (bu K) [] E0 (aa (ad 2) (aa (tOp (rI0 fun i j=>.int (i+j)) (cp K (ad 0) "hands") (tC (.int 1))) ag))) (aa (tC (.str "this is no holder")) ag))))
 (ar (bR (aq (bp K) [] E0 (aa (aq (gy K) [] E0 (aa (ad 3) (aa (cp K (ad 0) "cards") ag))) (aa (tC (.str "this is no list of cards")) ag))))
 (ar (aK (sw K (aa (ad 3) ag)) (ao 4))
 (aN (dq G.Table "learn" (fz K G) [] E0 (ad 0) (aa (bz (aa (ad 1) ag)) (aa (cc (cX K (cp K (ad 0) "dealt")) (fun _ _ _ _=>(ao 0)) (fun _ _ _ _=>bM) (fun _ _ _ _=>(aq (li K) [] E0 (aa (ad 0) (aa (ad 1) (aa (ad 2) ag))))) [none,some 2,some 4]) ag))))))))
noncomputable abbrev mn:List Str:=["self","hand","holder","some","rising"]
theorem vX{K:Fg}{G:GQ}{vs:List V}{H:Hp}{Q:VK}{E:XK}(h:dX K G vs H Q E):vs.length=4:=by
 obtain⟨M,x,pv,pe,l,T,i,h,ns,rfl,_⟩:=h;rfl
theorem oZ{K:Fg}{G:GQ}(ct:fJ K G.Table){vs:List V}{H:Hp}{Q:VK}{E:XK}(h:dX K G vs H Q E):gB K G { nx:=fun _ H'=>Q .non H',rt:=Q } (start mn vs) H:=by
 obtain⟨M,x,pv,pe,l,T,i,h,ns,rfl,t,el,hi,h0,h1,hns,hnb,hds,q⟩:=h;obtain⟨dx,pd,ps,qs,es,X⟩:=t.ex;have n2:=t.ok.n2;show gB K G _ [some _,some _,some _,some _,none] _;unfold gB;right;refine bT ?_;right;refine⟨x,G.Table,dx,_,_,rfl,X.hx,ct.cl,ct.n4,rfl,?_⟩;right;refine eS (by omega) (by omega) ?_;right;refine⟨_,rfl,?_⟩;right;refine bT ?_;right;refine⟨x,G.Table,dx,_,_,rfl,X.hx,ct.cl,ct.n4,rfl,?_⟩;right;refine eS (by omega) (by omega) ?_;right;refine⟨_,rfl,?_⟩;right;refine bT ?_;right;refine⟨x,G.Table,dx,_,_,rfl,X.hx,ct.cl,ct.n2,rfl,?_⟩;right;refine BL el (by omega) hnb fun H1 s1=>?_;right;refine⟨_,rfl,?_⟩;right;refine DR ?_;right;refine⟨l,ns,rfl,SqL.of (s1 _ _ el),hns,fun rp H2 ms hrp s2 e2 pw mm=>?_⟩;have s12:=s1.trans s2;have t2:=t.same s12;right;obtain⟨dx1,fs1,hx1,hl1⟩:=t2.at "learn" (by decide+kernel) (by decide+kernel) (by decide+kernel) (by decide+kernel) (by decide+kernel) (by decide+kernel);refine dh ?_;right;refine⟨x,dx1,fs1,rfl,hx1,hl1,?_⟩;right;refine⟨by simp[Kl],fun tp H3 htp s3 e3=>?_⟩;right;refine bT ?_;right;have s13:=s12.trans s3;refine⟨x,G.Table,dx,_,_,rfl,s13 _ _ X.hx,ct.cl,ct.n1,rfl,?_⟩;obtain⟨rs,er,hr⟩:=X.dl.same' s13;have lr:rs.length=T.n:=Lv hr;refine fU (rs.map V.ref) (SqL.of er) (by rw[Kk];omega) (fun j acc _=>acc=(kS (T.ws.take j) h ns).map iaR) (fun H' _=>rfl) ?_ ?_
 ·rintro p' hp' C s' H' fp j xx acc H6 hxx ⟨s6,e6,l6,rfl⟩
  obtain⟨b',hb',rfl⟩:=nJ hxx;obtain⟨w,hwi,ew⟩:=cf hr hb';have hw1:=t.ok.cards w (Ky hwi);right;refine⟨b',rp,w,h,ms,rfl,s6 _ _ ew,s6 _ _ (s3 _ _ e2),pw,fun c hc=>by rw[hw1];exact hnb c ((mm c).mp hc),fun a ha=>?_⟩;have ea:a=uD w h ns:=ha.uniq mm (DS w h ns);subst ea;refine bJ.put hp' (fun _ _ _ _ r _=>r) s6 e6 l6 ?_;rw[cI hwi];unfold kS;rw[KU,KU];rfl
 ·rintro pl acc H6 hpl s6 e6 rfl
  rw[Kk,lr,show T.n=T.ws.length from rfl,Le]at e6;right;have s16:=s13.trans s6;refine⟨M,x,pv,pe,tp,pl,T,[i],kS T.ws h ns,_,rfl,t.same s16,s6 _ _ e3,fun k hk=>by rw[Kr.mp hk];exact hi,e6,t.off (s13.free hpl),by rw[MW];exact My fun a _=>JO a,by unfold kS;rw[Kk];rfl,hds,fun p2 Hm H7 k7 t7 hp2 s7 e7=>?_⟩;right;exact q p2 Hm H7 ((Kp.of s16).trans k7) t7 hp2 s7 e7
end
section
open KF
theorem Fm(z:Int)(ns:List Int):inV (.int z) (ns.map V.int)=decide (z∈ns):=by
 unfold inV;rw[List.any_map];cases h:ns.any ((fun y=>eqV y (.int z))∘V.int)with
 |true=>
  obtain⟨n,hn,e⟩:=List.any_eq_true.mp h;have e':(n==z)=true:=e;rw[beq_iff_eq]at e';exact(decide_eq_true (e'▸hn)).symm
 |false=>
  refine(decide_eq_false fun hz=>?_).symm;have:=R4.mp h z hz;exact this (show(z==z)=true by simp)
theorem He(y:Nat)(l:List Nat):inV (.int (y:Int)) (av l)=decide (y∈l):=by
 rw[cT,Fm];refine decide_eq_decide.mpr ?_;rw[Lr];constructor
 ·rintro⟨a,h,e⟩
  have:a=y:=by omega
  exact this▸h
 ·exact fun h=>⟨y,h,rfl⟩
noncomputable def TM.Dk(T:TM):Prop:=∀m∈T.ds,m.2.length=T.n/\∀y∈m.2,oB y=true
noncomputable def jx(ds:List (List Nat×List V))(i d:Nat):List V:=(ds.filter fun m=>decide (i∈m.1)).map fun m=>m.2.getD d .non
noncomputable def BN(T:TM)(i d:Nat):List V:=(oE (T.ws.getD d []) i).map V.int
noncomputable def ly(H:Hp)(p:Addr)(T:TM)(i d:Nat):Prop:=∃t,H p=some (.lst (.ref t::jx T.ds i d))/\H t=some (.tup (BN T i d))
noncomputable def dL(_:Fg)(G:GQ):Sp:=fun vs H Q _=>∃(M:List Addr)(x pv pe:Addr)(T:TM)(i d:Nat),vs=[.ref x,.int i,.int d]/\Tb G M H x pv pe T/\T.Dk/\T.ds.length<1000/\i<T.k/\d<T.n/\∀p H',H p=none->ap H H'->ly H' p T i d->Q (.ref p) H'
noncomputable def iD(K:Fg)(G:GQ):TS:=(ar (bR (aq (bp K) [] E0 (aa (aq (bu K) [] E0 (aa (ad 1) (aa (cp K (ad 0) "hands") ag))) (aa (tC (.str "this is no hand")) ag))))
 (ar (bR (aq (bp K) [] E0 (aa (aq (bu K) [] E0 (aa (ad 2) (aa (tCB (dP K) (aa (cp K (ad 0) "dealt") ag)) ag))) (aa (tC (.str "this is no number of a deal")) ag))))
 (aN (tOp nY (bQ (aa (aq (iz K) [] E0 (aa (tOp (cz K) (cp K (ad 0) "dealt") (ad 2)) (aa (ad 1) ag))) ag)) (cc (cX K (cp K (ad 0) "deeds")) (fun _ _ _ _=>(ik K 2 (bx (ao 0) (bx (ao 1) ij)))) (fun _ _ _ _=>(br (tOp (rIn K false) (ad 3) (ad 0)))) (fun _ _ _ _=>(tOp (cz K) (ad 1) (ad 2))) [none,none,some 2,some 1])))))
noncomputable abbrev ni:List Str:=["self","hand","deal"]
theorem xh{K:Fg}{G:GQ}{vs:List V}{H:Hp}{Q:VK}{E:XK}(h:dL K G vs H Q E):vs.length=3:=by
 obtain⟨M,x,pv,pe,T,i,d,rfl,_⟩:=h;rfl
theorem qj(ds:List (List Nat×List V))(m:List Nat×List V)(i d:Nat):jx (ds++[m]) i d=jx ds i d++if i∈m.1 then[m.2.getD d .non]else[]:=by
 unfold jx;rw[Oo,KU];by_cases h:i∈m.1
 ·rw[if_pos h,Nw (p:=fun m:List Nat×List V=>decide (i∈m.1)) (decide_eq_true h)]
  rfl
 ·rw[if_neg h,Nx (p:=fun m:List Nat×List V=>decide (i∈m.1)) (by simpa using h)]
  rfl
theorem Fo(ds:List (List Nat×List V))(i d:Nat):(jx ds i d).length<=ds.length:=by
 unfold jx;rw[Kk];exact OW _ _
theorem DT(l:List Nat):(av l).all dt=true:=Np.mpr fun x hx=>by
 obtain⟨n,_,rfl⟩:=Lr.mp hx;rfl
theorem qk{K:Fg}{G:GQ}(ct:fJ K G.Table){vs:List V}{H:Hp}{Q:VK}{E:XK}(h:dL K G vs H Q E):iD K G { nx:=fun _ H'=>Q .non H',rt:=Q } (start ni vs) H:=by
 obtain⟨M,x,pv,pe,T,i,d,rfl,t,dk,hds,hi,hd,q⟩:=h;obtain⟨dx,pd,ps,qs,es,X⟩:=t.ex;have n2:=t.ok.n2;obtain⟨rs,er,hr⟩:=id X.dl;have lr:(rs.map V.ref).length=T.n:=by rw[Kk];exact Lv hr
 show iD K G _ [some _,some _,some _] _;unfold iD;right;refine bT ?_;right;refine⟨x,G.Table,dx,_,_,rfl,X.hx,ct.cl,ct.n4,rfl,?_⟩;right;refine eS (by omega) (by omega) ?_;right;refine⟨_,rfl,?_⟩;right;refine bT ?_;right;refine⟨x,G.Table,dx,_,_,rfl,X.hx,ct.cl,ct.n1,rfl,?_⟩;right;rw[lr];refine eS (by omega) (by omega) ?_;right;refine⟨_,rfl,?_⟩;right;refine bT ?_;right;refine⟨x,G.Table,dx,_,_,rfl,X.hx,ct.cl,ct.n1,rfl,?_⟩;right;have hdr:d<rs.length:=by rw[Kk]at lr;omega
 have hrd:rs[d]?=some (rs[d]'hdr):=Kj _;generalize rs[d]'hdr=rd at hrd;obtain⟨w,hw,ew⟩:=cf hr hrd;have hwc:=t.ok.cards w (Ky hw);have c12:=t.ok.pk.c12;refine bW (SqL.of er) (cN (v:=.ref rd) (by rw[Kz,hrd];rfl)) ?_;right;refine⟨rd,w.map fun(s:Nat)=>((s:Nat):Int),(i:Nat),rfl,by rw[<-cT];exact SqT.of ew,by rw[Kk];omega,fun r H1 s1 e1=>?_⟩;rw[Kk]at e1;have e1':H1 r=some (.tup (BN T i d)):=by unfold BN;rw[jV hw];exact e1
 right;refine⟨by simp[Kl],fun p1 H2 hp1 s2 e2=>?_⟩;have s12:=s1.trans s2;right;refine bT ?_;right;refine⟨x,G.Table,dx,_,_,rfl,s12 _ _ X.hx,ct.cl,ct.n6,rfl,?_⟩;have les:es.length=T.ds.length:=Lv X.ed;refine fU es (SqL.of (s12 _ _ X.pes)) (by omega) (fun j acc _=>acc=jx (T.ds.take j) i d) (fun H' _=>rfl) ?_ ?_
 ·rintro p' hp' C s' H' fp j xx acc H6 hxx ⟨s6,e6,l6,rfl⟩
  obtain⟨m,hm,a,hA,v,rfl,h1,h2,h3,_⟩:=cf X.ed hxx;have s16:=s12.trans s6;obtain⟨dk1,dk2⟩:=dk m (Ky hm);refine iq (SqT.of (s16 _ _ h1)) ?_;right;refine JG (SqT.of (s16 _ _ h2)) rfl (DT _) (He i m.1) ?_;right;refine bN (fun c=>?_) (fun c=>?_)
  ·right
   have hdm:m.2[d]?=some (m.2.getD d .non):=by rw[KG,Kj (by omega)];rfl
   refine bW (SqL.of (s16 _ _ h3)) (cN hdm) ?_;refine bJ.put hp' (fun _ _ _ _ r _=>r) s6 e6 l6 ?_;rw[cI hm,qj,if_pos c]
  ·refine bJ.skip s6 e6 l6 ?_
   rw[cI hm,qj,if_neg c,MI]
 ·rintro pl acc H6 hpl s6 e6 rfl
  rw[les,Le]at e6;right;have:=Fo T.ds i d;refine nZ (s6 _ _ e2) e6 (by rw[Kl];simp;omega) fun p7 H7 hp7 s7 e7=>?_;right;exact q p7 H7 ((s12.trans s6).free hp7) ((s12.trans s6).trans s7) ⟨r,e7,s7 _ _ (s6 _ _ (s2 _ _ e1'))⟩
noncomputable def zc(N:Addr->Prop)(H:Hp)(r:Addr)(T:TM)(i:Nat):Prop:=∃(vp sp:Addr)(ss:List Addr),H r=some (.tup [.ref vp,.ref sp])/\H vp=some (.lst (av (T.vw.getD i [])))/\N vp/\H sp=some (.lst (ss.map V.ref))/\N sp/\ss.length=T.n/\∀(d:Nat)(p:Addr),ss[d]?=some p->ly H p T i d/\N p
theorem ly.to{H H':Hp}{p:Addr}{T:TM}{i d:Nat}(h:ly H p T i d)(k:dF H H')(e:∀xs,H p=some (.lst xs)->H' p=some (.lst xs)):ly H' p T i d:=by
 obtain⟨t,h1,h2⟩:=h;exact⟨t,e _ h1,k _ _ h2⟩
theorem zc.to{N N':Addr->Prop}{H H':Hp}{r:Addr}{T:TM}{i:Nat}(h:zc N H r T i)(k:dF H H')(f:∀l xs,N l->H l=some (.lst xs)->H' l=some (.lst xs)/\N' l):zc N' H' r T i:=by
 obtain⟨vp,sp,ss,g1,g2,g3,g4,g5,g6,g7⟩:=h;refine⟨vp,sp,ss,k _ _ g1,(f _ _ g3 g2).1,(f _ _ g3 g2).2,(f _ _ g5 g4).1,(f _ _ g5 g4).2,g6,fun d p hp=>?_⟩;obtain⟨z1,z2⟩:=g7 d p hp;obtain⟨t,y1,y2⟩:=id z1;exact⟨z1.to k fun xs e=>(f _ _ z2 e).1,(f _ _ z2 y1).2⟩
theorem Fp{T:TM}(dk:T.Dk)(i d:Nat):∀y∈jx T.ds i d,oB y=true:=fun y hy=>by
 unfold jx at hy;obtain⟨m,hm,rfl⟩:=Lr.mp hy;obtain⟨h1,_⟩:=Mh.mp hm;rw[KG];cases e:m.2[d]? with
 |none=>rfl
 |some z=>exact(dk m h1).2 z (Ky e)
theorem ly.eqv{K:Fg}{H:Hp}{p q:Addr}{T:TM}{i d:Nat}(dk:T.Dk)(h:ly H p T i d)(g:ly H q T i d):cP K H 2 (.ref p) (.ref q):=by
 obtain⟨t,h1,h2⟩:=h;obtain⟨t',g1,g2⟩:=g;refine .lst (SqL.of h1) (SqL.of g1) rfl fun j x y hx hy=>?_;cases j with
 |zero=>cases hx;cases hy;exact Bw (SqT.of h2) (SqT.of g2) (wN _)
 |succ j=>
  have hx':(jx T.ds i d)[j]?=some x:=hx;have hy':(jx T.ds i d)[j]?=some y:=hy;rw[hx']at hy';cases hy';exact .flat (Fp dk i d _ (Ky hx'))
end
section
open KF
noncomputable def Rz(H:Hp)(E:XK)(C:Addr):Prop:=∀a H',ap H H'->H' a=none->E (.ref C) (some a) H'
theorem Rz.up{H H1:Hp}{E:XK}{C:Addr}(r:Rz H E C)(s:ap H H1):Rz H1 E C:=fun a H' s' n=>r a H' (s.trans s') n
noncomputable def cJ(c k:Nat)(H:Hp)(v:V):Prop:=aL H v/\(Bad (c:Int) (k:Int) H v\/∃s:Sy,cb H v s/\s.Ok c k/\30<s.words)
theorem cJ.same{c k:Nat}{H H':Hp}{v:V}(h:cJ c k H v)(s:ap H H'):cJ c k H' v:=⟨h.1.same s,h.2.imp (fun b=>b.same s h.1) fun⟨y,i,r⟩=>⟨y,i.keep s.keep,r⟩⟩
theorem DU{K:Fg}{H:Hp}{Q:VK}{E:XK}{c h:Nat}{v:V}(n:cJ c h H v)(q:∀H',ap H H'->Q (.bl false) H'):fw K [.int (c:Int),.int (h:Int),v] H Q E:=
 ⟨c,h,v,false,rfl,n.1,.inr ⟨rfl,n.2.imp id fun⟨s,i,ok,w⟩=>⟨s.words,w,i.sayw ok⟩⟩,q⟩
theorem gx.same{H H':Hp}{c:Int}{x:V}{b:Bool}(h:gx H c x b)(s:ap H H'):gx H' c x b:=by
 rcases h with⟨p,xs,e,ep,hl,kx,eb⟩|⟨k,n,eb⟩
 ·exact .inl ⟨p,xs,e,s _ _ ep,hl,fun y hy=>(kx y hy).same s,eb⟩
 ·refine .inr ⟨k.same s,?_,eb⟩
  cases k with
  |tup e h=>rw[gP (s _ _ e)];rw[gP e]at n;exact n
  |lst e=>rw[jW (s _ _ e)];rw[jW e]at n;exact n
  |dic e=>rw[jh (s _ _ e)];rw[jh e]at n;exact n
  |_=>exact n
noncomputable def fk(K:Fg)(G:GQ):Sp:=fun vs H _ E=>∃z:Str,vs=[.bl false,.str z]/\Rz H E G.NoHand
noncomputable def be(K:Fg)(G:GQ):Sp:=fun vs H Q E=>bp K vs H Q E\/fk K G vs H Q E
noncomputable def fK(K:Fg)(G:GQ)(E:XK):TS:=(bD (fY (tB (ad 0))) (uz G.NoHand E (aa (ad 1) ag)) bv)
theorem ql{K:Fg}{G:GQ}{vs:List V}{H:Hp}{Q:VK}{E:XK}(h:fk K G vs H Q E):vs.length=2:=by
 obtain⟨z,rfl,_⟩:=h;rfl
theorem sy{K:Fg}{G:GQ}{vs:List V}{H:Hp}{Q:VK}{E:XK}(h:fk K G vs H Q E):fK K G E { nx:=fun _ H'=>Q .non H',rt:=Q } (start ["fit","reason"] vs) H:=by
 obtain⟨z,rfl,q⟩:=h;show fK K G E _ [some _,some _] _;unfold fK;right;refine AD ?_;right;exact⟨by simp[Kl],fun a n=>q a H (ap.refl H) n⟩
noncomputable def gT(K:Fg)(G:GQ):Sp:=fun vs H _ E=>∃(M:List Addr)(x pv pe:Addr)(T:TM)(v:V),vs=[.ref x,v]/\Tb G M H x pv pe T/\aL H v/\aJ v 0 ((T.k:Int)-1)=false/\Rz H E G.NoHand
noncomputable def gU(K:Fg)(G:GQ):Sp:=fun _ _ _ _=>False
noncomputable def iL(K:Fg)(G:GQ):Sp:=fun vs H Q E=>dU K G vs H Q E\/(gT K G vs H Q E\/gU K G vs H Q E)
noncomputable def gW(K:Fg)(G:GQ)(E:XK):TS:=(ar (bR (aq (be K G) [] E (aa (aq (bu K) [] E0 (aa (ad 1) (aa (cp K (ad 0) "hands") ag))) (aa (tC (.str "this is no hand")) ag))))
 dD)
noncomputable def o0(K:Fg)(G:GQ)(E:XK):TS:=dD
theorem uE{K:Fg}{G:GQ}{vs:List V}{H:Hp}{Q:VK}{E:XK}(h:gT K G vs H Q E):vs.length=2:=by
 obtain⟨M,x,pv,pe,T,v,rfl,_⟩:=h;rfl
theorem uF{K:Fg}{G:GQ}{vs:List V}{H:Hp}{Q:VK}{E:XK}(h:gU K G vs H Q E):vs.length=2:=h.elim
theorem xj{K:Fg}{G:GQ}(ct:fJ K G.Table){vs:List V}{H:Hp}{Q:VK}{E:XK}(h:gU K G vs H Q E):o0 K G E { nx:=fun _ H'=>Q .non H',rt:=Q } (start mi vs) H:=h.elim
theorem vY{K:Fg}{G:GQ}(ct:fJ K G.Table){vs:List V}{H:Hp}{Q:VK}{E:XK}(h:gT K G vs H Q E):gW K G E { nx:=fun _ H'=>Q .non H',rt:=Q } (start mi vs) H:=by
 obtain⟨M,x,pv,pe,T,v,rfl,t,k,n,q⟩:=h;obtain⟨dx,pd,ps,qs,es,X⟩:=t.ex;show gW K G E _ [some _,some _] _;unfold gW;right;refine bT ?_;right;refine⟨x,G.Table,dx,_,_,rfl,X.hx,ct.cl,ct.n4,rfl,?_⟩;right;refine⟨v,(T.k:Int),rfl,k,?_⟩;rw[n];right;exact .inr ⟨_,rfl,q⟩
noncomputable def iM(K:Fg)(G:GQ):Sp:=fun vs H _ E=>∃(M:List Addr)(x pv pe:Addr)(T:TM)(v w:V),vs=[.ref x,v,w]/\Tb G M H x pv pe T/\((aL H v/\aJ v 0 ((T.k:Int)-1)=false)\/(v=.int 0/\aL H w/\aJ w 0 ((T.n:Int)-1)=false))/\Rz H E G.NoHand
noncomputable def iN(K:Fg)(G:GQ):Sp:=fun _ _ _ _=>False
noncomputable def jy(K:Fg)(G:GQ):Sp:=fun vs H Q E=>dL K G vs H Q E\/(iM K G vs H Q E\/iN K G vs H Q E)
noncomputable def iO(K:Fg)(G:GQ)(E:XK):TS:=(ar (bR (aq (be K G) [] E (aa (aq (bu K) [] E0 (aa (ad 1) (aa (cp K (ad 0) "hands") ag))) (aa (tC (.str "this is no hand")) ag))))
 (ar (bR (aq (be K G) [] E (aa (aq (bu K) [] E0 (aa (ad 2) (aa (tCB (dP K) (aa (cp K (ad 0) "dealt") ag)) ag))) (aa (tC (.str "this is no number of a deal")) ag))))
 dD))
noncomputable def qm(K:Fg)(G:GQ)(E:XK):TS:=dD
theorem vZ{K:Fg}{G:GQ}{vs:List V}{H:Hp}{Q:VK}{E:XK}(h:iM K G vs H Q E):vs.length=3:=by
 obtain⟨M,x,pv,pe,T,v,w,rfl,_⟩:=h;rfl
theorem v5{K:Fg}{G:GQ}{vs:List V}{H:Hp}{Q:VK}{E:XK}(h:iN K G vs H Q E):vs.length=3:=h.elim
theorem zd{K:Fg}{G:GQ}(ct:fJ K G.Table){vs:List V}{H:Hp}{Q:VK}{E:XK}(h:iN K G vs H Q E):qm K G E { nx:=fun _ H'=>Q .non H',rt:=Q } (start ni vs) H:=h.elim
theorem xk{K:Fg}{G:GQ}(ct:fJ K G.Table){vs:List V}{H:Hp}{Q:VK}{E:XK}(h:iM K G vs H Q E):iO K G E { nx:=fun _ H'=>Q .non H',rt:=Q } (start ni vs) H:=by
 obtain⟨M,x,pv,pe,T,v,w,rfl,t,o,q⟩:=h;obtain⟨dx,pd,ps,qs,es,X⟩:=t.ex;have l1:1<=T.k:=t.ok.pk.l1;obtain⟨rs,er,hr⟩:=id X.dl;have lr:(rs.map V.ref).length=T.n:=by rw[Kk];exact Lv hr
 show iO K G E _ [some _,some _,some _] _;unfold iO;right;refine bT ?_;right;refine⟨x,G.Table,dx,_,_,rfl,X.hx,ct.cl,ct.n4,rfl,?_⟩;right;rcases o with⟨k,n⟩|⟨rfl,k,n⟩
 ·refine⟨v,(T.k:Int),rfl,k,?_⟩
  rw[n];right;exact .inr ⟨_,rfl,q⟩
 ·refine eS (by omega) (by omega) ?_
  right;refine .inl ⟨_,rfl,?_⟩;right;refine bT ?_;right;refine⟨x,G.Table,dx,_,_,rfl,X.hx,ct.cl,ct.n1,rfl,?_⟩;right;rw[lr];refine⟨w,(T.n:Int),rfl,k,?_⟩;rw[n];right;exact .inr ⟨_,rfl,q⟩
noncomputable def gX(K:Fg)(G:GQ):Sp:=fun vs H _ E=>∃(M:List Addr)(x pv pe:Addr)(T:TM)(v w u:V),vs=[.ref x,v,w,u]/\Tb G M H x pv pe T/\((aL H v/\aJ v 0 ((T.k:Int)-1)=false)\/(v=.int 0/\aL H w/\aJ w 0 (T.k:Int)=false)\/(v=.int 0/\w=.int 0/\gx H (T.c:Int) u false))/\Rz H E G.NoHand
noncomputable def gY(K:Fg)(G:GQ):Sp:=fun _ _ _ _=>False
noncomputable def iP(K:Fg)(G:GQ):Sp:=fun vs H Q E=>dX K G vs H Q E\/(gX K G vs H Q E\/gY K G vs H Q E)
noncomputable def gZ(K:Fg)(G:GQ)(E:XK):TS:=(ar (bR (aq (be K G) [] E (aa (aq (bu K) [] E0 (aa (ad 1) (aa (cp K (ad 0) "hands") ag))) (aa (tC (.str "this is no hand")) ag))))
 (ar (bR (aq (be K G) [] E (aa (aq (bu K) [] E0 (aa (ad 2) (aa (tOp (rI0 fun i j=>.int (i+j)) (cp K (ad 0) "hands") (tC (.int 1))) ag))) (aa (tC (.str "this is no holder")) ag))))
 (ar (bR (aq (be K G) [] E (aa (aq (gy K) [] E0 (aa (ad 3) (aa (cp K (ad 0) "cards") ag))) (aa (tC (.str "this is no list of cards")) ag))))
 dD)))
noncomputable def pb(K:Fg)(G:GQ)(E:XK):TS:=dD
theorem uG{K:Fg}{G:GQ}{vs:List V}{H:Hp}{Q:VK}{E:XK}(h:gX K G vs H Q E):vs.length=4:=by
 obtain⟨M,x,pv,pe,T,v,w,u,rfl,_⟩:=h;rfl
theorem uH{K:Fg}{G:GQ}{vs:List V}{H:Hp}{Q:VK}{E:XK}(h:gY K G vs H Q E):vs.length=4:=h.elim
theorem xl{K:Fg}{G:GQ}(ct:fJ K G.Table){vs:List V}{H:Hp}{Q:VK}{E:XK}(h:gY K G vs H Q E):pb K G E { nx:=fun _ H'=>Q .non H',rt:=Q } (start mn vs) H:=h.elim
theorem v6{K:Fg}{G:GQ}(ct:fJ K G.Table){vs:List V}{H:Hp}{Q:VK}{E:XK}(h:gX K G vs H Q E):gZ K G E { nx:=fun _ H'=>Q .non H',rt:=Q } (start mn vs) H:=by
 obtain⟨M,x,pv,pe,T,v,w,u,rfl,t,o,q⟩:=h;obtain⟨dx,pd,ps,qs,es,X⟩:=t.ex;have l1:1<=T.k:=t.ok.pk.l1;show gZ K G E _ [some _,some _,some _,some _,none] _;unfold gZ;right;refine bT ?_;right;refine⟨x,G.Table,dx,_,_,rfl,X.hx,ct.cl,ct.n4,rfl,?_⟩;right;rcases o with⟨k,n⟩|o
 ·refine⟨v,(T.k:Int),rfl,k,?_⟩
  rw[n];right;exact .inr ⟨_,rfl,q⟩
 ·have hv:v=.int 0:=by rcases o with⟨z,_⟩|⟨z,_⟩<;>exact z
  subst hv;refine eS (by omega) (by omega) ?_;right;refine .inl ⟨_,rfl,?_⟩;right;refine bT ?_;right;refine⟨x,G.Table,dx,_,_,rfl,X.hx,ct.cl,ct.n4,rfl,?_⟩;right;rcases o with⟨_,k,n⟩|⟨_,rfl,cv⟩
  ·refine⟨w,(T.k:Int)+1,rfl,k,?_⟩
   rw[show(T.k:Int)+1-1=(T.k:Int) by omega,n];right;exact .inr ⟨_,rfl,q⟩
  ·refine eS (by omega) (by omega) ?_
   right;refine .inl ⟨_,rfl,?_⟩;right;refine bT ?_;right;refine⟨x,G.Table,dx,_,_,rfl,X.hx,ct.cl,ct.n2,rfl,?_⟩;right;refine⟨u,(T.c:Int),false,rfl,cv,fun H1 s1=>?_⟩;right;exact .inr ⟨_,rfl,q.up s1⟩
noncomputable def fL(K:Fg)(G:GQ):Sp:=fun _ _ _ _=>False
noncomputable def fM(K:Fg)(G:GQ):Sp:=fun vs H _ E=>∃(M:List Addr)(x pv pe:Addr)(T:TM)(v:V),vs=[.ref x,v]/\Tb G M H x pv pe T/\cJ T.c T.k H v/\Rz H E G.NoSaying
noncomputable def cZ(K:Fg)(G:GQ):Sp:=fun vs H Q E=>cY K G vs H Q E\/(fL K G vs H Q E\/fM K G vs H Q E)
noncomputable def mq(K:Fg)(G:GQ)(E:XK):TS:=dD
noncomputable def gd(K:Fg)(G:GQ)(E:XK):TS:=(ar (bD (fY (tB (aq (fw K) [] E0 (aa (cp K (ad 0) "cards") (aa (cp K (ad 0) "hands") (aa (ad 1) ag)))))) (uz G.NoSaying E (aa (tC (.str "this is no saying at this table")) ag)) bv)
 dD)
theorem rl{K:Fg}{G:GQ}{vs:List V}{H:Hp}{Q:VK}{E:XK}(h:fL K G vs H Q E):vs.length=2:=h.elim
theorem rn{K:Fg}{G:GQ}{vs:List V}{H:Hp}{Q:VK}{E:XK}(h:fM K G vs H Q E):vs.length=2:=by
 obtain⟨M,x,pv,pe,T,v,rfl,_⟩:=h;rfl
theorem sH{K:Fg}{G:GQ}(ct:fJ K G.Table){vs:List V}{H:Hp}{Q:VK}{E:XK}(h:fL K G vs H Q E):mq K G E { nx:=fun _ H'=>Q .non H',rt:=Q } (start j0 vs) H:=h.elim
theorem uI{K:Fg}{G:GQ}(ct:fJ K G.Table){vs:List V}{H:Hp}{Q:VK}{E:XK}(h:fM K G vs H Q E):gd K G E { nx:=fun _ H'=>Q .non H',rt:=Q } (start j0 vs) H:=by
 obtain⟨M,x,pv,pe,T,v,rfl,t,n,q⟩:=h;obtain⟨dx,pd,ps,qs,es,X⟩:=t.ex;show gd K G E _ [some _,some _] _;unfold gd;right;refine bT ?_;right;refine⟨x,G.Table,dx,_,_,rfl,X.hx,ct.cl,ct.n2,rfl,?_⟩;right;refine bT ?_;right;refine⟨x,G.Table,dx,_,_,rfl,X.hx,ct.cl,ct.n4,rfl,?_⟩;right;refine DU n fun H1 s1=>?_;right;refine AD ?_;right;exact⟨by simp[Kl],fun a n=>q a H1 s1 n⟩
noncomputable def g0(K:Fg)(G:GQ):Sp:=fun vs H _ E=>∃(M:List Addr)(x pv pe:Addr)(T:TM)(v w:V),vs=[.ref x,v,w]/\Tb G M H x pv pe T/\((aL H v/\cV H (T.k:Int) v=false/\Rz H E G.NoHand)\/(∃tp,v=.ref tp/\H tp=some (.tup [.int 0])/\cJ T.c T.k H w/\Rz H E G.NoSaying))
noncomputable def g9(K:Fg)(G:GQ):Sp:=fun _ _ _ _=>False
noncomputable def iQ(K:Fg)(G:GQ):Sp:=fun vs H Q E=>dW K G vs H Q E\/(g0 K G vs H Q E\/g9 K G vs H Q E)
noncomputable def hJ(K:Fg)(G:GQ)(E:XK):TS:=(ar (bR (aq (be K G) [] E (aa (aq (fv K) [] E0 (aa (ad 1) (aa (cp K (ad 0) "hands") ag))) (aa (tC (.str "this is no tuple of hands")) ag))))
 (aN (dq G.Table "learn" (fz K G) [] E0 (ad 0) (aa (ad 1) (aa (dq G.Table "truths" (cZ K G) [] E (ad 0) (aa (ad 2) ag)) ag)))))
noncomputable def pc(K:Fg)(G:GQ)(E:XK):TS:=dD
theorem uJ{K:Fg}{G:GQ}{vs:List V}{H:Hp}{Q:VK}{E:XK}(h:g0 K G vs H Q E):vs.length=3:=by
 obtain⟨M,x,pv,pe,T,v,w,rfl,_⟩:=h;rfl
theorem uK{K:Fg}{G:GQ}{vs:List V}{H:Hp}{Q:VK}{E:XK}(h:g9 K G vs H Q E):vs.length=3:=h.elim
theorem xm{K:Fg}{G:GQ}(ct:fJ K G.Table){vs:List V}{H:Hp}{Q:VK}{E:XK}(h:g9 K G vs H Q E):pc K G E { nx:=fun _ H'=>Q .non H',rt:=Q } (start mj vs) H:=h.elim
theorem v7{K:Fg}{G:GQ}(ct:fJ K G.Table){vs:List V}{H:Hp}{Q:VK}{E:XK}(h:g0 K G vs H Q E):hJ K G E { nx:=fun _ H'=>Q .non H',rt:=Q } (start mj vs) H:=by
 obtain⟨M,x,pv,pe,T,v,w,rfl,t,o⟩:=h;obtain⟨dx,pd,ps,qs,es,X⟩:=t.ex;have l1:1<=T.k:=t.ok.pk.l1;show hJ K G E _ [some _,some _,some _] _;unfold hJ;right;refine bT ?_;right;refine⟨x,G.Table,dx,_,_,rfl,X.hx,ct.cl,ct.n4,rfl,?_⟩;right;rcases o with⟨k,n,q⟩|⟨tp,rfl,et,ns,q⟩
 ·refine⟨v,(T.k:Int),rfl,k,?_⟩
  rw[n];right;exact .inr ⟨_,rfl,q⟩
 ·refine ux (g:=[0]) et (by simp) (fun k hk=>by rw[Kr.mp hk];exact l1) ?_
  right;refine .inl ⟨_,rfl,?_⟩;right;obtain⟨dx1,fs1,hx1,hl1⟩:=t.at "learn" (by decide+kernel) (by decide+kernel) (by decide+kernel) (by decide+kernel) (by decide+kernel) (by decide+kernel);refine dh ?_;right;refine⟨x,dx1,fs1,rfl,hx1,hl1,?_⟩;right;obtain⟨dx2,fs2,hx2,hl2⟩:=t.at "truths" (by decide+kernel) (by decide+kernel) (by decide+kernel) (by decide+kernel) (by decide+kernel) (by decide+kernel);refine dh ?_;right;refine⟨x,dx2,fs2,rfl,hx2,hl2,?_⟩;right;exact .inr (.inr ⟨M,x,pv,pe,T,w,rfl,t,ns,q⟩)
end
section
variable{K:Fg}{vs:List V}{H:Hp}{Q:VK}{E:XK}
open KF
theorem ko{xs:List V}{i:Int}(h0:0<=i)(h1:i<xs.length):∃v,atI xs i=some v/\v∈xs:=by
 obtain⟨n,rfl⟩:=Int.eq_ofNat_of_zero_le h0;have hl:n<xs.length:=by omega
 exact⟨xs[n],cN (Kj hl),Nq hl⟩
noncomputable def bn(H:Hp)(b:Int)(v:V):Prop:=aL H v/\aJ v 0 (b-1)=false
theorem bn.same{H H':Hp}{b:Int}{v:V}(h:bn H b v)(s:ap H H'):bn H' b v:=⟨h.1.same s,h.2⟩
theorem bn.hi{H:Hp}{b i:Int}(h:b<=i):bn H b (.int i):=⟨.int i,gr (by omega)⟩
theorem bn.lo{H:Hp}{b i:Int}(h:i<0):bn H b (.int i):=⟨.int i,mO (by omega)⟩
theorem bn.non{H:Hp}{b:Int}:bn H b .non:=⟨.non,rfl⟩
theorem bn.bl{H:Hp}{b:Int}(x:Bool):bn H b (.bl x):=⟨.bl x,rfl⟩
theorem bn.str{H:Hp}{b:Int}(x:Str):bn H b (.str x):=⟨.str x,rfl⟩
theorem bn.lst{H:Hp}{b:Int}{a:Addr}{xs:List V}(e:H a=some (.lst xs)):bn H b (.ref a):=⟨.lst e,rfl⟩
theorem bn.tup{H:Hp}{b:Int}{a:Addr}{xs:List V}(e:H a=some (.tup xs))(k:∀v∈xs,aL H v):bn H b (.ref a):=⟨.tup e k,rfl⟩
theorem all_nil{P:V->Prop}:∀v∈([]:List V),P v:=fun _ h=>(nomatch h)
theorem all_cons{P:V->Prop}{x:V}{xs:List V}(h:P x)(t:∀v∈xs,P v):∀v∈x::xs,P v:=fun v hv=>by
 rcases Kq.mp hv with rfl|z
 ·exact h
 ·exact t v z
noncomputable def jz(_:Fg):Sp:=fun vs H Q _=>∃(z:Int)(k:Nat),vs=[.int z,.int (k:Int)]/\∀v H',ap H H'->bn H' (k:Int) v->Q v H'
noncomputable def hU(K:Fg):TS:=(ar (aK (tOp (rI (fun _ j=>0<j) fun i j=>.int (i%j)) (tOp (rI kX fun i j=>.int (i/j)) (ad 0) (tC (.int 9))) (tOp (rI AV fun i j=>.int (i^j.toNat)) (tC (.int 10)) (tC (.int 58)))) (ao 2))
 (aN (tOp (cz K) (bQ (aa (ad 1) (aa (tUn (rU fun i=>.int (-i)) (tC (.int 1))) (aa (tOp (rI0 fun i j=>.int (i+j)) (ad 1) (ad 2)) (aa (tC .non) (aa (tC (.bl true)) (aa (tC (.str "0")) (aa (bz (aa (tC (.int 0)) ag)) (aa (bQ (aa (tC (.int 0)) ag)) (aa (tOp (rI0 fun i j=>.int (i-j)) (tOp (rI0 fun i j=>.int (i-j)) (tC (.int 0)) (tC (.int 2))) (ad 2)) ag)))))))))) (tOp (rI (fun _ j=>0<j) fun i j=>.int (i%j)) (ad 0) (tC (.int 9))))))
theorem uL(h:jz K vs H Q E):hU K { nx:=fun _ H'=>Q .non H',rt:=Q } (start ["_law_number","_law_hands","_law_far"] vs) H:=by
 obtain⟨z,k,rfl,q⟩:=h;show hU K _ [some _,some _,none] _;unfold hU;right;have hf:=NG (z/9) (show(10:Int)^(58:Int).toNat≠0 by decide+kernel);generalize z/9%(10:Int)^(58:Int).toNat=far at *;refine⟨by simp[Kl],fun t1 H1 _ s1 e1=>?_⟩;right;refine⟨by simp[Kl],fun l1 H2 _ s2 e2=>?_⟩;right;refine⟨by simp[Kl],fun l2 H3 _ s3 e3=>?_⟩;right;have hz:0<=z%9:=by omega
 have hz2:z%9<9:=by omega
 obtain⟨v,hv,hm⟩:=ko (xs:=[.int k,.int (-1),.int (k+far),.non,.bl true,.str "0",.ref t1,.ref l1,.int (0-2-far)]) hz hz2;refine bW (SqL.of e3) hv ?_;right;refine q v H3 ((s1.trans s2).trans s3) ?_;exact all_cons (bn.hi (Pq _)) (all_cons (bn.lo (by decide)) (all_cons (bn.hi (by omega)) (all_cons bn.non (all_cons (bn.bl _) (all_cons (bn.str _) (all_cons (bn.tup (s3 _ _ (s2 _ _ e1)) (aB (.int 0) bI)) (all_cons (bn.lst (s3 _ _ e2)) (all_cons (bn.lo (by omega)) all_nil)))))))) v hm
noncomputable def gb(H:Hp)(k:Int)(v:V):Prop:=aL H v/\cV H k v=false
theorem gb.same{H H':Hp}{k:Int}{v:V}(h:gb H k v)(s:ap H H'):gb H' k v:=⟨h.1.same s,by rw[rN s h.1];exact h.2⟩
theorem gb.lst{H:Hp}{k:Int}{a:Addr}{xs:List V}(e:H a=some (.lst xs)):gb H k (.ref a):=⟨.lst e,by simp only[cV,e]⟩
theorem gb.tup{H:Hp}{k:Int}{a:Addr}{xs:List V}(e:H a=some (.tup xs))(kn:∀v∈xs,aL H v)(n:cG k 0 xs=false):gb H k (.ref a):=⟨.tup e kn,by rw[fH e];exact n⟩
theorem Jg{k a:Int}(n:aJ (.int a) 0 (k-1)=false):cG k 0 [.int a]=false:=by
 show(aJ (.int a) 0 (k-1)&&true)=false;rw[n];rfl
theorem Fq{k a b:Int}(n:aJ (.int b) (a+1) (k-1)=false):cG k 0 [.int a,.int b]=false:=by
 show(aJ (.int a) 0 (k-1)&&(aJ (.int b) (a+1) (k-1)&&true))=false;rw[n,Nh,Ni]
theorem Kd{k a:Int}{v:V}(n:cG k (a+1) [v]=false):cG k 0 [.int a,v]=false:=by
 show(aJ (.int a) 0 (k-1)&&cG k (a+1) [v])=false;rw[n,Ni]
noncomputable def fN(_:Fg):Sp:=fun vs H Q _=>∃(z:Int)(k:Nat),vs=[.int z,.int (k:Int)]/\∀v H',ap H H'->gb H' (k:Int) v->Q v H'
noncomputable def gf(K:Fg):TS:=(ar (aK (bQ (aa (bQ (aa (tC (.int 0)) ag)) (aa (bz (aa (ad 1) ag)) (aa (bz (aa (tC (.int 0)) (aa (tC (.int 0)) ag))) (aa (bz (aa (tC (.int 1)) (aa (tC (.int 0)) ag))) (aa (bz (aa (tUn (rU fun i=>.int (-i)) (tC (.int 1))) ag)) (aa (bz (aa (tC (.bl true)) ag)) (aa (tC .non) (aa (tC (.int 0)) (aa (bz (aa (tC (.int 0)) (aa (tC (.str "1")) ag))) (aa (tC (.str "01")) (aa (bz (aa (tOp (rI0 fun i j=>.int (i-j)) (ad 1) (tC (.int 1))) (aa (ad 1) ag))) ag)))))))))))) (ao 2))
 (aN (tOp (cz K) (ad 2) (tOp (rI (fun _ j=>0<j) fun i j=>.int (i%j)) (ad 0) (tC (.int 11))))))
theorem sS(h:fN K vs H Q E):gf K { nx:=fun _ H'=>Q .non H',rt:=Q } (start ["_law_number","_law_hands","_law_some"] vs) H:=by
 obtain⟨z,k,rfl,q⟩:=h;show gf K _ [some _,some _,none] _;unfold gf;right;refine⟨by simp[Kl],fun l1 H1 _ s1 e1=>?_⟩;right;refine⟨by simp[Kl],fun t1 H2 _ s2 e2=>?_⟩;right;refine⟨by simp[Kl],fun t2 H3 _ s3 e3=>?_⟩;right;refine⟨by simp[Kl],fun t3 H4 _ s4 e4=>?_⟩;right;refine⟨by simp[Kl],fun t4 H5 _ s5 e5=>?_⟩;right;refine⟨by simp[Kl],fun t5 H6 _ s6 e6=>?_⟩;right;refine⟨by simp[Kl],fun t6 H7 _ s7 e7=>?_⟩;right;refine⟨by simp[Kl],fun t7 H8 _ s8 e8=>?_⟩;right;refine⟨by simp[Kl],fun la H9 _ s9 e9=>?_⟩;right;have hz:0<=z%11:=by omega
 have hz2:z%11<11:=by omega
 obtain⟨v,hv,hm⟩:=ko (xs:=[.ref l1,.ref t1,.ref t2,.ref t3,.ref t4,.ref t5,.non,.int 0,.ref t6,.str "01",.ref t7]) hz hz2;refine bW (SqL.of e9) hv ?_;right;have s79:=s8.trans s9;have s69:=s7.trans s79;have s59:=s6.trans s69;have s49:=s5.trans s59;have s39:=s4.trans s49;have s29:=s3.trans s39;have s19:=s2.trans s29;refine q v H9 (s1.trans s19) ?_;exact all_cons (gb.lst (s19 _ _ e1)) (all_cons (gb.tup (s29 _ _ e2) (aB (.int _) bI) (Jg (gr (by omega)))) (all_cons (gb.tup (s39 _ _ e3) (aB (.int _) (aB (.int _) bI)) (Fq (mO (by omega)))) (all_cons (gb.tup (s49 _ _ e4) (aB (.int _) (aB (.int _) bI)) (Fq (mO (by omega)))) (all_cons (gb.tup (s59 _ _ e5) (aB (.int _) bI) (Jg (mO (by omega)))) (all_cons (gb.tup (s69 _ _ e6) (aB (.bl _) bI) rfl) (all_cons ⟨.non,rfl⟩ (all_cons ⟨.int 0,rfl⟩ (all_cons (gb.tup (s79 _ _ e7) (aB (.int _) (aB (.str _) bI)) (Kd rfl)) (all_cons ⟨.str _,rfl⟩ (all_cons (gb.tup (s9 _ _ e8) (aB (.int _) (aB (.int _) bI)) (Fq (gr (by omega)))) all_nil)))))))))) v hm
noncomputable def v9:Nat->Sy
 |0=>.sees 0
 |n+1=>.not (v9 n)
theorem uM:∀n,(v9 n).words=n+1
 |0=>rfl
 |n+1=>by show(v9 n).words+1=_;rw[uM n]
theorem AF{c k:Nat}(h:0<k):∀n,(v9 n).Ok c k
 |0=>h
 |n+1=>AF h n
theorem cJ.top{c k:Nat}{H:Hp}{a:Addr}{xs:List V}(e:H a=some (.tup xs))(kn:∀v∈xs,aL H v)(n:cx (c:Int) (k:Int) H xs=false):cJ c k H (.ref a):=⟨.tup e kn,.inl (.top (by rw[cr e];exact n))⟩
theorem cJ.lst{c k:Nat}{H:Hp}{a:Addr}{xs:List V}(e:H a=some (.lst xs)):cJ c k H (.ref a):=⟨.lst e,.inl (.top (by simp only[cj,e]))⟩
theorem Jh:b9 "Not"=none:=by decide+kernel
theorem Hf{c h:Int}{H:Hp}{x:V}:cx c h H [.str "Not",x]=false:=by simp only[cx,Jh]
noncomputable def dj(_:Fg):Sp:=fun vs H Q _=>∃(z:Int)(c k:Nat),vs=[.int z,.int (c:Int),.int (k:Int)]/\0<k/\∀v H',ap H H'->cJ c k H' v->Q v H'
noncomputable def fO(K:Fg):TS:=(ar (aK (bz (aa (tC (.str "sees")) (aa (tC (.int 0)) ag))) (ao 3))
 (ar (eX (iI (aa (tC (.int 30)) ag)) (ao 4) (aK (bz (aa (tC (.str "not")) (aa (ad 3) ag))) (ao 3)))
 (ar (aK (bQ (aa (bz (aa (tC (.str "holds")) (aa (tOp (rI0 fun i j=>.int (i+j)) (ad 2) (tC (.int 1))) (aa (tC (.int 0)) ag)))) (aa (bz (aa (tC (.str "holds")) (aa (tC (.int 0)) (aa (ad 1) ag)))) (aa (bz (aa (tC (.str "sees")) (aa (ad 2) ag))) (aa (bQ (aa (tC (.str "sees")) (aa (tC (.int 0)) ag))) (aa (tC (.str "sees 0")) (aa (tC .non) (aa (bz (aa (tC (.str "sees")) ag)) (aa (ad 3) ag))))))))) (ao 5))
 (ar (aK (tOp nY (ad 5) (bQ (aa (bz (aa (tC (.str "knows")) (aa (ad 2) (aa (bz (aa (tC (.str "sees")) (aa (tC (.int 0)) ag))) ag)))) (aa (bz (aa (tC (.str "all")) (aa (bQ (aa (tC (.int 0)) ag)) (aa (bz (aa (tC (.str "sees")) (aa (tC (.int 0)) ag))) ag)))) (aa (bz (aa (tC (.str "and")) (aa (bz (aa (tC (.str "sees")) (aa (tC (.int 0)) ag))) ag))) (aa (bz (aa (tC (.str "Not")) (aa (bz (aa (tC (.str "sees")) (aa (tC (.int 0)) ag))) ag))) ag)))))) (ao 5))
 (aN (tOp (cz K) (ad 5) (tOp (rI (fun _ j=>0<j) fun i j=>.int (i%j)) (ad 0) (tC (.int 12)))))))))
theorem rq(h:dj K vs H Q E):fO K { nx:=fun _ H'=>Q .non H',rt:=Q } (start ["_law_number","_law_cards","_law_hands","_law_long","_law_k","_law_some"] vs) H:=by
 obtain⟨z,c,k,rfl,hk,q⟩:=h;show fO K _ [some _,some _,some _,none,none,none] _;unfold fO;refine bB ?_;nofun;refine⟨by simp[Kl],fun t0 H0 _ s0 e0=>?_⟩;nofun;refine bB ?_;nofun;refine n9 30 (by decide) (by decide) (by decide) (fun i σ H5=>∃(v:V)(u:Option V),σ=[some (.int z),some (.int (c:Int)),some (.int (k:Int)),some v,u,none]/\ap H H5/\cb H5 v (v9 i)) ⟨.ref t0,none,rfl,s0,t0,rfl,e0⟩ ?_ ?_
 ·rintro i σ H5 hi ⟨v,u,rfl,s5,is⟩
  nofun;refine⟨by simp[Kl],fun t H6 _ s6 e6=>?_⟩;nofun;exact⟨.ref t,_,rfl,s5.trans s6,t,v,rfl,e6,is.keep s6.keep⟩
 rintro σ Hn ⟨vl,u,rfl,sn,isl⟩;right;refine⟨by simp[Kl],fun t1 H1 _ s1 e1=>?_⟩;right;refine⟨by simp[Kl],fun t2 H2 _ s2 e2=>?_⟩;right;refine⟨by simp[Kl],fun t3 H3 _ s3 e3=>?_⟩;right;refine⟨by simp[Kl],fun l4 H4 _ s4 e4=>?_⟩;right;refine⟨by simp[Kl],fun t5 H5 _ s5 e5=>?_⟩;right;refine⟨by simp[Kl],fun la H6 _ s6 e6=>?_⟩;right;refine⟨by simp[Kl],fun i7 H7 _ s7 e7=>?_⟩;right;refine⟨by simp[Kl],fun t8 H8 _ s8 e8=>?_⟩;right;refine⟨by simp[Kl],fun l9 H9 _ s9 e9=>?_⟩;right;refine⟨by simp[Kl],fun iA HA _ sA eA=>?_⟩;right;refine⟨by simp[Kl],fun tB HB _ sB eB=>?_⟩;right;refine⟨by simp[Kl],fun iC HC _ sC eC=>?_⟩;right;refine⟨by simp[Kl],fun tD HD _ sD eD=>?_⟩;right;refine⟨by simp[Kl],fun iE HE _ sE eE=>?_⟩;right;refine⟨by simp[Kl],fun tF HF _ sF eF=>?_⟩;right;refine⟨by simp[Kl],fun lb HG _ sG eG=>?_⟩;have c16:=((((((((s7.trans s8).trans s9).trans sA).trans sB).trans sC).trans sD).trans sE).trans sF).trans sG;refine nZ (c16 _ _ e6) eG (by simp[Kl]) fun lc HI _ sI eI=>?_;right;have kF:=sG.trans sI;have kE:=sF.trans kF;have kD:=sE.trans kE;have kC:=sD.trans kD;have kB:=sC.trans kC;have kA:=sB.trans kB;have k9:=sA.trans kA;have k8:=s9.trans k9;have k7:=s8.trans k8;have k6:=s7.trans k7;have k5:=s6.trans k6;have k4:=s5.trans k5;have k3:=s4.trans k4;have k2:=s3.trans k3;have k1:=s2.trans k2;have k0:=s1.trans k1;have hz:0<=z%12:=by omega
 have hz2:z%12<12:=by omega
 obtain⟨v,hv,hm⟩:=ko (xs:=[.ref t1,.ref t2,.ref t3,.ref l4,.str "sees 0",.non,.ref t5,vl]++[.ref t8,.ref tB,.ref tD,.ref tF]) hz (by simp;omega);refine bW (SqL.of eI) hv ?_;right;refine q v HI (sn.trans k0) ?_;have ks:∀{i:Addr} {H':Hp},H' i=some (.tup [.str "sees",.int 0])->aL H' (.ref i):=fun e=>.tup e (aB (.str _) (aB (.int _) bI));exact all_cons (cJ.top (k1 _ _ e1) (aB (.str _) (aB (.int _) (aB (.int _) bI))) (by rw[so,gr (by omega)];rfl))
  (all_cons (cJ.top (k2 _ _ e2) (aB (.str _) (aB (.int _) (aB (.int _) bI))) (by rw[so,gr (i:=(c:Int)) (by omega),Ni]))
  (all_cons (cJ.top (k3 _ _ e3) (aB (.str _) (aB (.int _) bI)) (by rw[AC,gr (by omega)]))
  (all_cons (cJ.lst (k4 _ _ e4)) (all_cons ⟨.str _,.inl (.top rfl)⟩ (all_cons ⟨.non,.inl (.top rfl)⟩
  (all_cons (cJ.top (k5 _ _ e5) (aB (.str _) bI) (by rw[fg DH];rfl))
  (all_cons ⟨(isl.keep k0.keep).known,.inr ⟨v9 30,isl.keep k0.keep,AF hk 30,by rw[uM];decide⟩⟩
  (all_cons (cJ.top (k8 _ _ e8) (aB (.str _) (aB (.int _) (aB (ks (k7 _ _ e7)) bI))) (by rw[yQ,gr (by omega)]))
  (all_cons (cJ.top (kB _ _ eB) (aB (.str _) (aB (.lst (k9 _ _ e9)) (aB (ks (kA _ _ eA)) bI))) (by rw[DI];exact(gb.lst (k9 _ _ e9)).2))
  (all_cons (cJ.top (kD _ _ eD) (aB (.str _) (aB (ks (kC _ _ eC)) bI)) (by rw[fg Gd];rfl))
  (all_cons (cJ.top (kF _ _ eF) (aB (.str _) (aB (ks (kE _ _ eE)) bI)) Hf) all_nil))))))))))) v hm
end
section
variable{K:Fg}{vs:List V}{H:Hp}{Q:VK}{E:XK}
open KF
noncomputable def Wrg(c k n:Nat)(H:Hp)(way:Int)(v w u:V)(kd:Int):Prop:=
 (way=0/\kd=0/\gb H (k:Int) v)\/
 (way=0/\kd=1/\(∃tp,v=.ref tp/\H tp=some (.tup [.int 0]))/\cJ c k H w)\/
 (way=1/\kd=0/\(bn H (k:Int) v\/(v=.int 0/\bn H ((k:Int)+1) w)\/(v=.int 0/\w=.int 0/\gx H (c:Int) u false)))\/
 (way=2/\kd=0/\bn H (k:Int) v)\/
 (way=3/\kd=0/\(bn H (k:Int) v\/(v=.int 0/\bn H (n:Int) w)))\/
 (way=4/\kd=1/\cJ c k H v)
theorem Wrg.same{c k n:Nat}{H H':Hp}{way kd:Int}{v w u:V}(h:Wrg c k n H way v w u kd)(s:ap H H'):Wrg c k n H' way v w u kd:=by
 rcases h with⟨a,b,h⟩|⟨a,b,⟨tp,e,h⟩,h2⟩|⟨a,b,h⟩|⟨a,b,h⟩|⟨a,b,h⟩|⟨a,b,h⟩
 ·exact .inl ⟨a,b,h.same s⟩
 ·exact .inr (.inl ⟨a,b,⟨tp,e,s _ _ h⟩,h2.same s⟩)
 ·exact .inr (.inr (.inl ⟨a,b,h.imp (·.same s) (Or.imp (fun z=>⟨z.1,z.2.same s⟩) fun z=>⟨z.1,z.2.1,z.2.2.same s⟩)⟩))
 ·exact .inr (.inr (.inr (.inl ⟨a,b,h.same s⟩)))
 ·exact .inr (.inr (.inr (.inr (.inl ⟨a,b,h.imp (·.same s) fun z=>⟨z.1,z.2.same s⟩⟩))))
 ·exact .inr (.inr (.inr (.inr (.inr ⟨a,b,h.same s⟩))))
noncomputable def WD(c k n:Nat)(H:Hp)(x:V):Prop:=∃(t:Addr)(way kd:Int)(v w u:V),x=.ref t/\H t=some (.tup [.int way,v,w,u,.int kd])/\Wrg c k n H way v w u kd
theorem WD.same{c k n:Nat}{H H':Hp}{x:V}(h:WD c k n H x)(s:ap H H'):WD c k n H' x:=by
 obtain⟨t,way,kd,v,w,u,e,et,g⟩:=h;exact⟨t,way,kd,v,w,u,e,s _ _ et,g.same s⟩
theorem NoLs.ok{H:Hp}{c:Int}{v:V}(k:aL H v)(n:lg (tyN H v) "list"=false):gx H c v false:=.inr ⟨k,n,rfl⟩
noncomputable def lj(_:Fg):Sp:=fun vs H Q _=>∃(z:Int)(c k n:Nat),vs=[.int z,.int (c:Int),.int (k:Int),.int (n:Int)]/\0<k/\∀x H',ap H H'->WD c k n H' x->Q x H'
noncomputable def jA(K:Fg):TS:=(ar (aK (tOp (rI kX fun i j=>.int (i/j)) (ad 0) (tC (.int 8))) (ao 4))
 (ar (aK (aq (jz K) [] E0 (aa (ad 4) (aa (ad 2) ag))) (ao 5))
 (ar (aK (tOp (cz K) (bQ (aa (ad 1) (aa (tUn (rU fun i=>.int (-i)) (tC (.int 1))) (aa (tC .non) (aa (tC (.bl true)) (aa (tC (.str "0")) (aa (bQ (aa (tC (.int 0)) ag)) (aa (tOp (rI0 fun i j=>.int (i+j)) (ad 1) (tOp (rI (fun _ j=>0<j) fun i j=>.int (i%j)) (ad 4) (tOp (rI AV fun i j=>.int (i^j.toNat)) (tC (.int 10)) (tC (.int 30))))) ag)))))))) (tOp (rI (fun _ j=>0<j) fun i j=>.int (i%j)) (tOp (rI kX fun i j=>.int (i/j)) (ad 4) (tC (.int 11))) (tC (.int 7)))) (ao 6))
 (ar (aK (tOp (cz K) (bQ (aa (tC .non) (aa (bz ag) (aa (tC (.int 0)) (aa (tC (.str "")) (aa Bl ag)))))) (tOp (rI (fun _ j=>0<j) fun i j=>.int (i%j)) (tOp (rI kX fun i j=>.int (i/j)) (ad 4) (tC (.int 11))) (tC (.int 5)))) (ao 7))
 (ar (aK (tOp (cz K) (bQ (aa (ad 3) (aa (tUn (rU fun i=>.int (-i)) (tC (.int 1))) (aa (tC .non) (aa (tC (.bl false)) (aa (tC (.str "0")) (aa (tOp (rI0 fun i j=>.int (i+j)) (ad 3) (tOp (rI (fun _ j=>0<j) fun i j=>.int (i%j)) (ad 4) (tOp (rI AV fun i j=>.int (i^j.toNat)) (tC (.int 10)) (tC (.int 30))))) ag))))))) (tOp (rI (fun _ j=>0<j) fun i j=>.int (i%j)) (tOp (rI kX fun i j=>.int (i/j)) (ad 4) (tC (.int 11))) (tC (.int 6)))) (ao 8))
 (ar (aK (bz (aa (tC (.str "sees")) (aa (tC (.int 0)) ag))) (ao 9))
 (ar (aK (bQ (aa (bz (aa (tC (.int 0)) (aa (aq (fN K) [] E0 (aa (ad 4) (aa (ad 2) ag))) (aa (ad 9) (aa (tC .non) (aa (tC (.int 0)) ag)))))) (aa (bz (aa (tC (.int 0)) (aa (bz (aa (tC (.int 0)) ag)) (aa (aq (dj K) [] E0 (aa (ad 4) (aa (ad 1) (aa (ad 2) ag)))) (aa (tC .non) (aa (tC (.int 1)) ag)))))) ag))) (ao 10))
 (ar (aK (tOp nY (ad 10) (bQ (aa (bz (aa (tC (.int 0)) (aa (aq (fN K) [] E0 (aa (ad 4) (aa (ad 2) ag))) (aa (aq (dj K) [] E0 (aa (tOp (rI kX fun i j=>.int (i/j)) (ad 4) (tC (.int 7))) (aa (ad 1) (aa (ad 2) ag)))) (aa (tC .non) (aa (tC (.int 0)) ag)))))) ag))) (ao 10))
 (ar (aK (tOp nY (ad 10) (bQ (aa (bz (aa (tC (.int 1)) (aa (ad 5) (aa (tC (.int 0)) (aa (bQ ag) (aa (tC (.int 0)) ag)))))) (aa (bz (aa (tC (.int 1)) (aa (tC (.int 0)) (aa (tOp (cz K) (bQ (aa (tOp (rI0 fun i j=>.int (i+j)) (ad 2) (tC (.int 1))) (aa (tUn (rU fun i=>.int (-i)) (tC (.int 1))) (aa (tC .non) (aa (tC (.bl true)) ag))))) (tOp (rI (fun _ j=>0<j) fun i j=>.int (i%j)) (ad 4) (tC (.int 4)))) (aa (bQ ag) (aa (tC (.int 0)) ag)))))) ag)))) (ao 10))
 (ar (aK (tOp nY (ad 10) (bQ (aa (bz (aa (tC (.int 1)) (aa (tC (.int 0)) (aa (tC (.int 0)) (aa (tOp (cz K) (bQ (aa (ad 7) (aa (bQ (aa (ad 6) ag)) ag))) (tOp (rI (fun _ j=>0<j) fun i j=>.int (i%j)) (ad 4) (tC (.int 2)))) (aa (tC (.int 0)) ag)))))) (aa (bz (aa (tOp (rI0 fun i j=>.int (i+j)) (tC (.int 2)) (tOp (rI (fun _ j=>0<j) fun i j=>.int (i%j)) (ad 4) (tC (.int 2)))) (aa (ad 5) (aa (tC (.int 0)) (aa (tC .non) (aa (tC (.int 0)) ag)))))) ag)))) (ao 10))
 (ar (aK (tOp nY (ad 10) (bQ (aa (tOp (cz K) (bQ (aa (bz (aa (tC (.int 3)) (aa (tC (.int 0)) (aa (ad 8) (aa (tC .non) (aa (tC (.int 0)) ag)))))) (aa (bz (aa (tC (.int 4)) (aa (aq (dj K) [] E0 (aa (tOp (rI kX fun i j=>.int (i/j)) (ad 4) (tC (.int 7))) (aa (ad 1) (aa (ad 2) ag)))) (aa (tC .non) (aa (tC .non) (aa (tC (.int 1)) ag)))))) ag))) (tOp (rI (fun _ j=>0<j) fun i j=>.int (i%j)) (ad 4) (tC (.int 2)))) ag))) (ao 10))
 (aN (tOp (cz K) (ad 10) (tOp (rI (fun _ j=>0<j) fun i j=>.int (i%j)) (ad 0) (tC (.int 8))))))))))))))))
theorem xn(h:lj K vs H Q E):jA K { nx:=fun _ H'=>Q .non H',rt:=Q } (start ["_law_cell_here","_law_cards","_law_hands","_law_deals","_law_left","_law_no_hand_here","_law_no_card","_law_no_list","_law_no_deal","_law_good","_law_some"] vs) H:=by
 obtain⟨z,c,k,n,rfl,hk,q⟩:=h;show jA K _ [some _,some _,some _,some _,none,none,none,none,none,none,none] _;unfold jA;refine bB ?_;nofun;generalize z/8=y;refine bB ?_;nofun;refine⟨y,k,rfl,fun vh H1 s1 oh=>?_⟩;nofun;refine bB ?_;nofun;refine⟨by simp[Kl],fun l2 H2 _ s2 e2=>?_⟩;nofun;have hf:=NG y (show(10:Int)^(30:Int).toNat≠0 by decide+kernel);generalize y%(10:Int)^(30:Int).toNat=far at *;refine⟨by simp[Kl],fun l3 H3 _ s3 e3=>?_⟩;nofun;obtain⟨vc,hvc,mc⟩:=ko (xs:=[.int (c:Int),.int (-1),.non,.bl true,.str "0",.ref l2,.int ((c:Int)+far)]) (i:=y/11%7) (by omega) (show y/11%7<7 by omega);have oc:bn H3 (c:Int) vc:=all_cons (bn.hi (Pq _)) (all_cons (bn.lo (by decide)) (all_cons bn.non (all_cons (bn.bl _) (all_cons (bn.str _) (all_cons (bn.lst (s3 _ _ e2)) (all_cons (bn.hi (by omega)) all_nil)))))) vc mc;refine bW (SqL.of e3) hvc ?_;nofun;refine bB ?_;nofun;refine⟨by simp[Kl],fun t4 H4 _ s4 e4=>?_⟩;nofun;refine IN fun d5 H5 _ s5 e5=>?_;nofun;refine⟨by simp[Kl],fun l6 H6 _ s6 e6=>?_⟩;nofun;obtain⟨vl,hvl,ml⟩:=ko (xs:=[.non,.ref t4,.int 0,.str "",.ref d5]) (i:=y/11%5) (by omega) (show y/11%5<5 by omega);have e46:=s6 _ _ (s5 _ _ e4);have e56:=s6 _ _ e5;have ol:gx H6 (c:Int) vl false:=all_cons (P:=fun v=>gx H6 (c:Int) v false) (NoLs.ok .non rfl) (all_cons (NoLs.ok (.tup e46 bI) (by rw[gP e46];rfl)) (all_cons (NoLs.ok (.int 0) rfl) (all_cons (NoLs.ok (.str _) rfl) (all_cons (NoLs.ok (.dic e56) (by rw[jh e56];rfl)) all_nil)))) vl ml;refine bW (SqL.of e6) hvl ?_;nofun;refine bB ?_;nofun;have hf2:=hf;refine⟨by simp[Kl],fun l7 H7 _ s7 e7=>?_⟩;nofun;have hfy:=NG y (show(10:Int)^(30:Int).toNat≠0 by decide+kernel);generalize y%(10:Int)^(30:Int).toNat=far2 at *;obtain⟨vd,hvd,md⟩:=ko (xs:=[.int (n:Int),.int (-1),.non,.bl false,.str "0",.int ((n:Int)+far2)]) (i:=y/11%6) (by omega) (show y/11%6<6 by omega);have od:bn H7 (n:Int) vd:=all_cons (bn.hi (Pq _)) (all_cons (bn.lo (by decide)) (all_cons bn.non (all_cons (bn.bl _) (all_cons (bn.str _) (all_cons (bn.hi (by omega)) all_nil))))) vd md;refine bW (SqL.of e7) hvd ?_;nofun;refine bB ?_;nofun;refine⟨by simp[Kl],fun t8 H8 _ s8 e8=>?_⟩;nofun;refine bB ?_;nofun;refine⟨y,k,rfl,fun vg H9 s9 og=>?_⟩;nofun;refine⟨by simp[Kl],fun d0 HA _ sA eA=>?_⟩;nofun;refine⟨by simp[Kl],fun tB HB _ sB eB=>?_⟩;nofun;refine⟨y,c,k,rfl,hk,fun vs HC sC os=>?_⟩;nofun;refine⟨by simp[Kl],fun d1 HD _ sD eD=>?_⟩;nofun;refine⟨by simp[Kl],fun lE HE _ sE eE=>?_⟩;nofun;have w0:WD c k n HA (.ref d0):=⟨d0,0,0,_,_,_,rfl,eA,.inl ⟨rfl,rfl,og.same sA⟩⟩;have w1:WD c k n HD (.ref d1):=⟨d1,0,1,_,_,_,rfl,eD,.inr (.inl ⟨rfl,rfl,⟨tB,rfl,sD _ _ (sC _ _ eB)⟩,os.same sD⟩)⟩;have W1:∀x∈[V.ref d0,V.ref d1],WD c k n HE x:=all_cons (w0.same (((sB.trans sC).trans sD).trans sE)) (all_cons (w1.same sE) all_nil);refine bB ?_;nofun;refine⟨y,k,rfl,fun vg2 HF sF og2=>?_⟩;nofun;refine⟨y/7,c,k,rfl,hk,fun vs2 HG sG os2=>?_⟩;nofun;refine⟨by simp[Kl],fun d2 HI _ sI eI=>?_⟩;nofun;refine⟨by simp[Kl],fun lJ HJ _ sJ eJ=>?_⟩;have sEJ:=((sF.trans sG).trans sI).trans sJ;refine nZ (sEJ _ _ eE) eJ (by simp[Kl]) fun lK HK _ sK eK=>?_;nofun;have w2:WD c k n HI (.ref d2):=⟨d2,0,0,_,_,_,rfl,eI,.inl ⟨rfl,rfl,(og2.same sG).same sI⟩⟩;have W2:∀x∈[V.ref d0,V.ref d1,V.ref d2],WD c k n HK x:=fun x hx=>by
  rcases Lf.mp (show x∈[V.ref d0,V.ref d1]++[V.ref d2]from hx)with h|h
  ·exact(W1 x h).same (sEJ.trans sK)
  ·rw[Kr.mp h]
   exact w2.same (sJ.trans sK)
 have s1K:ap H1 HK:=(((((((s2.trans s3).trans s4).trans s5).trans s6).trans s7).trans s8).trans s9).trans (((((sA.trans sB).trans sC).trans sD).trans sE).trans (sEJ.trans sK));have s3K:ap H3 HK:=(((((s4.trans s5).trans s6).trans s7).trans s8).trans s9).trans (((((sA.trans sB).trans sC).trans sD).trans sE).trans (sEJ.trans sK));have s6K:ap H6 HK:=(((s7.trans s8).trans s9).trans ((((sA.trans sB).trans sC).trans sD).trans sE)).trans (sEJ.trans sK);have s7K:ap H7 HK:=(((s8).trans s9).trans ((((sA.trans sB).trans sC).trans sD).trans sE)).trans (sEJ.trans sK);have ohK:=oh.same s1K;have ocK:=oc.same s3K;have olK:=ol.same s6K;have odK:=od.same s7K;have S0:ap H HK:=s1.trans s1K;have eK':HK lK=some (.lst [V.ref d0,V.ref d1,V.ref d2]):=eK;clear eK w0 w1 w2 W1 os os2 og og2 oh oc ol od s1K s3K s6K s7K e2 e3 e4 e5 e6 e7 e8 e46 e56 eA eB eD eE eI eJ sEJ hvc hvl hvd mc ml md;refine bB ?_;nofun;refine⟨by simp[Kl],fun l1 HL _ sL eL=>?_⟩;nofun;refine⟨by simp[Kl],fun d3 HM _ sM eM=>?_⟩;nofun;refine⟨by simp[Kl],fun lN HN _ sN eN=>?_⟩;nofun;obtain⟨vo,hvo,mo⟩:=ko (xs:=[.int ((k:Int)+1),.int (-1),.non,.bl true]) (i:=y%4) (by omega) (show y%4<4 by omega);have oo:bn HN ((k:Int)+1) vo:=all_cons (bn.hi (Pq _)) (all_cons (bn.lo (by decide)) (all_cons bn.non (all_cons (bn.bl _) all_nil))) vo mo;refine bW (SqL.of eN) hvo ?_;nofun;refine⟨by simp[Kl],fun l4 HO_ _ sO eO=>?_⟩;nofun;refine⟨by simp[Kl],fun d4 HP _ sP eP=>?_⟩;nofun;refine⟨by simp[Kl],fun lQ HQ _ sQ eQ=>?_⟩;have sKQ:=((((sL.trans sM).trans sN).trans sO).trans sP).trans sQ;refine nZ (sKQ _ _ eK') eQ (by simp[Kl]) fun lR HR _ sR eR=>?_;nofun;have sKR:=sKQ.trans sR;have w3:WD c k n HM (.ref d3):=⟨d3,1,0,_,_,_,rfl,eM,.inr (.inr (.inl ⟨rfl,rfl,.inl (ohK.same (sL.trans sM))⟩))⟩;have w4:WD c k n HP (.ref d4):=⟨d4,1,0,_,_,_,rfl,eP,.inr (.inr (.inl ⟨rfl,rfl,.inr (.inl ⟨rfl,oo.same (sO.trans sP)⟩)⟩))⟩;have W3:∀x∈[V.ref d0,V.ref d1,V.ref d2,V.ref d3,V.ref d4],WD c k n HR x:=fun x hx=>by
  rcases Lf.mp (show x∈[V.ref d0,V.ref d1,V.ref d2]++[V.ref d3,V.ref d4]from hx)with h|h
  ·exact(W2 x h).same sKR
  ·exact all_cons (w3.same (((((sN.trans sO).trans sP).trans sQ)).trans sR)) (all_cons (w4.same (sQ.trans sR)) all_nil) x h
 have eR':HR lR=some (.lst [V.ref d0,V.ref d1,V.ref d2,V.ref d3,V.ref d4]):=eR;have ohR:=ohK.same sKR;have ocR:=ocK.same sKR;have olR:=olK.same sKR;have odR:=odK.same sKR;have S1:ap H HR:=S0.trans sKR;clear eR w3 w4 W2 ohK ocK olK odK oo hvo mo eL eM eN eO eP eQ eK' sKQ sKR;refine bB ?_;nofun;refine⟨by simp[Kl],fun m1 I1 _ i1 f1=>?_⟩;nofun;refine⟨by simp[Kl],fun m2 I2 _ i2 f2=>?_⟩;nofun;obtain⟨vu,hvu,mu⟩:=ko (xs:=[vl,.ref m1]) (i:=y%2) (by omega) (show y%2<2 by omega);have ou:gx I2 (c:Int) vu false:=all_cons (P:=fun v=>gx I2 (c:Int) v false) (olR.same (i1.trans i2)) (all_cons (.inl ⟨m1,[vc],rfl,i2 _ _ f1,by simp,aB ((ocR.same (i1.trans i2)).1) bI,by rw[Lw,ocR.2];rfl⟩) all_nil) vu mu;refine bW (SqL.of f2) hvu ?_;nofun;refine⟨by simp[Kl],fun d5 I3 _ i3 f3=>?_⟩;nofun;refine⟨by simp[Kl],fun d6 I4 _ i4 f4=>?_⟩;nofun;refine⟨by simp[Kl],fun m5 I5 _ i5 f5=>?_⟩;have iR5:=(((i1.trans i2).trans i3).trans i4).trans i5;refine nZ (iR5 _ _ eR') f5 (by simp[Kl]) fun m6 I6 _ i6 f6=>?_;nofun;have iR6:=iR5.trans i6;have w5:WD c k n I3 (.ref d5):=⟨d5,1,0,_,_,_,rfl,f3,.inr (.inr (.inl ⟨rfl,rfl,.inr (.inr ⟨rfl,rfl,ou.same i3⟩)⟩))⟩;have oh4:=ohR.same (((i1.trans i2).trans i3).trans i4);have w6:WD c k n I4 (.ref d6):=⟨d6,2+y%2,0,_,_,_,rfl,f4,by
  by_cases z:y%2=0
  ·exact .inr (.inr (.inr (.inl ⟨by omega,rfl,oh4⟩)))
  ·exact .inr (.inr (.inr (.inr (.inl ⟨by omega,rfl,.inl oh4⟩))))⟩
 have W4:∀x∈[V.ref d0,V.ref d1,V.ref d2,V.ref d3,V.ref d4,V.ref d5,V.ref d6],WD c k n I6 x:=fun x hx=>by
  rcases Lf.mp (show x∈[V.ref d0,V.ref d1,V.ref d2,V.ref d3,V.ref d4]++[V.ref d5,V.ref d6]from hx)with h|h
  ·exact(W3 x h).same iR6
  ·exact all_cons (w5.same ((i4.trans i5).trans i6)) (all_cons (w6.same (i5.trans i6)) all_nil) x h
 have f6':I6 m6=some (.lst [V.ref d0,V.ref d1,V.ref d2,V.ref d3,V.ref d4,V.ref d5,V.ref d6]):=f6;have od6:=odR.same iR6;have S2:ap H I6:=S1.trans iR6;clear f6 w5 w6 W3 ohR ocR olR odR oh4 ou hvu mu f1 f2 f3 f4 f5 eR' iR5 iR6;refine bB ?_;nofun;refine⟨by simp[Kl],fun d7 J1 _ j1 g1=>?_⟩;nofun;refine⟨y/7,c,k,rfl,hk,fun vs3 J2 j2 os3=>?_⟩;nofun;refine⟨by simp[Kl],fun d8 J3 _ j3 g3=>?_⟩;nofun;refine⟨by simp[Kl],fun n4 J4 _ j4 g4=>?_⟩;nofun;obtain⟨vw,hvw,mw⟩:=ko (xs:=[.ref d7,.ref d8]) (i:=y%2) (by omega) (show y%2<2 by omega);have w7:WD c k n J1 (.ref d7):=⟨d7,3,0,_,_,_,rfl,g1,.inr (.inr (.inr (.inr (.inl ⟨rfl,rfl,.inr ⟨rfl,od6.same j1⟩⟩))))⟩;have w8:WD c k n J3 (.ref d8):=⟨d8,4,1,_,_,_,rfl,g3,.inr (.inr (.inr (.inr (.inr ⟨rfl,rfl,os3.same j3⟩))))⟩;have ww:WD c k n J4 vw:=all_cons (w7.same ((j2.trans j3).trans j4)) (all_cons (w8.same j4) all_nil) vw mw;refine bW (SqL.of g4) hvw ?_;nofun;refine⟨by simp[Kl],fun n5 J5 _ j5 g5=>?_⟩;have j05:=(((j1.trans j2).trans j3).trans j4).trans j5;refine nZ (j05 _ _ f6') g5 (by simp[Kl]) fun n6 J6 _ j6 g6=>?_;nofun;have j06:=j05.trans j6;have g6':J6 n6=some (.lst [V.ref d0,V.ref d1,V.ref d2,V.ref d3,V.ref d4,V.ref d5,V.ref d6,vw]):=g6;obtain⟨x,hx,mx⟩:=ko (xs:=[V.ref d0,V.ref d1,V.ref d2,V.ref d3,V.ref d4,V.ref d5,V.ref d6,vw]) (i:=z%8) (by omega) (show z%8<8 by omega);refine bW (SqL.of g6') hx ?_;nofun;refine q x J6 (S2.trans j06) ?_;rcases Lf.mp (show x∈[V.ref d0,V.ref d1,V.ref d2,V.ref d3,V.ref d4,V.ref d5,V.ref d6]++[vw]from mx)with h|h
 ·exact(W4 x h).same j06
 ·rw[Kr.mp h]
  exact ww.same (j5.trans j6)
end
section
open KF
noncomputable def StW(N:Addr->Prop)(H:Hp)(v:V)(T:TM):Prop:=∃(hl:Addr)(rs:List Addr),v=.ref hl/\H hl=some (.lst (rs.map V.ref))/\N hl/\rs.length=T.k/\∀(i:Nat)(r:Addr),rs[i]?=some r->zc N H r T i
theorem StW.to{N N':Addr->Prop}{H H':Hp}{v:V}{T:TM}(h:StW N H v T)(k:dF H H')(f:∀l xs,N l->H l=some (.lst xs)->H' l=some (.lst xs)/\N' l):StW N' H' v T:=by
 obtain⟨hl,rs,rfl,h5,h6,h7,h8⟩:=h;exact⟨hl,rs,rfl,(f _ _ h6 h5).1,(f _ _ h6 h5).2,h7,fun i r hr=>(h8 i r hr).to k f⟩
theorem StW.eqv{K:Fg}{N N':Addr->Prop}{H:Hp}{u v:V}{T:TM}(dk:T.Dk)(h:StW N H u T)(g:StW N' H v T):cP K H 5 u v:=by
 obtain⟨hl,rs,rfl,h5,h6,h7,h8⟩:=h;obtain⟨hl',rs',rfl,g5,g6,g7,g8⟩:=g;refine .lst (n:=4) (SqL.of h5) (SqL.of g5) (by rw[Kk,Kk,h7,g7]) fun i x y hx hy=>?_;obtain⟨b,hb,rfl⟩:=nJ hx;obtain⟨b',hb',rfl⟩:=nJ hy;obtain⟨vp,sp,ss,e1,e2,_,e4,_,e6,e7⟩:=h8 i b hb;obtain⟨vp',sp',ss',f1,f2,_,f4,_,f6,f7⟩:=g8 i b' hb';refine Bx (SqT.of e1) (SqT.of f1) (.up (oC (SqL.of e2) (SqL.of f2) (by rw[cT];exact wN _)) (by decide)) ?_;refine .lst (n:=2) (SqL.of e4) (SqL.of f4) (by rw[Kk,Kk,e6,f6]) fun d x y hx hy=>?_;obtain⟨c,hc,rfl⟩:=nJ hx;obtain⟨c',hc',rfl⟩:=nJ hy;exact(e7 d c hc).1.eqv dk (f7 d c' hc').1
noncomputable def iR(_:Fg)(G:GQ):Sp:=fun vs H Q _=>∃(M:List Addr)(x pv pe:Addr)(T:TM)(k n:Nat),vs=[.ref x,.int k,.int n]/\T.k=k/\T.n=n/\Tb G M H x pv pe T/\T.Dk/\T.ds.length<1000/\∀v H',ap H H'->StW (fun l=>H l=none) H' v T->Q v H'
noncomputable def jB(K:Fg)(G:GQ):TS:=(aN (cc (iI (aa (ad 1) ag)) (fun _ _ _ _=>(ao 0)) (fun _ _ _ _=>bM) (fun _ _ _ _=>(bz (aa (dq G.Table "view" (dU K G) [] E0 (ad 1) (aa (ad 0) ag)) (aa (cc (iI (aa (ad 2) ag)) (fun _ _ _ _=>(ao 0)) (fun _ _ _ _=>bM) (fun _ _ _ _=>(dq G.Table "saw" (dL K G) [] E0 (ad 2) (aa (ad 1) (aa (ad 0) ag)))) [none,some 0,some 1]) ag)))) [none,some 0,some 2]))
noncomputable abbrev ze:List Str:=["_law_table","_law_hands","_law_many"]
theorem xo{K:Fg}{G:GQ}{vs:List V}{H:Hp}{Q:VK}{E:XK}(h:iR K G vs H Q E):jB K G { nx:=fun _ H'=>Q .non H',rt:=Q } (start ze vs) H:=by
 obtain⟨M,x,pv,pe,T,k,n,rfl,rfl,rfl,t,dk,hds,q⟩:=h;have n2:=t.ok.n2;have l5:T.k<=5:=t.ok.pk.l5;show jB K G _ [some _,some _,some _] _;unfold jB;right;refine qg T.k (by omega) (by omega) (by omega) (fun p' j acc H'=>∃rs:List Addr,acc=rs.map V.ref/\rs.length=j/\∀i r,rs[i]?=some r->zc (fun l=>H l=none/\l≠p') H' r T i) (fun p' H' _=>⟨[],rfl,rfl,fun i r hr=>by cases i<;>cases hr⟩) ?_ ?_
 ·rintro p' hp' C s' H' fp j acc H1 hj ⟨s1,e1,l1,rs,rfl,lrs,hrs⟩
  have t1:=t.same s1;right;obtain⟨dx1,fs1,hx1,hl1⟩:=t1.at "view" (by decide+kernel) (by decide+kernel) (by decide+kernel) (by decide+kernel) (by decide+kernel) (by decide+kernel);refine dh ?_;right;refine⟨x,dx1,fs1,rfl,hx1,hl1,?_⟩;right;refine⟨M,x,pv,pe,T,j,rfl,t1,hj,fun q2 H2 hq2 s2 e2=>?_⟩;have t2:=t1.same s2;right;refine qg T.n (by omega) (by omega) (by omega) (fun p'' d acc H'=>∃ss:List Addr,acc=ss.map V.ref/\ss.length=d/\∀i r,ss[i]?=some r->ly H' r T j i/\H2 r=none/\r≠p'') (fun p'' H' _=>⟨[],rfl,rfl,fun i r hr=>by cases i<;>cases hr⟩) ?_ ?_
  ·rintro p2' hp2' C2 s2' H2' fp2 d acc H3 hd ⟨s3,e3,l3,ss,rfl,lss,hss⟩
   have t3:=t2.same s3;right;obtain⟨dx3,fs3,hx3,hl3⟩:=t3.at "saw" (by decide+kernel) (by decide+kernel) (by decide+kernel) (by decide+kernel) (by decide+kernel) (by decide+kernel);refine dh ?_;right;refine⟨x,dx3,fs3,rfl,hx3,hl3,?_⟩;right;refine⟨M,x,pv,pe,T,j,d,rfl,t3,dk,hds,hj,hd,fun q4 H4 hq4 s4 e4=>?_⟩;have nq4:q4≠p2':=fun z=>by rw[z,e3]at hq4;cases hq4
   refine bJ.putW hp2' (s3.trans s4) (s4 _ _ e3) l3 fun H5 o5=>⟨ss++[q4],by rw[KU];rfl,by rw[KP,lss];rfl,fun i r hr=>?_⟩;have kp:∀{b:Addr} {xs:List V},H4 b=some (.tup xs)->H5 b=some (.tup xs):=fun{b xs} e=>(o5 b (fun z=>by rw[z,s4 _ _ e3]at e;cases e)).trans e;by_cases hi:i<ss.length
   ·rw[MG hi]at hr
    obtain⟨z1,z2,z3⟩:=hss i r hr;exact⟨z1.to (fun _ _ e=>kp (s4 _ _ e)) fun xs e=>(o5 _ z3).trans (s4 _ _ e),z2,z3⟩
   ·have hi2:=(Kn.mp hr).1
    rw[KP]at hi2;have ei:i=d:=by simp at hi2;omega
    subst ei;rw[M4 (by omega),lss,O9]at hr;cases hr;exact⟨e4.to (fun _ _ e=>kp e) fun xs e=>(o5 _ nq4).trans e,s3.free hq4,nq4⟩
  ·rintro q3 acc H3 hq3 s3 e3 ⟨ss,rfl,lss,hss⟩
   right;refine⟨by simp[Kl],fun q4 H4 hq4 s4 e4=>?_⟩;have s14:=(s2.trans s3).trans s4;have f0:∀{b:Addr},H1 b=none->H b=none/\b≠p':=fun h=>⟨s1.free h,fun z=>by rw[z,e1]at h;cases h⟩;refine bJ.putW hp' (s1.trans s14) (s14 _ _ e1) l1 fun H5 o5=>⟨rs++[q4],by rw[KU];rfl,by rw[KP,lrs];rfl,fun i r hr=>?_⟩;have kp:∀{b:Addr} {xs:List V},H4 b=some (.tup xs)->H5 b=some (.tup xs):=fun{b xs} e=>(o5 b (fun z=>by rw[z,s14 _ _ e1]at e;cases e)).trans e;by_cases hi:i<rs.length
   ·rw[MG hi]at hr
    exact(hrs i r hr).to (fun _ _ e=>kp (s14 _ _ e)) fun l xs hl e=>⟨(o5 _ hl.2).trans (s14 _ _ e),hl⟩
   ·have hi2:=(Kn.mp hr).1
    rw[KP]at hi2;have ei:i=j:=by simp at hi2;omega
    subst ei;rw[M4 (by omega),lrs,O9]at hr;cases hr;have n2:=f0 hq2;have n3:=f0 (s2.free hq3);refine⟨q2,q3,ss,kp e4,(o5 _ n2.2).trans (s4 _ _ (s3 _ _ e2)),n2,(o5 _ n3.2).trans (s4 _ _ e3),n3,lss,fun d p hp=>?_⟩;obtain⟨z1,z2,z3⟩:=hss d p hp;have n4:=f0 (s2.free z2);exact⟨z1.to (fun _ _ e=>kp (s4 _ _ e)) fun xs e=>(o5 _ n4.2).trans (s4 _ _ e),n4⟩
 ·rintro hl acc H1 hhl s1 e1 ⟨rs,rfl,lrs,hrs⟩
  right;exact q _ H1 s1 ⟨hl,rs,rfl,e1,hhl,lrs,fun i r hr=>(hrs i r hr).to (fun _ _ e=>e) fun l xs hl e=>⟨e,hl.1⟩⟩
theorem AG{T:TM}(h:T.Dk)(g:List Nat)(s:Sy):(T.word g s).Dk:=fun m hm=>by
 rcases Lf.mp (show m∈T.ds++[_]from hm)with z|z
 ·exact h m z
 ·rw[Kr.mp z]
  exact⟨cF _ _,E3 _ _⟩
theorem Hg{T:TM}(h:T.Dk)(i:Nat)(hh:Int)(ns:List Int):(T.show i hh ns).Dk:=fun m hm=>by
 rcases Lf.mp (show m∈T.ds++[_]from hm)with z|z
 ·exact h m z
 ·rw[Kr.mp z]
  refine⟨by unfold kS;rw[Kk,Kk];rfl,fun y hy=>?_⟩;obtain⟨a,_,rfl⟩:=Lr.mp hy;cases a<;>rfl
theorem zf(c:Nat)(ss:List Nat):(TM.begun c ss).Dk:=fun m hm=>nomatch hm
end
section
open KF
noncomputable def iS(_: Fg)(G: GQ): Sp:= fun vs H Q _=> ∃(M: List Addr)(x pv pe: Addr)(T: TM)(way: Int)(v w u: V), vs= [.ref x, .int way, v, w, u] ∧ Tb G M H x pv pe T ∧
  ((∃kd: Int, Wrg T.c T.k T.n H way v w u kd ∧ ∀p H', ap H H' → H' p= some (.lst [.bl (decide (kd= 0)), .bl (decide (kd= 1)), .bl true, .bl false]) → Q (.ref p) H') ∨
   (way= 0 ∧ (∃tp, v= .ref tp ∧ H tp= some (.tup [.int 0])) ∧ cb H w (.sees 0) ∧ T.ds.length<1000 ∧ ∀p H', Kp [pv, pe] H H' → Tb G M H' x pv pe (T.word [0] (.sees 0)) → H' p= some (.lst []) → Q (.ref p) H'))
noncomputable def jC(K:Fg)(G:GQ):TS:=(ar (aK (bQ ag) (ao 5))
 (ar (Gg K G.CardError 8 6 (fun E=>(bD (br (tOp rEq (ad 1) (tC (.int 0)))) (bR (dq G.Table "word" (iQ K G) [] E (ad 0) (aa (ad 2) (aa (ad 3) ag)))) (bD (br (tOp rEq (ad 1) (tC (.int 1)))) (bR (dq G.Table "show" (iP K G) [] E (ad 0) (aa (ad 2) (aa (ad 3) (aa (ad 4) ag))))) (bD (br (tOp rEq (ad 1) (tC (.int 2)))) (bR (dq G.Table "view" (iL K G) [] E (ad 0) (aa (ad 2) ag))) (bD (br (tOp rEq (ad 1) (tC (.int 3)))) (bR (dq G.Table "saw" (jy K G) [] E (ad 0) (aa (ad 2) (aa (ad 3) ag)))) (bR (dq G.Table "truths" (cZ K G) [] E (ad 0) (aa (ad 2) ag)))))))) (fun C a=>(ar (aK (tCB (yW K C a) (aa (ad 6) (aa (bz (aa (tC (.ref G.NoPack)) (aa (tC (.ref G.NoRow)) (aa (tC (.ref G.TooMany)) ag)))) ag))) (ao 7))
 (aK (bQ (aa (tCB (yW K C a) (aa (ad 6) (aa (tC (.ref G.NoHand)) ag))) (aa (tCB (yW K C a) (aa (ad 6) (aa (tC (.ref G.NoSaying)) ag))) (aa (tCB (yW K C a) (aa (ad 6) (aa (tC (.ty "ValueError")) ag))) (aa (ad 7) ag))))) (ao 5)))))
 (aN (ad 5))))
noncomputable abbrev zg:List Str:=["_law_table","_law_way","_law_thing","_law_other","_law_third","_law_heard_here","e","_law_others"]
theorem xp{K:Fg}{G:GQ}(ok:Gi K G.toErrs){vs:List V}{H:Hp}{Q:VK}{E:XK}(h:iS K G vs H Q E):jC K G { nx:=fun _ H'=>Q .non H',rt:=Q } (start zg vs) H:=by
 obtain⟨M,x,pv,pe,T,way,v,w,u,rfl,t,o⟩:=h;have l1:1<=T.k:=t.ok.pk.l1;show jC K G _ [some _,some _,some _,some _,some _,none,none,none] _;unfold jC;refine bB ?_;nofun;refine⟨by simp[Kl],fun l0 H1 hl0 s1 e1=>?_⟩;nofun;have t1:=t.same s1;refine bB ?_;rcases o with⟨kd,g,q⟩|⟨rfl,⟨tp,rfl,et⟩,is,hds,q⟩
 ·refine⟨fun C oa H'=>ap H H'/\((kd=0/\C=.ref G.NoHand)\/(kd=1/\C=.ref G.NoSaying)),?_,?_⟩
  ·have rh:kd=0->Rz H1 (fun C oa H'=>ap H H'/\((kd=0/\C=.ref G.NoHand)\/(kd=1/\C=.ref G.NoSaying))) G.NoHand:=fun hk a H' s' _=>⟨s1.trans s',.inl ⟨hk,rfl⟩⟩
   have rs:kd=1->Rz H1 (fun C oa H'=>ap H H'/\((kd=0/\C=.ref G.NoHand)\/(kd=1/\C=.ref G.NoSaying))) G.NoSaying:=fun hk a H' s' _=>⟨s1.trans s',.inr ⟨hk,rfl⟩⟩;have g1:=g.same s1;right;refine bN (fun h0=>?_) (fun h0=>?_)
   ·right
    obtain⟨dx1,fs1,hx1,hl1⟩:=t1.at "word" (by decide+kernel) (by decide+kernel) (by decide+kernel) (by decide+kernel) (by decide+kernel) (by decide+kernel);refine dh ?_;right;refine⟨x,dx1,fs1,rfl,hx1,hl1,?_⟩;right;refine .inr (.inl ⟨M,x,pv,pe,T,v,w,rfl,t1,?_⟩);rcases g1 with⟨a,b,h⟩|⟨a,b,⟨tp,e,h⟩,h2⟩|⟨a,b,h⟩|⟨a,b,h⟩|⟨a,b,h⟩|⟨a,b,h⟩
    ·exact .inl ⟨h.1,h.2,rh b⟩
    ·exact .inr ⟨tp,e,h,h2,rs b⟩
    all_goals omega
   right;refine bN (fun h1=>?_) (fun h1=>?_)
   ·right
    obtain⟨dx1,fs1,hx1,hl1⟩:=t1.at "show" (by decide+kernel) (by decide+kernel) (by decide+kernel) (by decide+kernel) (by decide+kernel) (by decide+kernel);refine dh ?_;right;refine⟨x,dx1,fs1,rfl,hx1,hl1,?_⟩;right;rcases g1 with⟨a,b,h⟩|⟨a,b,⟨tp,e,h⟩,h2⟩|⟨a,b,h⟩|⟨a,b,h⟩|⟨a,b,h⟩|⟨a,b,h⟩
    ·omega
    ·omega
    ·refine .inr (.inl ⟨M,x,pv,pe,T,v,w,u,rfl,t1,?_,rh b⟩)
     refine h.imp id (Or.imp (fun z=>⟨z.1,z.2.1,?_⟩) id);have:=z.2.2;rw[show(T.k:Int)+1-1=(T.k:Int) by omega]at this;exact this
    all_goals omega
   right;refine bN (fun h2=>?_) (fun h2=>?_)
   ·right
    obtain⟨dx1,fs1,hx1,hl1⟩:=t1.at "view" (by decide+kernel) (by decide+kernel) (by decide+kernel) (by decide+kernel) (by decide+kernel) (by decide+kernel);refine dh ?_;right;refine⟨x,dx1,fs1,rfl,hx1,hl1,?_⟩;right;rcases g1 with⟨a,b,h⟩|⟨a,b,⟨tp,e,h⟩,h2⟩|⟨a,b,h⟩|⟨a,b,h⟩|⟨a,b,h⟩|⟨a,b,h⟩
    ·omega
    ·omega
    ·omega
    ·exact .inr (.inl ⟨M,x,pv,pe,T,v,rfl,t1,h.1,h.2,rh b⟩)
    all_goals omega
   right;refine bN (fun h3=>?_) (fun h3=>?_)
   ·right
    obtain⟨dx1,fs1,hx1,hl1⟩:=t1.at "saw" (by decide+kernel) (by decide+kernel) (by decide+kernel) (by decide+kernel) (by decide+kernel) (by decide+kernel);refine dh ?_;right;refine⟨x,dx1,fs1,rfl,hx1,hl1,?_⟩;right;rcases g1 with⟨a,b,h⟩|⟨a,b,⟨tp,e,h⟩,h2⟩|⟨a,b,h⟩|⟨a,b,h⟩|⟨a,b,h⟩|⟨a,b,h⟩
    ·omega
    ·omega
    ·omega
    ·omega
    ·exact .inr (.inl ⟨M,x,pv,pe,T,v,w,rfl,t1,h.imp id id,rh b⟩)
    ·omega
   ·right
    obtain⟨dx1,fs1,hx1,hl1⟩:=t1.at "truths" (by decide+kernel) (by decide+kernel) (by decide+kernel) (by decide+kernel) (by decide+kernel) (by decide+kernel);refine dh ?_;right;refine⟨x,dx1,fs1,rfl,hx1,hl1,?_⟩;right;rcases g1 with⟨a,b,h⟩|⟨a,b,⟨tp,e,h⟩,h2⟩|⟨a,b,h⟩|⟨a,b,h⟩|⟨a,b,h⟩|⟨a,b,h⟩
    ·omega
    ·omega
    ·omega
    ·omega
    ·omega
    ·exact .inr (.inr ⟨M,x,pv,pe,T,v,rfl,t1,h,rs b⟩)
  ·rintro C a H2 ⟨s2,⟨hk,eC⟩|⟨hk,eC⟩⟩ hn
   ·cases eC
    refine⟨ok.nh.exm,?_⟩;show(ar _ _) _ [none,none,none,none,none,none,some (.ref a),none] H2;right;refine⟨by simp[Kl],fun p3 H3 hp3 s3 e3=>?_⟩;refine⟨ok.nh.xi,ok.nh.ic,.inr (.inr ⟨p3,[G.NoPack,G.NoRow,G.TooMany],false,rfl,e3,ok.nh.k4,?_⟩)⟩;right;refine⟨ok.nh.xi,ok.nh.ic,.inl ⟨_,true,rfl,ok.nh.k1,?_⟩⟩;right;refine⟨ok.nh.xi,ok.nh.ic,.inl ⟨_,false,rfl,ok.nh.k2,?_⟩⟩;right;refine⟨ok.nh.xi,ok.nh.ic,.inr (.inl ⟨_,true,rfl,ok.nh.k3,?_⟩)⟩;right;refine⟨by simp[Kl],fun p4 H4 hp4 s4 e4=>?_⟩;right;refine q p4 H4 ((s2.trans s3).trans s4) ?_;rw[e4,hk];rfl
   ·cases eC
    refine⟨ok.ns.exm,?_⟩;show(ar _ _) _ [none,none,none,none,none,none,some (.ref a),none] H2;right;refine⟨by simp[Kl],fun p3 H3 hp3 s3 e3=>?_⟩;refine⟨ok.ns.xi,ok.ns.ic,.inr (.inr ⟨p3,[G.NoPack,G.NoRow,G.TooMany],false,rfl,e3,ok.ns.k4,?_⟩)⟩;right;refine⟨ok.ns.xi,ok.ns.ic,.inl ⟨_,false,rfl,ok.ns.k1,?_⟩⟩;right;refine⟨ok.ns.xi,ok.ns.ic,.inl ⟨_,true,rfl,ok.ns.k2,?_⟩⟩;right;refine⟨ok.ns.xi,ok.ns.ic,.inr (.inl ⟨_,true,rfl,ok.ns.k3,?_⟩)⟩;right;refine⟨by simp[Kl],fun p4 H4 hp4 s4 e4=>?_⟩;right;refine q p4 H4 ((s2.trans s3).trans s4) ?_;rw[e4,hk];rfl
 ·refine⟨fun _ _ _=>False,?_,fun _ _ _ z=>z.elim⟩
  right;refine bN (fun h0=>?_) (fun h0=>absurd rfl h0);right;obtain⟨dx1,fs1,hx1,hl1⟩:=t1.at "word" (by decide+kernel) (by decide+kernel) (by decide+kernel) (by decide+kernel) (by decide+kernel) (by decide+kernel);refine dh ?_;right;refine⟨x,dx1,fs1,rfl,hx1,hl1,?_⟩;right;refine .inl ⟨M,x,pv,pe,tp,T,[0],w,.sees 0,rfl,t1,s1 _ _ et,by simp,fun k hk=>by rw[Kr.mp hk];exact l1,is.keep s1.keep,l1,by decide,hds,fun p2 Hm H2 k2 t2 hp2 s2 e2=>?_⟩;right;have n0:l0∉[pv,pe]:=fun z=>by
   rcases Kq.mp z with z|z
   ·exact t.al pv t.mv (z▸hl0)
   ·exact t.al pe t.me (Kr.mp z▸hl0)
  exact q l0 H2 (((Kp.of s1).trans k2).trans (Kp.of s2)) (t2.same s2) (s2 _ _ (k2.lst n0 e1))
theorem Hh{K:Fg}{i1 i2 i3 i4 i5:Nat}{a:Addr}{x1 x2 x3 x4 x5:V}{σ:St}{H:Hp}{R:St->Hp->Prop}(e:SqT K H a [x1,x2,x3,x4,x5])(h:R (((((σ.set i1 (some x1)).set i2 (some x2)).set i3 (some x3)).set i4 (some x4)).set i5 (some x5)) H):ik K 5 (bx (ao i1) (bx (ao i2) (bx (ao i3) (bx (ao i4) (bx (ao i5) ij))))) (.ref a) σ H R:=
 ⟨a,[x1,x2,x3,x4,x5],rfl,e,rfl,x1,_,rfl,x2,_,rfl,x3,_,rfl,x4,_,rfl,x5,_,rfl,rfl,h⟩
noncomputable abbrev Ji(K:Fg):Sp:=tN K
noncomputable def xP(K:Fg)(G:GQ):TS:=(ar (aK (aq (lW K) [] E0 (aa (ad 0) (aa (tC (.int 0)) (aa (tC (.int 60)) ag)))) (ik K 2 (bx (ao 1) (bx (ao 2) ij))))
 (ar (aK (tCB (dP K) (aa (ad 2) ag)) (ao 3))
 (ar (aK (tCB (dP K) (aa (aq (ke K) [] E0 (aa (ad 1) (aa (ad 2) ag))) ag)) (ao 4))
 (ar (aK (xI G.Table (fS K G) [] E0 (aa (ad 1) (aa (ad 2) ag))) (ao 5))
 (ar (bD (br (tOp rEq (tOp (rI (fun _ j=>0<j) fun i j=>.int (i%j)) (aq (cD K) [] E0 (aa (ad 0) (aa (tC (.int 8)) ag))) (tC (.int 2))) (tC (.int 0)))) (bR (dq G.Table "word" (dW K G) [] E0 (ad 5) (aa (bz (aa (tC (.int 0)) ag)) (aa (bz (aa (tC (.str "sees")) (aa (tOp (rI0 fun i j=>.int (i-j)) (ad 3) (tC (.int 1))) ag))) ag)))) (bR (dq G.Table "show" (dX K G) [] E0 (ad 5) (aa (tOp (rI0 fun i j=>.int (i-j)) (ad 3) (tC (.int 1))) (aa (ad 3) (aa (By (aa (ad 1) ag)) ag))))))
 (ar (aK (aq (iR K G) [] E0 (aa (ad 5) (aa (ad 3) (aa (ad 4) ag)))) (ao 6))
 (ar (eX (iI (aa (tC (.int 8)) ag)) (ao 7) (ar (aK (aq (lj K) [] E0 (aa (aq (cD K) [] E0 (aa (ad 0) (aa (tOp (rI0 fun i j=>.int (i+j)) (tC (.int 9)) (ad 7)) ag))) (aa (ad 1) (aa (ad 3) (aa (ad 4) ag))))) (ik K 5 (bx (ao 8) (bx (ao 9) (bx (ao 10) (bx (ao 11) (bx (ao 12) ij)))))))
 (ar (bD (br (tOp (lY K true) (aq (iS K G) [] E0 (aa (ad 5) (aa (ad 8) (aa (ad 9) (aa (ad 10) (aa (ad 11) ag)))))) (bQ (aa (tOp rEq (ad 12) (tC (.int 0))) (aa (tOp rEq (ad 12) (tC (.int 1))) (aa (tC (.bl true)) (aa (tC (.bl false)) ag))))))) (aN (tC (.bl false))) bv)
 (bD (br (tOp (lY K true) (aq (iR K G) [] E0 (aa (ad 5) (aa (ad 3) (aa (ad 4) ag)))) (ad 6))) (aN (tC (.bl false))) bv))))
 (aN (mD (tOp (lY K false) (aq (iS K G) [] E0 (aa (ad 5) (aa (tC (.int 0)) (aa (bz (aa (tC (.int 0)) ag)) (aa (bz (aa (tC (.str "sees")) (aa (tC (.int 0)) ag))) (aa (tC .non) ag)))))) (bQ ag)) (tOp rEq (tCB (dP K) (aa (dq G.Table "saw" (dL K G) [] E0 (ad 5) (aa (tC (.int 0)) (aa (tC (.int 0)) ag))) ag)) (tOp (rI0 fun i j=>.int (i+j)) (tCB (dP K) (aa (tOp (cz K) (tOp (eY K) (tOp (cz K) (ad 6) (tC (.int 0))) (tC (.int 1))) (tC (.int 0))) ag)) (tC (.int 1)))))))))))))
noncomputable abbrev JQ:List Str:=["_law_script","_law_cards","_law_sizes","_law_hands","_law_many","_law_table","_law_due","_law_k","_law_way","_law_thing","_law_other","_law_third","_law_kind"]
theorem Jj{K:Fg}{G:GQ}{vs:List V}{H:Hp}{Q:VK}{E:XK}(h:Ji K vs H Q E):xP K G { nx:=fun _ H'=>Q .non H',rt:=Q } (start JQ vs) H:=by
 obtain⟨a,ns,rfl,hSc0,gg⟩:=h;show xP K G _ [some _,none,none,none,none,none,none,none,none,none,none,none,none] _;unfold xP;refine bB ?_;nofun;refine⟨a,ns,0,60,rfl,hSc0,by decide,by decide,by decide,fun c ss tp0 q H1 s1 htp hq e1 eq1 pk hm=>?_⟩;refine iq (SqT.of e1) ?_;have hSc:=hSc0.same s1;have h1:=pk.l1;have h5:=pk.l5;have c12:=pk.c12;have few:KM.cg c ss<=2000:=by omega
 have okB:=TM.Ok.begun pk few;nofun;refine bB ?_;nofun;rw[bo];refine bB ?_;nofun;refine⟨c,q,ss,rfl,eq1,pk,few,fun pd H3 s3 hpd D3=>?_⟩;obtain⟨rs3,er3,hr3⟩:=D3;have hln:rs3.length=(TM.begun c ss).n:=Lv hr3;nofun;rw[Kk,hln];have n2:=okB.n2;refine bB (Ba (Je ?_));nofun;intro x dx hx hdx hne;have st:ap H3 (upd (upd H3 dx (.own x)) x (.ins G.Table dx [])):=((ap.refl H3).upd hdx _).upd hx _;refine⟨[],x,dx,q,c,ss,rfl,ay,st _ _ (s3 _ _ eq1),pk,few,(fun b hb=>nomatch hb),(fun hb=>nomatch hb),fun H5 pv pe kx hpv hpe t5=>?_⟩;have s5:ap H3 H5:=fun b o e=>kx _ _ (bd e hx) (st _ _ e);have npv:H3 pv=none:=st.free hpv;have npe:H3 pe=none:=st.free hpe;refine⟨rfl,?_⟩;have keepS:∀{H6:Hp},Kp [pv,pe] H5 H6->ap H3 H6:=fun k=>Kp.new s5 k fun b hb=>by
  rcases Kq.mp hb with z|z
  ·rw[z];exact npv
  ·rw[Kr.mp z];exact npe
 refine qF fun NX hNX=>?_;have key:∀(T:TM)(H6:Hp),Kp [pv,pe] H5 H6->Tb G [pv,pe] H6 x pv pe T->T.Dk->T.c=c->T.ss=ss->T.ds.length<=1->NX [some (.ref a),some (.int (c:Int)),some (.ref q),some (.int (ss.length:Int)),some (.int ((TM.begun c ss).n:Int)),some (.ref x),none,none,none,none,none,none,none] H6:=by
  intro T H6 k6 t6 dk hc hss hd1;refine hNX _ _ ?_;clear hNX;have hTk:T.k=ss.length:=by show T.ss.length=_;rw[hss]
  have hTn:T.n=(TM.begun c ss).n:=by show(KM.ci (T.ss++[T.c-T.ss.sum]) T.c).length=_;rw[hc,hss];rfl
  generalize (TM.begun c ss).n=n at *;have hSc6:=hSc.same (s3.trans (keepS k6));clear keepS;refine bB ?_;nofun;refine⟨[pv,pe],x,pv,pe,T,ss.length,n,rfl,hTk,hTn,t6,dk,by omega,fun vd H7 s7 st7=>?_⟩;nofun;refine bB ?_;nofun;refine n9 8 (by decide) (by decide) (by decide) (fun i σ H8=>∃(u7 u8 u9 u10 u11 u12:Option V),σ=[some (.ref a),some (.int (c:Int)),some (.ref q),some (.int (ss.length:Int)),some (.int (n:Int)),some (.ref x),some vd,u7,u8,u9,u10,u11,u12]/\ap H7 H8) ⟨_,_,_,_,_,_,rfl,ap.refl _⟩ ?_ ?_
  ·rintro i σ H8 hi ⟨u7,u8,u9,u10,u11,u12,rfl,s8⟩
   have s68:=s7.trans s8;refine bB ?_;nofun;refine⟨a,ns,9+(i:Int),rfl,hSc6.same s68,by omega,by omega,?_⟩;generalize du ns (9+(i:Int))=z;nofun;refine⟨z,c,ss.length,n,rfl,h1,fun y H9 s9 wd=>?_⟩;obtain⟨t,way,kd,v,w,u,rfl,et,g⟩:=wd;refine Hh (SqT.of et) ?_;nofun;have s69:=s68.trans s9;refine bB ?_;nofun;refine⟨[pv,pe],x,pv,pe,T,way,v,w,u,rfl,t6.same s69,.inl ⟨kd,by rw[hc,hTk,hTn];exact g,fun p HA sA eA=>?_⟩⟩;nofun;refine⟨by simp[Kl],fun p2 HB _ sB eB=>?_⟩;refine AA 1 (by decide) (oC (SqL.of (sB _ _ eA)) (SqL.of eB) (by simp;exact⟨rfl,rfl,rfl,rfl⟩)) ?_;nofun;have s6B:=(s69.trans sA).trans sB;refine⟨[pv,pe],x,pv,pe,T,ss.length,n,rfl,hTk,hTn,t6.same s6B,dk,by omega,fun ve HC sC stC=>?_⟩;nofun;have s7C:=(((s8.trans s9).trans sA).trans sB).trans sC;refine AA 5 (by decide) (StW.eqv dk stC (st7.to (N':=fun _=>True) s7C.keep fun l xs _ e=>⟨s7C _ _ e,trivial⟩)) ?_;nofun;exact⟨_,_,_,_,_,_,rfl,s7C⟩
  rintro σ H8 ⟨u7,u8,u9,u10,u11,u12,rfl,s8⟩;have s68:=s7.trans s8;nofun;refine⟨by simp[Kl],fun tp H9 _ s9 e9=>?_⟩;nofun;refine⟨by simp[Kl],fun tq HA _ sA eA=>?_⟩;nofun;have s6A:=(s68.trans s9).trans sA;have t8:=t6.same s6A;refine⟨[pv,pe],x,pv,pe,T,0,.ref tp,.ref tq,.non,rfl,t8,.inr ⟨rfl,⟨tp,rfl,sA _ _ e9⟩,⟨tq,rfl,eA⟩,by omega,fun p HB kB tB eB=>?_⟩⟩;nofun;refine⟨by simp[Kl],fun p2 HC _ sC eC=>?_⟩;refine GS 1 (by decide) (oC (SqL.of (sC _ _ eB)) (SqL.of eC) (fun _ z=>nomatch z)) ?_;nofun;have tC:=tB.same sC;obtain⟨dx3,fs3,hx3,hl3⟩:=tC.at "saw" (by decide+kernel) (by decide+kernel) (by decide+kernel) (by decide+kernel) (by decide+kernel) (by decide+kernel);refine dh ?_;nofun;refine⟨x,dx3,fs3,rfl,hx3,hl3,?_⟩;nofun;have npos:0<T.n:=by
   show 0<(KM.ci _ _).length;rw[KM.j9 t6.ok.pk.sum];exact KM.Dh t6.ok.pk.sum
  refine⟨[pv,pe],x,pv,pe,T.word [0] (.sees 0),0,0,rfl,tC,AG dk _ _,by show(T.ds++[_]).length<1000;rw[KP];show T.ds.length+1<1000;omega,(show 0<T.k by omega),npos,fun p3 HD hp3 sD wD=>?_⟩;obtain⟨t3,w1,w2⟩:=wD;nofun;have out:∀{l:Addr},H6 l=none->l∉[pv,pe]:=fun hl z=>t6.al _ z hl;have stD:=st7.to (N':=fun _=>True) (H':=HD) (fun b xs e=>(sC.trans sD) _ _ (kB.keep _ _ (sA _ _ (s9 _ _ (s8 _ _ e))))) fun l xs hl e=>⟨(sC.trans sD) _ _ (kB.lst (out hl) (sA _ _ (s9 _ _ (s8 _ _ e)))),trivial⟩;obtain⟨hl,rs,rfl,d1,_,d3,d4⟩:=stD;obtain⟨r0,hr0⟩:∃r0,rs[0]?=some r0:=⟨rs[0]'(by omega),Kj _⟩;obtain⟨vp,sp,ss',f1,f2,_,f4,_,f6,f7⟩:=d4 0 r0 hr0;obtain⟨w0,hw0⟩:∃w0,ss'[0]?=some w0:=⟨ss'[0]'(by omega),Kj _⟩;obtain⟨t4,z1,z2⟩:=(f7 0 w0 hw0).1;refine bW (SqL.of d1) (i:=0) (v:=.ref r0) (cN (j:=0) (by rw[Kz,hr0];rfl)) ?_;nofun;refine bS (SqT.of f1) (i:=1) (v:=.ref sp) rfl ?_;nofun;refine bW (SqL.of f4) (i:=0) (v:=.ref w0) (cN (j:=0) (by rw[Kz,hw0];rfl)) ?_;nofun;have hlen:(jx (T.word [0] (.sees 0)).ds 0 0).length=(jx T.ds 0 0).length+1:=by
   show(jx (T.ds++[_]) 0 0).length=_;rw[qj,if_pos (Kr.mpr rfl),KP];rfl
  rw[KQ,KQ,hlen,decide_eq_true (by omega)];exact gg _
 nofun;refine⟨a,ns,8,rfl,(hSc.same s3).same s5,by decide,by decide,?_⟩;generalize du ns 8=z;nofun;refine bN (fun hz=>?_) (fun hz=>?_)
 ·nofun
  obtain⟨dx1,fs1,hx1,hl1⟩:=t5.at "word" (by decide+kernel) (by decide+kernel) (by decide+kernel) (by decide+kernel) (by decide+kernel) (by decide+kernel);refine dh ?_;nofun;refine⟨x,dx1,fs1,rfl,hx1,hl1,?_⟩;nofun;refine⟨by simp[Kl],fun tp H6 _ s6 e6=>?_⟩;nofun;rw[show(ss.length:Int)-1=((ss.length-1:Nat):Int) by omega];refine⟨by simp[Kl],fun tq H7 _ s7 e7=>?_⟩;nofun;have s57:=s6.trans s7;refine⟨[pv,pe],x,pv,pe,tp,TM.begun c ss,[0],.ref tq,.sees (ss.length-1),rfl,t5.same s57,s7 _ _ e6,by simp,fun k hk=>by rw[Kr.mp hk];exact h1,⟨tq,rfl,e7⟩,(show ss.length-1<ss.length by omega),(show 1<=30 by decide),(show 0<1000 by decide),fun p2 Hm H8 k8 t8 hp8 s8 e8=>?_⟩;nofun;exact key _ H8 (((Kp.of s57).trans k8).trans (Kp.of s8)) (t8.same s8) (AG (zf c ss) _ _) rfl rfl (Km _)
 ·nofun
  obtain⟨dx1,fs1,hx1,hl1⟩:=t5.at "show" (by decide+kernel) (by decide+kernel) (by decide+kernel) (by decide+kernel) (by decide+kernel) (by decide+kernel);refine dh ?_;nofun;refine⟨x,dx1,fs1,rfl,hx1,hl1,?_⟩;nofun;refine Dt ?_;nofun;refine⟨c,rfl,by omega,Gc (by omega) fun l6 H6 hl6 s6 e6=>?_⟩;rw[ug,cT]at e6;rw[show(ss.length:Int)-1=((ss.length-1:Nat):Int) by omega];nofun;refine⟨[pv,pe],x,pv,pe,l6,TM.begun c ss,ss.length-1,(ss.length:Int),(KS c).map fun(s:Nat)=>((s:Nat):Int),rfl,t5.same s6,e6,(show ss.length-1<ss.length by omega),by omega,(show(ss.length:Int)<=(ss.length:Int) by omega),by rw[Kk,L6];omega,fun n hn=>?_,(show 0<1000 by decide),fun p2 Hm H8 k8 t8 hp8 s8 e8=>?_⟩
  ·obtain⟨m,hm',rfl⟩:=Lr.mp hn
   have:=MC.mp hm';exact⟨by omega,show(m:Int)<(c:Int) by omega⟩
  nofun;exact key _ H8 (((Kp.of s6).trans k8).trans (Kp.of s8)) (t8.same s8) (Hg (zf c ss) _ _ _) rfl rfl (Km _)
end
section
open PySem.Spec
theorem DA.stay{a:Addr}{kvs:List (IA×V)}{h1 h2:Heap}(d:DA a kvs h1)(k:∀o,h1.get? a=some o->h2.get? a=some o):DA a kvs h2:=by
 obtain⟨z,y,P,w,vs,r,o,es,ep,e,c⟩:=d;exact⟨z,y,P,w,vs,r,o,es,ep,k _ e,c⟩
theorem DB.stay{a:Addr}{zs:List (List IK×Addr×V)}{h1 h2:Heap}(d:DB a zs h1)(k:∀o,h1.get? a=some o->h2.get? a=some o):DB a zs h2:=by
 obtain⟨z,y,xs,r,o,es,ep,e,c⟩:=d;exact⟨z,y,xs,r,o,es,ep,k _ e,c⟩
theorem DA.ok{P:Program}{w:World}{H:Hp}{h:Heap}{a:Addr}{kvs:List (IA×V)}(d:DA a kvs h):bE P w H h a (dA a kvs):=by
 obtain⟨_,_,_,_,_,_,o,_,_,e,_⟩:=id d;exact⟨d,⟨o,e⟩,fun _ _ d k=>d.stay k⟩
theorem DB.ok{P:Program}{w:World}{H:Hp}{h:Heap}{a:Addr}{zs:List (List IK×Addr×V)}(d:DB a zs h):bE P w H h a (dB a zs):=by
 obtain⟨_,_,_,_,o,_,_,e,_⟩:=id d;exact⟨d,⟨o,e⟩,fun _ _ d k=>d.stay k⟩
theorem ZX.length{zs:List (List IK×Addr×V)}{xs:List (List IK×Addr×Value)}(r:ZX zs xs):zs.length=xs.length:=Lv r
theorem ZX.val{zs:List (List IK×Addr×V)}{xs:List (List IK×Addr×Value)}(r:ZX zs xs)(k:List IK):fX (atZ zs k) ((atKey xs k).map (·.2)):=by
 unfold ZX at r
 induction r with
 |nil=>exact MT
 | @cons p q ps qs h t ih=>
  obtain⟨h1,_,h2⟩:=h;by_cases e:p.1=k
  ·have e':q.1=k:=h1.symm.trans e
   have b:atKey (q::qs) k=some q.2:=by simp[atKey,La,e']
   have c:atZ (p::ps) k=some p.2.2:=by simp[atZ,La,e]
   rw[c,b];exact h2
  ·have e':¬q.1=k:=fun z=>e (h1.trans z)
   have b:atKey (q::qs) k=atKey qs k:=by simp[atKey,La,e']
   have c:atZ (p::ps) k=atZ ps k:=by simp[atZ,La,e]
   rw[c,b];exact ih
noncomputable def mr(zs:List (List IK×Addr×V))(k:List IK)(b:Addr)(v:V):List (List IK×Addr×V):=
 if(atZ zs k).isSome then zs.map (fun x=>if x.1=k then(x.1,x.2.1,v)else x)else zs++[(k,b,v)]
theorem ZX.repl{zs:List (List IK×Addr×V)}{xs:List (List IK×Addr×Value)}(r:ZX zs xs)(k:List IK){v:V}{u:Value}(rv:aI v u):ZX (zs.map fun x=>if x.1=k then(x.1,x.2.1,v)else x) (xs.map (putAt k u)):=by
 unfold ZX at r ⊢
 induction r with
 |nil=>exact .nil
 | @cons p q ps qs h t ih=>
  rw[KL,KL];refine .cons ?_ ih;obtain⟨h1,h2,h3⟩:=h;unfold putAt;by_cases e:p.1=k
  ·rw[if_pos e,if_pos (h1.symm.trans e)];exact⟨h1,h2,rv⟩
  ·rw[if_neg e,if_neg (fun z=>e (h1.trans z))];exact⟨h1,h2,h3⟩
theorem ZX.put{zs:List (List IK×Addr×V)}{xs:List (List IK×Addr×Value)}(r:ZX zs xs)(k:List IK){b:Addr}{v:V}{u:Value}(rv:aI v u):ZX (mr zs k b v) (storedH xs k b u):=by
 have e:(atZ zs k).isSome=(atKey xs k).isSome:=by
  rw[(r.val k).isSome_eq,Option.isSome_map]
 unfold mr storedH;rw[e];by_cases q:(atKey xs k).isSome=true
 ·rw[if_pos q,if_pos q];exact r.repl k rv
 ·rw[if_neg q,if_neg q];exact Paired.snoc r ⟨rfl,rfl,rv⟩
theorem Hi(zs:List (List IK×Addr×V))(k j:List IK)(b:Addr)(v:V):atZ (mr zs k b v) j=if j=k then some v else atZ zs j:=by
 have hm:∀ys:List (List IK×Addr×V),atZ (ys.map fun x=>if x.1=k then(x.1,x.2.1,v)else x) j=(atZ ys j).map fun y=>if j=k then v else y:=by
  intro ys
  induction ys with
  |nil=>rfl
  |cons p r ih=>
   rw[KL];unfold atZ at ih ⊢;by_cases h:p.1=k
   ·rw[if_pos h]
    by_cases e:p.1=j
    ·simp[La,e,e.symm.trans h]
    ·simp[La,e];simpa using ih
   ·rw[if_neg h]
    by_cases e:p.1=j
    ·have:¬j=k:=fun z=>h (e.trans z)
     simp[La,e,this]
    ·simp[La,e];simpa using ih
 have ha:∀ys:List (List IK×Addr×V),atZ ys k=none->atZ (ys++[(k,b,v)]) j=if j=k then some v else atZ ys j:=by
  intro ys
  induction ys with
  |nil=>
   intro _;by_cases e:k=j
   ·simp[atZ,La,e]
   ·have:¬j=k:=fun z=>e z.symm
    simp[atZ,La,e,this]
  |cons p r ih=>
   intro hn;have hk:¬p.1=k:=fun z=>by simp[atZ,La,z]at hn
   have hn':atZ r k=none:=by simpa[atZ,La,hk]using hn
   have ih':=ih hn';by_cases e:p.1=j
   ·have:¬j=k:=fun z=>hk (e.trans z)
    simp[atZ,La,e,this]
   ·have c:atZ (p::(r++[(k,b,v)])) j=atZ (r++[(k,b,v)]) j:=by simp[atZ,La,e]
    have c':atZ (p::r) j=atZ r j:=by simp[atZ,La,e]
    rw[SG,c,c',ih']
 unfold mr;cases q:atZ zs k with
 |some y=>
  rw[if_pos (show(some y).isSome=true from rfl),hm];by_cases e:j=k
  ·subst e;rw[q,if_pos rfl];simp
  ·rw[if_neg e];cases atZ zs j<;>simp[e]
 |none=>rw[if_neg (show¬(none:Option V).isSome=true by decide)];exact ha zs q
theorem rQ(zs:List (List IK×Addr×V))(k:List IK)(b:Addr)(v:V):(mr zs k b v).length<=zs.length+1:=by
 unfold mr
 split
 ·rw[Kk];omega
 ·rw[KP,KQ,Mj];omega
theorem Fr{zs:List (List IK×Addr×V)}{k:List IK}{b:Addr}{v:V}{z:List IK×Addr×V}(h:z∈mr zs k b v):(∃z0∈zs,z.1=z0.1/\z.2.1=z0.2.1)\/(z.1=k/\z.2.1=b):=by
 unfold mr at h
 split at h
 ·obtain⟨z0,h0,rfl⟩:=Lr.mp h
  refine .inl ⟨z0,h0,?_⟩
  split<;>exact⟨rfl,rfl⟩
 ·rcases Lf.mp h with h|h
  ·exact .inl ⟨z,h,rfl,rfl⟩
  ·rw[Kr.mp h];exact .inr ⟨rfl,rfl⟩
section
variable{X:Cx}{pins:List (Addr×Obj)}{σ:St}{H:Hp}{s:Shared}{a:Addr}{y v:V}{u r:Value}{A:Around}{E:Value->Shared->Prop}{srt:Bool}{f:MK->Option V}{n:Nat}{k:MK}
theorem xQ{k:IA}(h:iaV y=some k)(ry:aI y u):oj k u=true:=by
 cases y with
 |non=>cases h;cases ry;rfl
 |bl b=>cases h;cases ry;simp[oj]
 |int i=>cases h;obtain⟨t,rfl⟩:=ry;simp[oj]
 |_=>cases h
theorem AH{P:Program}{w:World}:∀{ks:List IA} {ys:List V} {us:List Value},ys.map iaV=ks.map some->aG ys us->ItemsAre (cS P w) ks us
 | [],[],_,_,.nil=>.nil
 |k::ks,y::ys,_,e,.cons h t=>by
  rw[KL,KL]at e;injection e with e1 e2
  exact .cons (xQ e1 h) (AH e2 t)
 | [],_::_,_,e,_=>by simp at e
 |_::_,[],_,e,_=>by simp at e
theorem DV(ok:HOk X.prog X.w H s.heap){c:Addr}{xs:List V}(e:H c=some (.tup xs)):∃its,aG xs its/\∃o n,s.heap.get? c=some o/\o.cls=.type "tuple"/\o.data=.seq its.toArray n:=by
 obtain⟨_,its,r,o,h1,h2,⟨n,h3⟩,_⟩:=(show bE X.prog X.w H s.heap c (.tup xs)from ok c _ e);exact⟨its,r,o,n,h1,h2,h3⟩
theorem Hj(ok:HOk X.prog X.w H s.heap){k:IK}(h:mH H y k)(ry:aI y u):cM X.prog X.w s.heap k u:=by
 cases k with
 |inl a=>exact xQ h ry
 |inr as=>
  obtain⟨c,ys,rfl,e,q⟩:=h;cases ry;obtain⟨its,rv,o,n,h1,h2,h3⟩:=DV ok e;exact⟨c,rfl,o,its.toArray,n,h1,h2,h3,by simpa using AH q rv⟩
theorem Fs(ok:HOk X.prog X.w H s.heap){xs:List V}{ks:List IK}{us:List Value}(p:Paired (mH H) xs ks):aG xs us->Paired (cM X.prog X.w s.heap) ks us:=by
 induction p generalizing us with
 |nil=>intro q;cases q;exact .nil
 |cons h t ih=>intro q;cases q with
  |cons r q=>exact .cons (Hj ok h r) (ih q)
theorem BO(ok:HOk X.prog X.w H s.heap){c:Addr}{ks:List IK}(h:cR H (.ref c) (.inr ks)):im X.prog X.w s.heap ks c:=by
 obtain⟨c',xs,e,ec,q⟩:=h;cases e;obtain⟨its,rv,o,n,h1,h2,h3⟩:=DV ok ec;exact⟨o,its.toArray,n,h1,h2,h3,by simpa using Fs ok q rv⟩
theorem AI(h:cR H y k)(hs:mI k=true):∃c ks,y=.ref c/\k=.inr ks:=by
 cases k with
 |inl _=>cases hs
 |inr ks=>obtain⟨c,xs,e,_⟩:=h;exact⟨c,ks,e,rfl⟩
theorem DW{P P':Program}{w w':World}{es:List RG}{vs:List (IA×Value)}(h:Pairs (cS P w) es vs):Pairs (cS P' w') es vs:=by
 induction h with
 |nil=>exact .nil
 |cons a b _ ih=>exact .cons a b ih
theorem BP{kvs:List (IA×V)}(ok:HOk X.prog X.w H s.heap)(e:H a=some (dA a kvs)):kvs.length<=Kw/\(a==Mb)=false/\∃vs,KV kvs vs/\s.heap.DictOf (cS X.prog X.w) a vs:=by
 obtain⟨⟨z,y,P,w,vs,r,o,es,ep,h1,h2,h3,h4,h5,h6⟩,_⟩:=(show bE X.prog X.w H s.heap a (dA a kvs)from ok a _ e);exact⟨z,y,vs,r,o,es,ep,h1,h2,h3,h4,DW h5,h6⟩
theorem BQ{zs:List (List IK×Addr×V)}(ok:HOk X.prog X.w H s.heap)(e:H a=some (dB a zs))(hk:∀z∈zs,cR H (.ref z.2.1) (.inr z.1)):zs.length<=Kw/\(a==Mb)=false/\∃xs,ZX zs xs/\s.heap.DictOfH (pU X.prog X.w) a xs:=by
 obtain⟨⟨z,y,xs,r,o,es,ep,h1,h2,h3,h4,h5⟩,_⟩:=(show bE X.prog X.w H s.heap a (dB a zs)from ok a _ e);refine⟨z,y,xs,r,o,es,ep,h1,h2,h3,h4,?_,h5⟩;have all:∀{l:List (List IK×Addr×V)} {m:List (List IK×Addr×Value)},ZX l m->(∀z∈l,cR H (.ref z.2.1) (.inr z.1))->∀x∈m,(pU X.prog X.w).is s.heap x.1 x.2.1:=by
  intro l m q;unfold ZX at q
  induction q with
  |nil=>intro _ x hx;exact nomatch hx
  | @cons p q ps qs hq t ih=>
   intro hk x hx;rcases Kq.mp hx with e|hx
   ·subst e
    have:=hk p (Ks ..);rw[hq.1,hq.2.1]at this;exact BO ok this
   ·exact ih (fun z hz=>hk z (Ku _ hz)) x hx
 exact all r hk
theorem JR{Q:Value->Shared->Prop}(hu:A.units+2<cLine)(I:Inv X pins σ H s)(d:Dx H a srt f n)(hk:cR H y k)(hs:mI k=srt)(ry:aI y u)(ev:f k=some v)(h:∀w' s',Inv X pins σ H s'->aI v w'->Q w' s'):
  wpAny (model X.prog X.w) A (getItem (.ref a) u) Q E s:=by
 rcases d with⟨rfl,kvs,e,hf,_⟩|⟨rfl,zs,e,hz,hf,_⟩
 ·cases k with
  |inr _=>cases hs
  |inl k=>
   obtain⟨z,hd,vs,rel,dd⟩:=BP I.hok e;obtain⟨w',hw,rw'⟩:=fX.some_of (v:=v) (o:=valueAt vs k) (by rw[<-ev,<-hf k];exact rel.val k);exact SJ (knd:=cS X.prog X.w) (xQ hk ry) dd.mapOf hw (h w' _ (I.tok _) rw')
 ·obtain⟨c,ks,rfl,rfl⟩:=AI hk hs
  cases ry;obtain⟨z,hd,xs,rel,dd⟩:=BQ I.hok e hz;obtain⟨w',hw,rw'⟩:=fX.some_of (v:=v) (o:=(atKey xs ks).map (·.2)) (by rw[<-ev,<-hf ks];exact rel.val ks);obtain⟨p,hp,hp2⟩:=QR.mp hw;refine wpAny_getItem_heap (knd:=pU X.prog X.w) hu (BO I.hok hk) dd hp ?_;rw[hp2];exact h w' _ (I.tok _) rw'
theorem sT{o:HO}:Off a H (upd H a o):=fun b hb=>aM hb
theorem Jk{h':Heap}{t':Nat}{kvs kvs':List (IA×V)}{vs':List (IA×Value)}(I:Inv X pins σ H s)(e:H a=some (dA a kvs))(hs:KJ a s.heap h')(z:kvs'.length<=Kw)(hd:(a==Mb)=false)(rel:KV kvs' vs')(dd:h'.DictOf (cS X.prog X.w) a vs'):
  Inv X pins σ (upd H a (dA a kvs')) { s with heap:=h',toks:=t' }:=by
 have he:∃q,h'.get? a=some q:=let⟨q,_,_,hq,_⟩:=dd;⟨q,hq⟩;exact Ax I (by rw[e];exact MT) hs he (DA.ok ⟨z,hd,X.prog,X.w,vs',rel,dd⟩)
theorem Jl{h':Heap}{t':Nat}{zs zs':List (List IK×Addr×V)}{xs':List (List IK×Addr×Value)}(I:Inv X pins σ H s)(e:H a=some (dB a zs))(hs:KJ a s.heap h')(z:zs'.length<=Kw)(hd:(a==Mb)=false)(rel:ZX zs' xs')(dd:h'.DictOfH (pU X.prog X.w) a xs'):
  Inv X pins σ (upd H a (dB a zs')) { s with heap:=h',toks:=t' }:=by
 obtain⟨o,es,ep,h1,h2,h3,h4,_,h5⟩:=dd;exact Ax I (by rw[e];exact MT) hs ⟨o,h1⟩ (DB.ok ⟨z,hd,xs',rel,o,es,ep,h1,h2,h3,h4,h5⟩)
theorem Hk{kvs:List (IA×V)}{k:IA}(e:H a=some (dA a kvs))(hf:∀k,fZ kvs k=f (.inl k))(hn:kvs.length<=n):Dx (upd H a (dA a (pT kvs k v))) a false (om f (.inl k) v) (n+1):=by
 refine .inl ⟨rfl,_,ay,fun j=>?_,?_⟩
 ·rw[EI]
  unfold om;by_cases q:j=k
  ·rw[if_pos q,if_pos (by rw[q])]
  ·rw[if_neg q,if_neg (fun z=>q (Sk z)),hf j]
 ·have:=rH kvs k v;omega
theorem Hl{zs:List (List IK×Addr×V)}{k:List IK}{c:Addr}(e:H a=some (dB a zs))(hz:∀z∈zs,cR H (.ref z.2.1) (.inr z.1))(hk:cR H (.ref c) (.inr k))(hf:∀k,atZ zs k=f (.inr k))(hn:zs.length<=n):
  Dx (upd H a (dB a (mr zs k c v))) a true (om f (.inr k) v) (n+1):=by
 have kp:dF H (upd H a (dB a (mr zs k c v))):=sT.keepD fun xs q=>by rw[e]at q;cases q
 refine .inr ⟨rfl,_,ay,fun z h=>?_,fun j=>?_,?_⟩
 ·rcases Fr h with⟨z0,h0,e1,e2⟩|⟨e1,e2⟩
  ·rw[e1,e2];exact(hz z0 h0).keep kp
  ·rw[e1,e2];exact hk.keep kp
 ·rw[Hi]
  unfold om;by_cases q:j=k
  ·rw[if_pos q,if_pos (by rw[q])]
  ·rw[if_neg q,if_neg (fun z=>q (N7 z)),hf j]
 ·have:=rQ zs k c v;omega
theorem uN{d a:Addr}{knd:HeapKind X.prog X.w (List IK)}{xs:List (List IK×Addr×Value)}{k:List IK}{v:Value}{Q:Value->Shared->Prop}(hu:knd.room A)(hkey:knd.is s.heap k a)(hm:s.heap.DictOfH knd d xs)
  (h1:∀p,atKey xs k=some p->Q p.2 { s with toks:=s.toks+knd.draws k })
  (h2:atKey xs k=none->∀h',h'.DictOfH knd d (storedH xs k a v)->KJ d s.heap h'->Q v { s with heap:=h',toks:=s.toks+knd.draws k })
  (hsz:xs.length<=Kw):wpAny (model X.prog X.w) A (Pm d (.ref a) v) Q E s:=by
 obtain⟨o,es,ep,ho,hc,hd,he,his,hn⟩:=hm;unfold Pm
 try with_reducible refine LH ?_
 refine Kg (knd.pyHash hu hkey ?_);refine Kg (wpAny_dictFind_heap (s:={ s with toks:=s.toks+knd.draws k }) hu hkey ho hd he his hn ?_ ?_)
 ·intro hno
  have hnot:k∉xs.map (·.1):=not_mem_keys_of_get hno;refine Kg (MB (Kg (wpAny_updateDictKeys (hz:=by have e:=size_of_entries he;omega) (s:={ s with toks:=s.toks+knd.draws k }) ho hd (Ki (h2 (OH hno) _ ⟨_,_,ep+1,Ln _ ho (Obj.isFreed_of_dict (Ri hd _)),
   hc.mapDictKeys _,Ri hd _,?_,?_,?_⟩ (Lo ..))))))
  ·rw[Sv (OH hno)]
   simp[he,entryOfKey]
  ·rw[Sv (OH hno)]
   intro x hx;rcases Lf.mp hx with hx|hx
   ·exact knd.keeps (his x hx) ho hd (Lo ..)
   ·simp only[Kr]at hx
    subst hx;exact knd.keeps hkey ho hd (Lo ..)
  ·rw[Sv (OH hno)]
   rw[KU,Sd];refine⟨hn,by simp,?_⟩;intro x hx y hy;simp only[KL,NT,Kr]at hy;subst hy;exact fun e=>hnot (e▸hx)
 ·intro j p hj
  refine Kg (wpAny_dictEntries (s:={ s with toks:=s.toks+knd.draws k }) ho hd ?_);rw[entry_at he j,hj];exact Kg (MB (Ki (h1 p (atKey_of_get hn hj))))
theorem mT{d:Addr}{key dflt:Value}{Q:Fin->Shared->Prop}(hT:s.TypeIs (.ref d) "dict")(hd:(d==Mb)=false)(h:wpAny (model X.prog X.w) A (Pm d key dflt) (fun v s'=>Q (.done (.ret v)) s') E s):
  wpAny (model X.prog X.w) A (Builtin.«dict.setdefault» ⟨[.ref d,key,dflt],[]⟩) Q E s:=by
 unfold Builtin.«dict.setdefault»;refine Kg ?_;unfold Builtin.Dict.keyAndDefault;refine Kg (wpAny_notOrdered_dict hT ?_);show wpAny _ _ (pure (d,key,some dflt)) _ _ s;refine Ki ?_;show wpAny _ _ (if(d==Mb)=true then _ else(Pm d key dflt>>=_)) _ _ s;rw[if_neg (by rw[hd];exact Kv)];exact Kg (LM h (fun v s' q=>Ki q) fun _ _ x=>x)
theorem zh(I:Inv X pins σ H s)(d:Dx H a srt f n):s.TypeIs (.ref a) "dict"/\∀b,KY a=.ref b->∃ob,s.heap.get? b=some ob/\ob.dict=none:=by
 rcases d with⟨_,kvs,e,_,_⟩|⟨_,zs,e,hz,_,_⟩
 ·obtain⟨_,_,vs,_,dd⟩:=BP I.hok e
  refine⟨dd.typeIs,fun b q=>?_⟩;cases q;obtain⟨ob,_,_,h1,h2,_⟩:=dd;exact⟨ob,h1,h2.2.1⟩
 ·obtain⟨_,_,xs,_,dd⟩:=BQ I.hok e hz
  refine⟨dd.typeIs,fun b q=>?_⟩;cases q;obtain⟨ob,_,_,h1,h2,_⟩:=dd;exact⟨ob,h1,h2.2.1⟩
theorem Jm{Q:Value->Shared->Prop}(hu:A.units+2<cLine)(I:Inv X pins σ H s)(d:Dx H a srt f n)(hk:cR H y k)(hs:mI k=srt)(hn:n<Kw)(ry:aI y u)(rv:aI v r)
  (h1:∀x w' s',f k=some x->aI x w'->Inv X pins σ H s'->Q w' s')
  (h2:f k=none->∀H' s',Off a H H'->Dx H' a srt (om f k v) (n+1)->Inv X pins σ H' s'->Q r s'):wpAny (model X.prog X.w) A (call (.builtin "dict.setdefault") [.ref a,u,r]) Q E s:=by
 have hT:=(zh I d).1;refine Lc Pn hT PySem.F.entry_dict_setdefault ?_ (PySem.F.args_dict_setdefault_3 _ _ _);rcases d with⟨rfl,kvs,e,hf,hl⟩|⟨rfl,zs,e,hz,hf,hl⟩
 ·cases k with
  |inr _=>cases hs
  |inl k=>
   obtain⟨z,hd,vs,rel,dd⟩:=BP I.hok e;have hvz:vs.length<=Kw:=by rw[<-rel.length];exact z
   have hl':(pT kvs k v).length<=Kw:=by have:=rH kvs k v;omega
   refine mT hT hd (kt_dictSetDefault_pairs (knd:=cS X.prog X.w) (hsz:=hvz) (xQ hk ry) dd (fun w' hw=>?_) fun hno h' dd' hs'=>?_)
   ·have q:=rel.val k
    rw[hf k,hw]at q;cases ef:f (.inl k)with
    |none=>rw[ef]at q;exact(show False from q).elim
    |some x=>rw[ef]at q;exact⟨w',rfl,h1 x w' _ ef q (I.tok _)⟩
   ·have q:=rel.val k
    rw[hf k,hno]at q;have ef:f (.inl k)=none:=by
     cases ef:f (.inl k)with
     |none=>rfl
     |some x=>rw[ef]at q;exact(show False from q).elim
    exact⟨r,rfl,h2 ef _ _ sT (Hk e hf hl) (Jk I e hs' hl' hd (rel.put k rv) dd')⟩
 ·obtain⟨c,ks,rfl,rfl⟩:=AI hk hs
  cases ry;obtain⟨z,hd,xs,rel,dd⟩:=BQ I.hok e hz;have hvz:xs.length<=Kw:=by rw[<-rel.length];exact z
  have hl':(mr zs ks c v).length<=Kw:=by have:=rQ zs ks c v;omega
  refine mT hT hd (uN (X:=X) (knd:=pU X.prog X.w) hu (BO I.hok hk) dd (fun p hp=>?_) (fun hno h' dd' hs'=>?_) hvz)
  ·have q:=rel.val ks
   rw[hf ks,hp]at q;cases ef:f (.inr ks)with
   |none=>rw[ef]at q;exact(show False from q).elim
   |some x=>rw[ef]at q;exact⟨p.2,rfl,h1 x p.2 _ ef q (I.tok _)⟩
  ·have q:=rel.val ks
   rw[hf ks,hno]at q;have ef:f (.inr ks)=none:=by
    cases ef:f (.inr ks)with
    |none=>rfl
    |some x=>rw[ef]at q;exact(show False from q).elim
   exact⟨r,rfl,h2 ef _ _ sT (Hl (c:=c) e hz hk hf hl) (Jl I e hs' hl' hd (rel.put ks rv) dd')⟩
end
section
variable{X:Cx}
theorem Ho{o i:Expr}{pos:Pos}{td ty:TE}(hu:X.A.units+64<cLine)(ho:PE X o td)(hi:PE X i ty)(hs:EJ i):PE X (.Subscript o i pos) (tOp Bp td ty):=by
 intro pins s σ H Q I h;refine Ay P6.lookup hs (thn (ho pins s σ H _ I h) fun u s1 ⟨x,H1,I1,rx,q1⟩=>thn (hi pins s1 σ H1 _ I1 q1) fun iv s2 ⟨y,H2,I2,ry,a,srt,f,n,k,v,ex,d,hk,hs',ev,q2⟩=>?_);subst ex;obtain rfl:u=KY a:=rx;exact⟨(zh I2 d).1,JR (by omega) I2 d hk hs' ry ev fun w' s3 I3 rw'=>⟨v,H2,I3,rw',q2⟩⟩
theorem Ft{pos:Pos}:PE X (.Dict [] [] pos) yx:=fun pins s σ H Q I h=>by
 obtain⟨srt,h⟩:=h;have hd:(s.heap.objs.size==Mb)=false:=beq_eq_false_iff_ne.mpr (LK (K3 I.big));have hp:=I.hok.fresh (Km s.heap.objs.size);cases srt with
 |false=>
  refine Qj ⟨.ref s.heap.objs.size,_,I.laid (a:=s.heap.objs.size) (o:=dA s.heap.objs.size []) (t':=s.toks) (fun _ _ q=>Kh _ q) (Km _) (DA.ok ⟨Lk _,hd,X.prog,X.w,[],.nil,S8 s.heap⟩),rfl,?_⟩;exact h _ _ hp (bi hp _) (.inl ⟨rfl,[],ay,fun _=>rfl,Km _⟩)
 |true=>
  refine Qj ⟨.ref s.heap.objs.size,_,I.laid (a:=s.heap.objs.size) (o:=dB s.heap.objs.size []) (t':=s.toks) (fun _ _ q=>Kh _ q) (Km _) (DB.ok ⟨Lk _,hd,[],.nil,_,#[],0,Kt _ rfl,⟨rfl,rfl,rfl⟩,rfl,rfl,List.nodup_nil⟩),rfl,?_⟩;exact h _ _ hp (bi hp _) (.inr ⟨rfl,[],ay,fun z hz=>(nomatch hz),fun _=>rfl,Km _⟩)
noncomputable def MtX(X:Cx)(id:String)(r:V->List V->Hp->VK->Prop):Prop:=
 ∀(pins:List (Addr×Obj))(s:Shared)(σ:St)(H:Hp)(x:V)(ys:List V)(u:Value)(us:List Value)(Q:VK),Inv X pins σ H s->aI x u->aG ys us->r x ys H Q->
  wpAny (model X.prog X.w) X.A (call (.builtin id) (u::us)) (EP X pins σ Q) X.xe s
theorem wa(hu:X.A.units+64<cLine):MtX X "dict.setdefault" yy:=by
 intro pins s σ H x ys u us Q I rx rys h;obtain⟨a,srt,f,n,k,y,v,rfl,rfl,d,hk,hs,hn,q1,q2⟩:=h;cases rx;cases rys with
 |cons r1 t1=>cases t1 with
  |cons r2 t2=>
   cases t2;exact Jm (by omega) I d hk hs hn r1 r2 (fun x w' s' ef rw' I'=>⟨x,H,I',rw',q1 x ef⟩) fun ef H' s' o' d' I'=>⟨v,H',I',r2,q2 ef H' o' d'⟩
theorem JS{o e:Expr}{es:List Expr}{name:Str}{id:String}{r:V->List V->Hp->VK->Prop}{to:TE}{t:TA}{apos cpos:Pos}(slot:Slot "dict" name id)(hty:typeOf (.builtin id)=pure (.type "method_descriptor"))(hm:MtX X id r)(ho:PE X o to)(ha:PA X (e::es) t)
  (hbase:N4 o name X.env (eval o X.env)=eval o X.env:=by rfl)
  (hfew:((backTo cpos (KC (e::es) X.env)).all (fun x=>!x.1)&&(Pj cpos (N8 [] X.env)).all (fun x=>x.1.isSome)
   &&decide ((e::es).length+([]:List Keyword).length+(if([]:List Keyword).isEmpty then 0 else 1)<30))=true:=by rfl)
  (hline:(apos.endLine==cpos.line)=true:=by rfl) (hs:KC (e::es) X.env=(false,eval e X.env)::KC es X.env:=by rfl) (hplain:(backTo cpos (KC es X.env)).any (·.1)=false:=by rfl):
  PE X (.Call (.Attribute o name apos) (e::es) [] cpos) (tXM r to t):=by
 intro pins s σ H Q I h;refine OJ hbase hfew hline rfl (thn (ho pins s σ H _ I h) fun v s1 ⟨x,H1,I1,r1,⟨a,srt,f,n,ex,d⟩,q1⟩=>?_);subst ex;obtain rfl:v=KY a:=r1;obtain⟨h1,h2⟩:=zh I1 d;refine⟨"dict",id,PySem.F.plainAttrs_dict,slot,hty,h1,h2,?_⟩;have hA:=ha cpos pins s1 σ H1 _ I1 q1;rw[hs]at hA ⊢;refine OK (by show(false||(backTo cpos (KC es X.env)).any (·.1))=false;rw[hplain]<;>rfl) (N1 ?_);exact thn hA fun us s2 ⟨vs,H2,I2,r2,q2⟩=>hm pins s2 σ H2 (.ref a) vs (.ref a) us Q I2 rfl r2 q2
end
end
section
open PySem.Spec
section
variable{X:Cx}
end
end
section
open PySem.Spec
mutual
inductive Dat(K:Fg)(H:Hp):V->PyData->Prop where
 |non:Dat K H .non .none
 |bl (b:Bool):Dat K H (.bl b) (.bool b)
 |int (i:Int):Dat K H (.int i) (.int i)
 |str (x:Str):Dat K H (.str x) (.str x)
 |lst {a:Addr} {xs:List V} {ds:List PyData} (e:SqL K H a xs) (h:ll K H xs ds):Dat K H (.ref a) (.list ds)
 |tup {a:Addr} {xs:List V} {ds:List PyData} (e:SqT K H a xs) (h:ll K H xs ds):Dat K H (.ref a) (.tuple ds)
inductive ll(K:Fg)(H:Hp):List V->List PyData->Prop where
 |nil:ll K H [] []
 |cons {x:V} {xs:List V} {d:PyData} {ds:List PyData} (h:Dat K H x d) (t:ll K H xs ds):ll K H (x::xs) (d::ds)
end
section
variable{X:Cx}{pins:List (Addr×Obj)}{σ:St}{H:Hp}{s:Shared}
mutual
theorem Dat.reads(I:Inv X pins σ H s):∀{x:V} {d:PyData} {u:Value},Dat X.K H x d->aI x u->∃as,Reads s.heap u d as
 |_,_,_,.non,r=>by cases r;exact⟨_,.none⟩
 |_,_,_,.bl b,r=>by cases r;exact⟨_,.bool b⟩
 |_,_,_,.int i,r=>by obtain⟨t,rfl⟩:=r;exact⟨_,.int i t⟩
 |_,_,_,.str x,r=>by obtain⟨t,rfl⟩:=r;exact⟨_,.str x t⟩
 |_,_,_,.lst e h,r=>by
  cases r;obtain⟨its,rv,⟨o,n,h1,h2,h3,h4⟩,_⟩:=I.list e;obtain⟨as,ra⟩:=ll.reads I h rv;exact⟨_,.list h1 h2 h4 (by simpa using ra)⟩
 |_,_,_,.tup e h,r=>by
  cases r;obtain⟨its,rv,⟨o,h1,h2,n,h3⟩,_⟩:=I.tuple e;obtain⟨as,ra⟩:=ll.reads I h rv;exact⟨_,.tuple h1 h2 h3 (by simpa using ra)⟩
theorem ll.reads(I:Inv X pins σ H s):∀{xs:List V} {ds:List PyData} {us:List Value},ll X.K H xs ds->aG xs us->∃as,ReadsAll s.heap us ds as
 |_,_,_,.nil,.nil=>⟨_,.nil⟩
 |_,_,_,.cons h t,.cons r q=>by
  obtain⟨as,ra⟩:=Dat.reads I h r;obtain⟨bs,rb⟩:=ll.reads I t q;exact⟨_,.cons ra rb⟩
end
end
section
variable{X:Cx}
end
end
section
open PySem.Spec
mutual
theorem Fu{K:Fg}{H:Hp}:∀{n:Nat} {x y:V},cP K H n x y->∃d,Dat K H x d/\Dat K H y d/\d.canLay0=true/\d.depth<=n
 |n,x,_,.flat h=>by
  cases x with
  |non=>exact⟨_,.non,.non,rfl,Lk _⟩
  |bl b=>exact⟨_,.bl b,.bl b,rfl,Lk _⟩
  |int i=>exact⟨_,.int i,.int i,rfl,Lk _⟩
  |_=>cases h
 |_,_,_,.str h=>⟨_,.str _,.str _,h,Lk _⟩
 |_,_,_,.lst (xs:=xs) (ys:=ys) e1 e2 hl h=>by
  obtain⟨ds,h1,h2,h3,h4⟩:=BR xs ys hl h;exact⟨_,.lst e1 h1,.lst e2 h2,h3,SK h4⟩
 |_,_,_,.tup (xs:=xs) (ys:=ys) e1 e2 hl h=>by
  obtain⟨ds,h1,h2,h3,h4⟩:=BR xs ys hl h;exact⟨_,.tup e1 h1,.tup e2 h2,h3,SK h4⟩
theorem BR{K:Fg}{H:Hp}{n:Nat}:∀(xs ys:List V),xs.length=ys.length->(∀(i:Nat)(x y:V),xs[i]?=some x->ys[i]?=some y->cP K H n x y)->∃ds,ll K H xs ds/\ll K H ys ds/\Se ds=true/\Te ds<=n
 | [],[],_,_=>⟨[],.nil,.nil,rfl,Lk _⟩
 |x::xs,y::ys,hl,h=>by
  obtain⟨d,a1,a2,a3,a4⟩:=Fu (h 0 x y rfl rfl);obtain⟨ds,b1,b2,b3,b4⟩:=BR xs ys (by simpa using hl) (fun i x y hx hy=>h (i+1) x y hx hy);refine⟨d::ds,.cons a1 b1,.cons a2 b2,?_,?_⟩
  ·show(d.canLay0&&Se ds)=true
   rw[a3,b3];rfl
  ·show max d.depth (Te ds)<=n
   omega
 | [],_::_,hl,_=>by simp at hl
 |_::_,[],hl,_=>by simp at hl
end
section
variable{X:Cx}
theorem Fv(hu:X.A.units+64<cLine):OpR X (MD .Eq) (lY X.K false):=by
 intro pins s σ H x y v u Q I rx ry h;obtain⟨n,hn,hd,q⟩:=h;obtain⟨d,h1,h2,h3,h4⟩:=Fu hd;obtain⟨as,ra⟩:=h1.reads I rx;obtain⟨bs,rb⟩:=h2.reads I ry;have sh:Qn d=true:=by unfold Qn;rw[h3,decide_eq_true (by omega)];rfl
 refine eq_dataH ra rb sh sh hu ⟨.bl true,H,I,?_,q⟩;rw[SeqAt.eqv_refl d h3];rfl
theorem zi(hu:X.A.units+64<cLine):OpR X (MD .NotEq) (lY X.K true):=by
 intro pins s σ H x y v u Q I rx ry h;obtain⟨n,hn,hd,q⟩:=h;obtain⟨d,h1,h2,h3,h4⟩:=Fu hd;obtain⟨as,ra⟩:=h1.reads I rx;obtain⟨bs,rb⟩:=h2.reads I ry;have sh:Qn d=true:=by unfold Qn;rw[h3,decide_eq_true (by omega)];rfl
 refine ne_dataH ra rb sh sh hu ⟨.bl false,H,I,?_,q⟩;rw[SeqAt.eqv_refl d h3];rfl
end
end
section
open PySem.Spec
theorem zj{scope:Scope}{env:Env}{x:Str}(h:scope.names.lookup x=some .cell\/scope.names.lookup x=some .free):(relabel scope env).names.lookup x=some .cell\/(relabel scope env).names.lookup x=some .free:=by
 have go:∀ns:List (Str×Lh),(ns.lookup x=some .cell\/ns.lookup x=some .free)->
   (ns.map fun(n,k)=>if(k==LX&&env.scope.kind== .function&&env.kindOf n==some .cell)then(n,N5)else(n,k)).lookup x=some .cell\/
   (ns.map fun(n,k)=>if(k==LX&&env.scope.kind== .function&&env.kindOf n==some .cell)then(n,N5)else(n,k)).lookup x=some .free:=by
  intro ns
  induction ns with
  |nil=>intro q;rcases q with q|q<;>simp at q
  |cons y r ih=>
   obtain⟨n,k'⟩:=y;intro q;rw[KL];rw[Ld]at q;by_cases hc:(k'==LX&&env.scope.kind== .function&&env.kindOf n==some .cell)=true
   ·simp only[hc,if_true]
    rw[Ld];cases e:x==n with
    |true=>exact .inl rfl
    |false=>rw[e]at q;exact ih q
   ·simp only[hc]
    rw[if_neg (by simp),Ld];cases e:x==n with
    |true=>rw[e]at q;exact q
    |false=>rw[e]at q;exact ih q
 exact go scope.names h
theorem DX{inner outer:Scope}{cl:List (Str×Addr)}{C:Addr}{env:Env}(h:∀y∈inner.names,y.2=.free->outer.names.lookup y.1=some .cell\/outer.names.lookup y.1=some .free):
  ∀y∈inner.names,y.2=.free->(OQ outer cl C env).scope.names.lookup y.1=some .cell\/(OQ outer cl C env).scope.names.lookup y.1=some .free:=fun y hy hk=>zj (h y hy hk)
end
end L2
section
namespace L2
open PySem
noncomputable def Rs(xs:List Nat):Prop:=xs.Pairwise (· < ·)
theorem wS(xs:Array Nat)(i d:Nat)(h:i<xs.size):xs.getD i d=xs.toList[i]'(by simpa using h):=by
 rw[Rj,dif_pos h];simp
theorem wb(xs:Array Nat)(j:Nat)(hr:Rs xs.toList):∀(fuel lo hi:Nat),hi-lo<=fuel->lo<=hi->hi<=xs.size->(∀i (h:i<xs.toList.length),i<lo->xs.toList[i]<j)->(∀i (h:i<xs.toList.length),hi<=i->j<=xs.toList[i])->
  lo<=MP xs j fuel lo hi/\MP xs j fuel lo hi<=hi/\(∀i (h:i<xs.toList.length),i<MP xs j fuel lo hi->xs.toList[i]<j)/\(∀i (h:i<xs.toList.length),MP xs j fuel lo hi<=i->j<=xs.toList[i])
 |0,lo,hi,hf,hl,hs,h1,h2=>by
  have e:hi=lo:=by omega
  subst e;exact⟨Km _,Km _,h1,h2⟩
 |fuel+1,lo,hi,hf,hl,hs,h1,h2=>by
  have eq:MP xs j (fuel+1) lo hi=(if lo<hi then(if xs.getD ((lo+hi)/2) j<j then MP xs j fuel ((lo+hi)/2+1) hi else MP xs j fuel lo ((lo+hi)/2))else lo):=rfl;by_cases hlt:lo<hi
  ·have hm:(lo+hi)/2<xs.size:=by omega
   have hm':(lo+hi)/2<xs.toList.length:=by simpa using hm
   have pw:=Nd.mp hr;rw[if_pos hlt,wS xs _ _ hm]at eq;by_cases hc:xs.toList[(lo+hi)/2]<j
   ·rw[if_pos hc]at eq
    obtain⟨a,b,c,d⟩:=wb xs j hr fuel ((lo+hi)/2+1) hi (by omega) (by omega) hs (fun i h hi'=>by
     rcases RZ i ((lo+hi)/2)with z|z
     ·have:=pw i ((lo+hi)/2) h hm' z
      omega
     ·have e:i=(lo+hi)/2:=by omega
      subst e;exact hc) h2
    rw[eq];exact⟨by omega,b,c,d⟩
   ·rw[if_neg hc]at eq
    obtain⟨a,b,c,d⟩:=wb xs j hr fuel lo ((lo+hi)/2) (by omega) (by omega) (by omega) h1 (fun i h hi'=>by
     rcases RZ ((lo+hi)/2) i with z|z
     ·have:=pw ((lo+hi)/2) i hm' h z
      omega
     ·have e:i=(lo+hi)/2:=by omega
      subst e;omega)
    rw[eq];exact⟨a,by omega,c,d⟩
  ·rw[if_neg hlt]at eq
   have e:hi=lo:=by omega
   subst e;rw[eq];exact⟨Km _,Km _,h1,h2⟩
theorem lz(xs:Array Nat)(j:Nat)(hr:Rs xs.toList):KZ xs j<=xs.size/\(∀i (h:i<xs.toList.length),i<KZ xs j->xs.toList[i]<j)/\(∀i (h:i<xs.toList.length),KZ xs j<=i->j<=xs.toList[i]):=by
 obtain⟨_,b,c,d⟩:=wb xs j hr xs.size 0 xs.size (by omega) (Lk _) (Km _) (fun i h z=>absurd z (O8 _)) (fun i h z=>absurd (by simpa using h) (P7.mpr z));exact⟨b,c,d⟩
theorem BS(xs:Array Nat)(hr:Rs xs.toList){i:Nat}(h:i<xs.toList.length):KZ xs (xs.toList[i]+1)=i+1:=by
 obtain⟨b,c,d⟩:=lz xs (xs.toList[i]+1) hr;have pw:=Nd.mp hr;rcases P0 (KZ xs (xs.toList[i]+1)) (i+1)with z|z|z
 ·have:=d i h (by omega)
  omega
 ·exact z
 ·have hi:i+1<xs.toList.length:=by simp at *;omega
  have:=c (i+1) hi (by omega);have:=pw i (i+1) h hi (by omega);omega
theorem BT(xs:Array Nat)(hr:Rs xs.toList):KZ xs 0=0:=by
 obtain⟨b,c,_⟩:=lz xs 0 hr;rcases On (KZ xs 0)with z|z
 ·exact z
 ·have h0:0<xs.toList.length:=by simp;omega
  have:=c 0 h0 z;omega
theorem Jn(xs:Array Nat)(hr:Rs xs.toList){j:Nat}(hj:j∉xs.toList):Rs (KO.insertAt xs (KZ xs j) j).toList:=by
 obtain⟨b,c,d⟩:=lz xs j hr;rw[KO.toList_insertAt];have hr':(xs.toList.take (KZ xs j)++xs.toList.drop (KZ xs j)).Pairwise (· < ·):=by rw[NU];exact hr
 rw[Rk]at hr';obtain⟨p1,p2,p3⟩:=hr';have lo:∀a∈xs.toList.take (KZ xs j),a<j:=fun a ha=>by
  obtain⟨i,hi,rfl⟩:=Pd.mp ha;rw[List.getElem_take];have hi':i<min (KZ xs j) xs.toList.length:=by simpa using hi
  exact c i (by omega) (by omega)
 have hi:∀a∈xs.toList.drop (KZ xs j),j<a:=fun a ha=>by
  obtain⟨i,hi,rfl⟩:=Pd.mp ha;rw[List.getElem_drop];have hl:i<xs.toList.length-KZ xs j:=by simpa using hi
  have h1:KZ xs j+i<xs.toList.length:=by omega
  have:=d _ h1 (Mc _ _);rcases Oq this with z|z
  ·exact z
  ·exact absurd (z▸Nq h1) hj
 refine Rk.mpr ⟨p1,PD.mpr ⟨hi,p2⟩,fun a ha x hx=>?_⟩;rcases Kq.mp hx with rfl|hx
 ·exact lo a ha
 ·exact p3 a ha x hx
theorem Fw{xs:Array Nat}(hr:Rs xs.toList){j:Nat}(h:¬(xs[KZ xs j]? ==some j)=true):j∉xs.toList:=fun hm=>by
 obtain⟨b,c,d⟩:=lz xs j hr;obtain⟨k,hk,e⟩:=Pd.mp hm;have pw:=Nd.mp hr;have h1:KZ xs j<=k:=SB fun z=>by
  have:=c k hk z;omega
 have h2:KZ xs j=k:=by
  rcases Oq h1 with z|z
  ·have hl:KZ xs j<xs.toList.length:=by omega
   have:=d _ hl (Km _);have:=pw _ k hl hk z;omega
  ·exact z
 refine h ?_;rw[h2,<-M1,Kj hk,e];exact beq_self_eq_true _
theorem DY{t:KO}(hr:Rs t.place.toList){j:Nat}(h:∀i,t.slot j≠.live i):j∉t.place.toList:=by
 refine Fw hr fun z=>?_;have:=h (KZ t.place j);unfold KO.slot at this;rw[if_pos z]at this;exact this rfl
theorem oN{t:KO}{f:Nat->Int}{h:Int}:∀(fuel:Nat)(p:KO.Probe){j:Nat}{d:Option Nat},(∀x,p.dummy=some x->∀i,t.slot x≠.live i)->Sf t f h fuel p=some (.empty j d)->∀i,t.slot (d.getD j)≠.live i
 |0,_,_,_,_,e=>by cases e
 |fuel+1,p,j,d,hd,e=>by
  have ha:∀q:KO.Probe,(t.advance q).dummy=q.dummy:=fun q=>by
   unfold KO.advance
   split<;>rfl
  unfold Sf at e;cases hs:t.slot p.j with
  |empty=>
   rw[hs]at e;injection e with e
   injection e with e1 e2
   subst e1 e2;intro i;cases hx:p.dummy with
   |none=>show t.slot p.j≠_;rw[hs];intro z;cases z
   |some x=>exact hd x hx i
  |dummy=>
   rw[hs]at e;refine oN fuel _ (fun x hx i=>?_) e;rw[ha]at hx;cases hx;rw[hs];intro z;cases z
  |live k=>
   rw[hs]at e;dsimp only at e
   split at e
   ·cases e
   ·exact oN fuel _ (fun x hx=>hd x (by rw[ha]at hx;exact hx)) e
theorem BU{t:KO}(hr:Rs t.place.toList){h:Int}{j:Nat}{b:Bool}(e:t.freeSlot h=some (j,b)):j∉t.place.toList:=by
 unfold KO.freeSlot at e
 split at e
 ·rename_i j' d' he
  cases e;exact DY hr (oN _ _ (fun x hx=>by cases hx) he)
 ·cases e
theorem Fx(n:Nat):Rs (Array.range n).toList:=by
 rw[Array.toList_range];exact QS
theorem lA(t:KO)(n:Nat):Rs (t.standIn n).place.toList:=Fx n
theorem DZ{t:KO}(hr:Rs t.place.toList)(es:Array (Int×Value))(h:Int)(x:Value):Rs (layNew t es h x).2.1.place.toList/\(layNew t es h x).2.1.led=t.led:=by
 unfold layNew
 split
 ·rename_i slot wd he
  dsimp only;unfold KO.orStandIn
  split
  ·exact⟨Jn _ hr (BU hr he),rfl⟩
  ·exact⟨lA _ _,rfl⟩
 ·exact⟨lA _ _,rfl⟩
theorem Hq{mask finger moves:Nat}{led plain:Bool}{hs:Array Int}{t:KO}{o:Array Nat}(e:KO.laid mask finger moves led plain hs=some (t,o)):Rs t.place.toList/\t.led=led:=by
 unfold KO.laid at e;obtain⟨owner,_,e⟩:=Option.bind_eq_some_iff.mp e;cases e;refine⟨?_,rfl⟩;show((((KS (mask+1)).filterMap fun j=>(owner.getD j none).map (j,·)).map (·.1)).toArray).toList.Pairwise (· < ·);have sub:List.Sublist (((KS (mask+1)).filterMap fun j=>(owner.getD j none).map (j,·)).map (·.1)) (KS (mask+1)):=by
  rw[List.map_filterMap];have:∀l:List Nat,List.Sublist (l.filterMap fun j=>((owner.getD j none).map (j,·)).map (·.1)) l:=by
   intro l
   induction l with
   |nil=>exact .slnil
   |cons a l ih=>
    rw[Oa];cases owner.getD a none with
    |none=>exact .cons _ ih
    |some v=>exact .cons₂ _ ih
  exact this _
 exact QS.sublist sub
theorem zX{t:KO}(hr:Rs t.place.toList)(es:Array (Int×Value))(wanted:Nat):Rs (Po t es wanted).2.1.place.toList/\(Po t es wanted).2.1.led=t.led:=by
 unfold Po
 split
 ·rename_i t' order he
  dsimp only
  split
  ·exact Hq he
  ·exact⟨lA _ _,rfl⟩
 ·exact⟨lA _ _,rfl⟩
end L2
end
section
namespace L2
open PySem
section
variable{prog:Program}{w:World}{K:Type}[DecidableEq K]{knd:KeyKind prog w K}{A:Around}{E:Value->Shared->Prop}{s:Shared}
noncomputable def Ent(knd:KeyKind prog w K)(k:K)(e:Int×Value):Prop:=knd.is k e.2=true/\e.1=knd.hash k/\e.2.scannable=true
inductive ck{α β:Type}(F:α->β->Prop):List α->List β->Prop
 |nil:ck F [] []
 |cons {a b l m}:F a b->ck F l m->ck F (a::l) (b::m)
theorem ck.len{α β:Type}{F:α->β->Prop}{l:List α}{m:List β}(h:ck F l m):l.length=m.length:=by
 induction h with
 |nil=>rfl
 |cons _ _ ih=>rw[KQ,KQ,ih]
theorem ck.app{α β:Type}{F:α->β->Prop}{l l':List α}{m m':List β}(h:ck F l m)(h':ck F l' m'):ck F (l++l') (m++m'):=by
 induction h with
 |nil=>exact h'
 |cons r _ ih=>exact .cons r ih
theorem ck.right{α β:Type}{F:α->β->Prop}{l:List α}{m:List β}(h:ck F l m):∀b∈m,∃a∈l,F a b:=by
 induction h with
 |nil=>intro b hb;cases hb
 |cons r _ ih=>
  intro b hb;rcases Kq.mp hb with rfl|hb
  ·exact⟨_,Ks,r⟩
  ·obtain⟨a,ha,f⟩:=ih b hb
   exact⟨a,Ku _ ha,f⟩
theorem ck.perm{α β:Type}{F:α->β->Prop}{m m':List β}(p:LR m m'):∀{l:List α},ck F l m->∃l',LR l l'/\ck F l' m':=by
 induction p with
 |nil=>intro l h;cases h;exact⟨[],.nil,.nil⟩
 |cons b _ ih=>
  intro l h;cases h with
  |cons r t=>
   obtain⟨l',p,q⟩:=ih t;exact⟨_::l',.cons _ p,.cons r q⟩
 |swap b c m=>
  intro l h;cases h with
  |cons r t=>cases t with
   |cons r' t'=>exact⟨_,.swap _ _ _,.cons r' (.cons r t')⟩
 |trans _ _ ih1 ih2=>
  intro l h;obtain⟨l1,p1,q1⟩:=ih1 h;obtain⟨l2,p2,q2⟩:=ih2 q1;exact⟨l2,p1.trans p2,q2⟩
noncomputable def de(knd:KeyKind prog w K)(h:Heap)(a:Addr)(ks:List K)(led:Bool):Prop:=
 ∃o es ep t,h.get? a=some o/\o.ExactSet/\o.data=.set es ep t/\ck (Ent knd) ks es.toList/\ks.Nodup/\es.size<Os/\t.fits es.size=true/\Rs t.place.toList/\t.led=led
theorem Jo{ks:List K}{l:List (Int×Value)}(h:ck (Ent knd) ks l):ElemsOf knd l:=fun e he=>by
 obtain⟨k,_,f1,f2,f3⟩:=h.right e he;exact⟨⟨k,f1,f2⟩,f3⟩
theorem stored{h:Heap}{a:Addr}{o:Obj}{es es':Array (Int×Value)}{ep:Nat}{t t':KO}{ks':List K}{led:Bool}(g1:h.get? a=some o)(g2:o.ExactSet)(g3:o.data=.set es ep t)(pr:ck (Ent knd) ks' es'.toList)(nd:ks'.Nodup)(sb:es'.size<Os)(ft:t'.fits es'.size=true)(rs:Rs t'.place.toList)(ld:t'.led=led):
  (h.update a (P8 es' t')).get? a=some { o with data:=.set es' (ep+1) t' }/\de knd (h.update a (P8 es' t')) a ks' led:=by
 have hg:(h.update a (P8 es' t')).get? a=some { o with data:=.set es' (ep+1) t' }:=by
  have z:=Ln (P8 es' t') g1 (by rw[putSet_of _ _ g3];rfl);rw[z,putSet_of _ _ g3]
 exact⟨hg,_,es',ep+1,t',hg,g2,rfl,pr,nd,sb,ft,rs,ld⟩
theorem Fy{ks:List K}{l:List (Int×Value)}{k:K}(h:ck (Ent knd) ks l){j:Nat}(e:l.findIdx? (fun e=>knd.is k e.2)=some j):k∈ks:=by
 obtain⟨hj,hp,_⟩:=MA.mp e;obtain⟨k',hk',f1,_⟩:=h.right _ (Nq hj);exact knd.inj _ _ _ hp f1▸hk'
theorem D0{ks:List K}{l:List (Int×Value)}{k:K}(h:ck (Ent knd) ks l)(e:l.findIdx? (fun e=>knd.is k e.2)=none):k∉ks:=by
 have n:=Og.mp e
 induction h with
 |nil=>intro z;cases z
 |cons r _ ih=>
  intro z;rcases Kq.mp z with rfl|z
  ·have:=n _ Ks
   rw[r.1]at this;cases this
  ·exact ih (Og.mpr fun e he=>n e (Ku _ he)) (fun e he=>n e (Ku _ he)) z
theorem wT{g:Bool->Sem Unit}(hg:∀(b:Bool)(z:Shared)(P:Unit->Shared->Prop),P () z->wpAny (model prog w) A (g b) P E z){a:Addr}{o:Obj}{es fs:Array (Int×Value)}{ep:Nat}{t u:KO}{ks:List K}{led wd:Bool}
  (g1:s.heap.get? a=some o) (g2:o.ExactSet) (g3:o.data=.set es ep t) (kq:ck (Ent knd) ks fs.toList) (nd:ks.Nodup) (sb:fs.size<Os) (fu:u.fits fs.size=true) (ru:Rs u.place.toList) (lu:u.led=led) {R:Option Bool->Shared->Prop}
  (q:∀h' ks',KJ a s.heap h'->de knd h' a ks' led->LR ks' ks->R (some true) { s with heap:=h' }):
  wpAny (model prog w) A (storeSet a fs u>>=fun _=>if(!wd&&u.tooFull)=true then(g (Po u fs (Nj fs.size)).2.2>>=fun _=>storeSet a (Po u fs (Nj fs.size)).1 (Po u fs (Nj fs.size)).2.1>>=fun _=>pure (some true))else pure (some true)) R E s:=by
 apply Kg;refine Sg g1 g3 ?_ (Sh sb);obtain⟨g4,R1⟩:=stored (knd:=knd) g1 g2 g3 kq nd sb fu ru lu;have b1:=Lo s.heap a (P8 fs u)
 split
 ·have pm:=relayAll_perm u fs (Nj fs.size)
  have pf:=relayAll_fits u fs (Nj fs.size);have⟨pr,pl⟩:=zX ru fs (Nj fs.size);generalize Po u fs (Nj fs.size)=L at *;obtain⟨fs',u',gv⟩:=L;dsimp only at pm pf pr pl ⊢;obtain⟨ks',kp,kq'⟩:=ck.perm pm.symm kq;have hz:fs'.size=fs.size:=by rw[<-K8,pm.length_eq,K8]
  apply Kg;apply hg;apply Kg;refine Sg g4 rfl ?_ (Sh (by rw[hz];exact sb));obtain⟨_,R2⟩:=stored (knd:=knd) g4 g2 rfl kq' (kp.nodup_iff.mp nd) (by rw[hz];exact sb) pf pr (pl.trans lu);exact Ki (q _ ks' (b1.trans (Lo _ a _)) R2 kp.symm)
 ·exact Ki (q _ ks b1 R1 (LR.refl _))
theorem Hr{a:Addr}{ks:List K}{led:Bool}{k:K}{x:Value}{Q:Bool->Shared->Prop}(hk:knd.is k x=true)(hx:x.scannable=true)(R:de knd s.heap a ks led)(room:ks.length+1<Os)
  (q:∀h' ks' b,KJ a s.heap h'->de knd h' a ks' led->(∀y,y∈ks'↔y∈ks\/y=k)->ks'.length<=ks.length+1->Q b { s with heap:=h' }):wpAny (model prog w) A (setAddHashed a x (knd.hash k)) Q E s:=by
 obtain⟨o,es,ep,t,g1,g2,g3,pr,nd,sb,ft,rs,ld⟩:=id R;have el:=Jo pr;have hlen:ks.length=es.size:=by rw[pr.len,K8]
 unfold setAddHashed setAddHashedIn;apply LH;apply Kg;apply LV g1 g3 ft;dsimp only;rw[if_pos (byScan_of hx sb el)];unfold setAddByScan;apply Kg;apply Kg;apply MB;apply Kg;apply wpAny_setScan_of hk g1 g3 ft el;cases fe:List.findIdx? (fun e=>knd.is k e.2) es.toList with
 |some j=>
  dsimp only;apply Ki;apply Ki;have z:=q s.heap ks false (Si a s.heap) R (fun y=>⟨.inl,fun h=>h.elim id fun e=>e▸Fy pr fe⟩) (Ng _);cases s;exact z
 |none=>
  dsimp only;have hk0:=D0 pr fe;have pm:=layNew_perm t es (knd.hash k) x;have pf:=layNew_fits t es (knd.hash k) x;have⟨pr1,pl1⟩:=DZ rs es (knd.hash k) x;generalize layNew t es (knd.hash k) x=L at *;obtain⟨es1,t1,wd,gv⟩:=L;dsimp only at pm pf pr1 pl1 ⊢;rw[P3]at pm;obtain⟨ks1,kp,kq⟩:=ck.perm pm.symm (pr.app (.cons (⟨hk,rfl,hx⟩:Ent knd k (knd.hash k,x)) .nil));have hz:es1.size=es.size+1:=by rw[<-K8,pm.length_eq,KP,K8];rfl
  have sb1:es1.size<Os:=by rw[hz,<-hlen];exact room
  have nd1:ks1.Nodup:=kp.nodup_iff.mp (Sd.mpr ⟨nd,List.pairwise_singleton _ _,fun y hy z hz' e=>hk0 (by rw[Kr]at hz';rw[<-hz',<-e];exact hy)⟩);have fin:∀h' ks',KJ a s.heap h'->de knd h' a ks' led->LR ks' ks1->Q true { s with heap:=h' }:=fun h' ks' b R' pp=>
   q h' ks' true b R' (fun y=>by rw[pp.mem_iff,<-kp.mem_iff,Lf,Kr]) (by rw[pp.length_eq,<-kp.length_eq,KP];exact Km _)
  apply Kg;have gw:∀(b:Bool)(z:Shared)(P:Unit->Shared->Prop),P () z->wpAny (model prog w) A (match b with|true=>rule "set.scan.the-table-gave-way"|false=>pure ()) P E z:=fun b z P hP=>by cases b<;>first|exact Ki hP|exact MB hP
  refine gw gv _ _ ?_
  split
  ·apply Kg
   rw[hashByValue_scannable 8 hx];apply Ki;refine wT (led:=led) (fun b z P hP=>by cases b<;>first|exact Ki hP|exact MB hP) g1 g2 g3 kq nd1 sb1 ?_ ?_ ?_ fun h' ks' b R' pp=>?_
   ·split
    ·exact pf
    ·exact KO.fits_plain_off pf
   ·split<;>exact pr1
   ·split<;>exact pl1.trans ld
   ·exact Ki (fin h' ks' b R' pp)
  ·apply Kg
   apply Ki;simp only[↓reduceIte];refine wT (led:=led) (fun b z P hP=>by cases b<;>first|exact Ki hP|exact MB hP) g1 g2 g3 kq nd1 sb1 pf pr1 (pl1.trans ld) fun h' ks' b R' pp=>?_;exact Ki (fin h' ks' b R' pp)
end
end L2
end
namespace L2
open PySem PyProof.Rows
section
open PySem.Spec
section
variable{prog:Program}{w:World}{K:Type}[DecidableEq K]{knd:KeyKind prog w K}{A:Around}{R:Result->Shared->Prop}{I:Addr}{fp wr:List Addr}{G:Array Q5->Array Q5->Prop}{n:Nat}{P:Nat->Value->Prop}{St:Nat->Shared->Prop}
theorem de.at{h h':Heap}{a:Addr}{ks:List K}{led:Bool}(r:de knd h a ks led)(k:∀o,h.get? a=some o->h'.get? a=some o):de knd h' a ks led:=by
 obtain⟨o,es,ep,t,e,z⟩:=r;exact⟨o,es,ep,t,k o e,z⟩
theorem Fz(W:WalksS prog w A.in1 I fp wr G n P St)(S:Addr)(free:S∉fp)(key:Nat->K)(hkey:∀i v,P i v->knd.is (key i) v=true/\v.scannable=true)(room:n+1<Os){led:Bool}:
  ∀(m i:Nat)(s:Shared)(ks:List K),n-i=m->i<=n->St i s->de knd s.heap S ks led->(∀y,y∈ks↔∃j,j<i/\key j=y)->ks.length<=i->
   (∀s' ks',Moved (S::wr) G s s'->de knd s'.heap S ks' led->(∀y,y∈ks'↔∃j,j<n/\key j=y)->R (.ok (.ret .none)) s')->
   codeAny (model prog w) A (.builtin "set.update.loop" ⟨[.ref S,.ref I],[]⟩) R s:=by
 have nw:S∉wr:=fun z=>free (W.sub _ z);have up:∀b∈wr,b∈S::wr:=fun b z=>Ku _ z;intro m
 induction m with
 |zero=>
  intro i s ks hm hi st r mem len done;obtain rfl:i=n:=by omega
  apply Mx Qv;rw[Ms OA _];show wpAny _ A.in1 (pyNext (.ref I)>>=_) _ _ s;apply Kg;refine W.done s _ _ st fun z mv=>?_;show wpAny _ A.in1 (ret LL) _ _ z;exact Ki (done z ks (mv.mono up) (r.at fun o e=>mv.heap S _ nw e) mem)
 |succ m ih=>
  intro i s ks hm hi st r mem len done;have lt:i<n:=by omega
  apply Mx Qv;rw[Ms OA _];show wpAny _ A.in1 (pyNext (.ref I)>>=_) _ _ s;apply Kg;refine W.item i s _ _ lt st fun v z pv stz mv=>?_;obtain⟨kv,sv⟩:=hkey i v pv;have rz:de knd z.heap S ks led:=r.at fun o e=>mv.heap S _ nw e;show wpAny _ A.in1 (holding [v] (setAdd S v)>>=_) _ _ z;apply Kg;apply LH;unfold setAdd;apply LH;apply Kg;refine knd.pyHash kv ?_;refine Hr (s:={ z with toks:=z.toks+1 }) kv sv rz (by omega) fun h' ks' b sb r' mem' len'=>?_;refine Ki ⟨Nz OA _,ih (i+1) _ ks' (by omega) lt (W.frame _ z _ _ stz (Ng _) fun c hc o e=>?_) r' (fun y=>?_) (by omega) fun z' ks2 mv2 r2 mem2=>?_⟩
  ·rw[sb.2 c (fun e':c=S=>free (by rw[<-e'];exact hc))]
   exact e
  ·rw[mem',mem]
   constructor
   ·rintro(⟨j,hj,e⟩|e)
    ·exact⟨j,by omega,e⟩
    ·exact⟨i,by omega,e.symm⟩
   ·rintro⟨j,hj,e⟩
    rcases RZ j i with q|q
    ·exact .inl ⟨j,q,e⟩
    ·have:j=i:=by omega
     subst this;exact .inr e.symm
  ·refine done z' ks2 (Moved.trans W.gtrans ((mv.mono up).then_heap (Ng _) fun c o hc e=>?_) mv2) r2 mem2
   rw[sb.2 c (fun e':c=S=>hc (by rw[e'];exact Ks))];exact e
end
end
section
open PySem.Spec
section
variable{prog:Program}{w:World}{A:Around}{E:Value->Shared->Prop}{s:Shared}
noncomputable def dO(w:World):Bool:=w.params.followText "set-order"
noncomputable abbrev nj(w:World):Obj:={ cls:=.type "set",dict:=none,data:=.set #[] 0 (.fresh 0 0 (!dO w)) }
theorem FA(x:Value){Q:Value->Shared->Prop}(q:Q (.ref s.heap.objs.size) { s with heap:=s.heap.push (nj w) }):codeAny (model prog w) A (.call (.builtin "set.__new__") ⟨[.type "set",x],[]⟩) (wants Q E) s:=by
 apply Tf;show wpAny _ A.in1 (do Qm "set.__new__" ⟨[.type "set",x],[]⟩;again (.builtin "set.__new__" ⟨[.type "set",x],[]⟩)) _ _ s;apply Kg;apply QO (PySem.F.newCall_set_1 x);refine Ki ⟨Nz Q1 _,?_⟩;apply Mx PySem.F.entry_set_new;rw[Ms Q1 _];unfold Builtin.«set.__new__»;unfold Builtin.Frozenset.newClass;have self_:=sub_set_self;obtain⟨hp,g,d,tk,os⟩:=s;dsimp only
 wp_walk
 apply Qo;apply Ki;dsimp only;simp only[newObj];apply Kg;apply wpAny_alloc;apply Ki;exact Ki q
theorem de.new{K:Type}[DecidableEq K]{knd:KeyKind prog w K}{h:Heap}{a:Addr}(e:h.get? a=some (nj w)):de knd h a [] (!dO w):=
 ⟨_,#[],0,_,e,⟨rfl,rfl,rfl⟩,rfl,.nil,.nil,by decide,rfl,.nil,rfl⟩
end
end
section
open PySem.Spec
section
variable{prog:Program}{w:World}{K:Type}[DecidableEq K]{knd:KeyKind prog w K}{A:Around}{E:Value->Shared->Prop}{s:Shared}
theorem Hs{l:Addr}{xs:Array Value}(key:Nat->K){Q:Value->Shared->Prop}(calm:A.handled=none)(hl:s.heap.IsList l xs)(hkey:∀i v,xs[i]?=some v->knd.is (key i) v=true/\v.scannable=true)(room:xs.size+1<Os)
  (q:∀(h':Heap)(tk:Nat)(ks:List K),de knd h' s.heap.objs.size ks (!dO w)->(∀y,y∈ks↔∃j,j<xs.size/\key j=y)->(∀b o,b<s.heap.objs.size->s.heap.get? b=some o->h'.get? b=some o)->Q (.ref s.heap.objs.size) { s with heap:=h',toks:=tk }):
  wpAny (model prog w) A (call (.type "set") [.ref l]) Q E s:=by
 have ft:=PySem.F.called_set;obtain⟨c0,tl0,mro0⟩:=ft.mro;have made0:=ft.made;have sub0:=ft.sub;have not0:=ft.notType;have can0:=ft.canCreate;have chk0:=PySem.F.typeCall_set_1 (.ref l);apply SU;apply Tf;show wpAny _ _ (callAny (.type "set") _) _ _ _;refine Ki ⟨RX _ (by decide+kernel),?_⟩;apply Mx PySem.F.entry_type_call;rw[Around.under_plain (weight_type_call_type "set" [.ref l] []) rfl]
 repeat (any_goals (first|assumption|wp_step))
 refine Nl (FA (.ref l) (E:=E) (Q:=fun ob z=>ob=.ref s.heap.objs.size/\z={ s with heap:=s.heap.push (nj w) }) ⟨rfl,rfl⟩) fun r z hz=>?_;cases r with
 |error e=>exact hz
 |ok fl=>
  cases fl with
  |next=>exact hz.elim
  |brk=>exact hz.elim
  |cont=>exact hz.elim
  |ret ob=>
   obtain⟨rfl,rfl⟩:=hz;have got:(s.heap.push (nj w)).get? s.heap.objs.size=some (nj w):=Kt _ rfl;have isT:Rt { s with heap:=s.heap.push (nj w) } (.ref s.heap.objs.size) "set":=⟨_,got,rfl⟩;have look0:=ft.init.lookup;have bind0:=ft.init.bind (.ref s.heap.objs.size)
   repeat (any_goals (first|assumption|wp_step))
   refine Nl (Pc (R:=wants (fun r z=>r=.none/\∃h' tk ks,z={ s with heap:=h',toks:=tk }/\de knd h' s.heap.objs.size ks (!dO w)/\(∀y,y∈ks↔∃j,j<xs.size/\key j=y)/\∀b o,b<s.heap.objs.size->s.heap.get? b=some o->h'.get? b=some o) E) ft.init.plain PySem.F.entry_set_init (check_set_init_1 isT ?_)) fun r z hz=>?_
   ·obtain⟨ob,gl,cl,nl,dl⟩:=hl
    obtain⟨a1,a2,a3,a4⟩:=ob;simp only at cl dl;subst cl dl;have gl1:(s.heap.push (nj w)).get? l=some { cls:=.type "list",dict:=a2,data:=.seq xs nl,slots:=a4 }:=Kh _ gl;have sls:=PySem.F.sub_list_set;have slf:=PySem.F.sub_list_frozenset;have nd0:(LF "list"==LF "dict")=false:=by decide
    have il:(s.heap.push (nj w)).IsList l xs:=⟨_,gl1,rfl,nl,rfl⟩;unfold Builtin.«set.__init__»;unfold noKeywords;unfold Builtin.Frozenset.updateFrom;generalize gPI:pyIter=PI
    wp_walk
    subst gPI;apply NN il;apply Kg;apply wpAny_runValue;have lt:l<s.heap.objs.size:=Ko gl;have sz:(s.heap.push (nj w)).objs.size=s.heap.objs.size+1:=K9 _ _;have fr:s.heap.objs.size∉[(s.heap.push (nj w)).objs.size,l]:=by
     rw[sz];intro hm;rcases Kq.1 hm with e|hm
     ·exact absurd e (K3 (L0 _))
     ·rcases Kq.1 hm with e|hm
      ·exact absurd e.symm (K3 lt)
      ·exact nomatch hm
    refine Fz (knd:=knd) ((S3 (by simp[calm]) _ l (by rw[sz];exact K3 (LU lt)) xs).toS) s.heap.objs.size fr key (fun i v hv=>hkey i v hv) room (led:=!dO w) (xs.size-0) 0 _ [] (by omega) (Lk _) ⟨⟨_,Kt _ rfl,rfl,rfl⟩,il.push _⟩ (de.new (Kh _ got)) (fun y=>⟨fun z=>(nomatch z),fun⟨j,hj,_⟩=>absurd hj (O8 _)⟩) (Km _) fun z ks mv r mem=>?_;obtain⟨h',g',d',tk',os'⟩:=z;obtain rfl:g'=s.gens:=mv.gens;obtain rfl:d'=s.drawn:=mv.drawn;obtain rfl:os'=s.os:=mv.os;show wpAny _ _ _ _ _ _;refine Ki ?_;show wpAny _ _ (ret LL) _ _ _;refine Ki ⟨rfl,h',tk',ks,rfl,r,mem,fun b o hb e=>mv.heap b o (fun hm=>?_) (Kh _ (Kh _ e))⟩;rcases Kq.1 hm with e|hm
    ·exact absurd e (K3 hb)
    ·rcases Kq.1 hm with e|hm
     ·rw[sz]at e
      exact absurd e (K3 (LU hb))
     ·exact nomatch hm
   ·cases r with
    |error e=>exact hz
    |ok fl=>
     cases fl with
     |next=>exact hz.elim
     |brk=>exact hz.elim
     |cont=>exact hz.elim
     |ret r=>
      obtain⟨rfl,h',tk,ks,rfl,r1,r2,r3⟩:=hz
      repeat (any_goals (first|assumption|wp_step))
      exact q _ _ ks r1 r2 r3
end
end
section
open PySem.Spec
theorem fB:Slot "set_iterator" "__next__" "set_iterator.__next__":=by
 refine Slot.of (owner:="set_iterator") (n:="__next__") ?_ ?_ ?_ ?_ ?_ ?_
 ·rw[Pe,NW]
  kernel_rfl
 ·decide+kernel
 ·decide+kernel
 ·decide+kernel
 ·first
   |exact .inl (by decide+kernel)
   |exact .inr (by decide+kernel)
 ·rw[Q2]
  kernel_rfl
theorem AJ:Slot "set_iterator" "__iter__" "set_iterator.__iter__":=by
 refine Slot.of (owner:="set_iterator") (n:="__iter__") ?_ ?_ ?_ ?_ ?_ ?_
 ·rw[Pe,NW]
  kernel_rfl
 ·decide+kernel
 ·decide+kernel
 ·decide+kernel
 ·first
   |exact .inl (by decide+kernel)
   |exact .inr (by decide+kernel)
 ·rw[Q2]
  kernel_rfl
theorem oO:entryFor table "set_iterator.__next__"=some Builtin.«set_iterator.__next__»:=by
 apply entryFor_of_tree
 kernel_rfl
theorem FB:entryFor table "set_iterator.__iter__"=some Builtin.«dict_keyiterator.__iter__»:=by
 refine entryFor_alias (id':="dict_keyiterator.__iter__") ?_ rfl ?_ ?_
 ·kernel_rfl
 ·decide+kernel
 ·kernel_rfl
theorem Ht:entryFor table "set.__iter__"=some Builtin.«frozenset.__iter__»:=by
 refine entryFor_alias (id':="frozenset.__iter__") ?_ rfl ?_ ?_
 ·kernel_rfl
 ·decide+kernel
 ·kernel_rfl
theorem zk:Manifest.owners.lookup (String.ofList ['r','o','t','a','r','e','t','i','_','t','e','s'].reverse)=some Manifest.sig_set_iterator:=by kernel_rfl
theorem oP(a:Value):argsOk "set_iterator.__next__" ⟨[a],[]⟩:=by
 unfold argsOk;rw[signature?_of (id:="set_iterator.__next__") (n:=['_','_','t','x','e','n','_','_']) (o:=['r','o','t','a','r','e','t','i','_','t','e','s']) (by kernel_rfl) zk]
 kernel_rfl
theorem FC(a:Value):argsOk "set_iterator.__iter__" ⟨[a],[]⟩:=by
 unfold argsOk;rw[signature?_of (id:="set_iterator.__iter__") (n:=['_','_','r','e','t','i','_','_']) (o:=['r','o','t','a','r','e','t','i','_','t','e','s']) (by kernel_rfl) zk]
 kernel_rfl
end
section
open PySem.Spec
noncomputable def SAt(h:Heap)(a:Addr)(es:Array (Int×Value))(ep:Nat)(t:KO):Prop:=∃o,h.get? a=some o/\o.data=.set es ep t/\t.fits es.size=true
noncomputable def dv(h:Heap)(I a:Addr)(f:Value)(i n ep:Nat):Prop:=∃o,h.get? I=some o/\o.cls=.type "set_iterator"/\o.data=.fields #[f,.int i 0,.ref a,.int n 0,.int ep 0]
theorem SAt.at{h h':Heap}{a:Addr}{es:Array (Int×Value)}{ep:Nat}{t:KO}(x:SAt h a es ep t)(k:∀o,h.get? a=some o->h'.get? a=some o):SAt h' a es ep t:=by
 obtain⟨o,e,r⟩:=x;exact⟨o,k o e,r⟩
theorem dv.at{h h':Heap}{I a:Addr}{f:Value}{i n ep:Nat}(x:dv h I a f i n ep)(k:∀o,h.get? I=some o->h'.get? I=some o):dv h' I a f i n ep:=by
 obtain⟨o,e,r⟩:=x;exact⟨o,k o e,r⟩
theorem dv.type{s:Shared}{I a:Addr}{f:Value}{i n ep:Nat}(x:dv s.heap I a f i n ep):s.TypeIs (.ref I) "set_iterator":=by
 obtain⟨o,e,c,_⟩:=x;exact⟨o,e,c⟩
theorem dv.set{h:Heap}{I a:Addr}{f g:Value}{i n ep:Nat}(x:dv h I a f i n ep):dv (h.update I (PP (·.setIfInBounds 0 g))) I a g i n ep:=by
 obtain⟨o,e,c,d⟩:=x;refine⟨_,Ln _ e (OT (MU d _)),(PY ..).trans c,?_⟩;rw[MU d];simp
theorem dv.step{h:Heap}{I a:Addr}{f:Value}{i n ep:Nat}(x:dv h I a f i n ep):dv (h.update I (PP (·.setIfInBounds 1 (rawInt ((i:Int)+1))))) I a f (i+1) n ep:=by
 obtain⟨o,e,c,d⟩:=x;refine⟨_,Ln _ e (OT (MU d _)),(PY ..).trans c,?_⟩;rw[MU d];simp[rawInt]
section
variable{prog:Program}{w:World}{A:Around}{E:Value->Shared->Prop}{s:Shared}{I a:Addr}{es:Array (Int×Value)}{ep:Nat}{t:KO}{i:Nat}
theorem qR{Q:Bool->Shared->Prop}(q:Q (dO w) s):wpAny (model prog w) A setsByText Q E s:=by
 unfold setsByText;apply Kg;apply Qo;exact Ki q
theorem AK{slot:Nat}{Q:Option (Value×Nat)->Shared->Prop}(b:dO w=true)(hs:SAt s.heap a es ep t)(q:Q ((Ot (w.params.setOrder a ep) es)[i]?.map fun e=>(e.2,slot)) s):wpAny (model prog w) A (setNext a slot i ep) Q E s:=by
 obtain⟨o,g1,g3,ft⟩:=hs;unfold setNext;apply Kg;apply LV g1 g3 ft;dsimp only;apply Kg;apply qR;rw[if_pos b,if_neg (by simp)];apply Kg;unfold setWalk;apply Kg;apply LV g1 g3 ft;dsimp only;apply Kg;apply qR;rw[if_pos b];apply Kg;apply Qo;apply Ki;exact Ki q
theorem AL{slot:Nat}{Q:Option (Value×Nat)->Shared->Prop}(b:dO w=false)(pl:(!t.plain&&decide (es.size>1))=false)(ld:t.led=true)(hs:SAt s.heap a es ep t)
  (q:Q (match es[KZ t.place slot]?,t.place[KZ t.place slot]? with|some (_,x),some j=>some (x,j+1)|_,_=>none) s):wpAny (model prog w) A (setNext a slot i ep) Q E s:=by
 obtain⟨o,g1,g3,ft⟩:=hs;unfold setNext;apply Kg;apply LV g1 g3 ft;dsimp only;apply Kg;apply qR;rw[if_neg (by rw[b];exact Kv)];show wpAny _ _ (if(!t.plain&&decide (es.size>1))=true then _ else _) _ _ _;rw[if_neg (by rw[pl];exact Kv)];apply Kg;show wpAny _ _ (if(!t.led&& !es.isEmpty)=true then _ else _) _ _ _;rw[if_neg (by rw[ld];simp)];apply Ki;exact Ki q
theorem Hu{p:Nat}{x:Int×Value}{Q:Value->Shared->Prop}(hs:SAt s.heap a es ep t)(hx:es[p]?=some x)(q:Q x.2 s):wpAny (model prog w) A (setNextDrawn a p ep) Q E s:=by
 obtain⟨o,g1,g3,ft⟩:=hs;unfold setNextDrawn;apply Kg;apply LV g1 g3 ft;dsimp only;rw[if_neg (by simp),hx];exact Ki q
theorem AM{slot nx:Nat}{x:Value}{Q:Option Value->Shared->Prop}(hit:dv s.heap I a (.int slot 0) i es.size ep)(hs:SAt s.heap a es ep t)
  (hx:∀(A:Around)(E:Value->Shared->Prop)(Q:Option (Value×Nat)->Shared->Prop),Q (some (x,nx)) s->wpAny (model prog w) A (setNext a slot i ep) Q E s)
  (q:∀h',dv h' I a (.int nx 0) (i+1) es.size ep->KJ I s.heap h'->Q (some x) { s with heap:=h' }):wpAny (model prog w) A (pyNext (.ref I)) Q E s:=by
 obtain⟨o,g1,g3,ft⟩:=id hs;obtain⟨u,e1,e2,e3⟩:=id hit;unfold pyNext;apply Kg;apply M6;refine Lm (name:=Mo "__next__") hit.type fB ?_;refine Lc fB hit.type oO ?_ (oP _);refine Kg (Ki ?_);refine Kg (Pp e1 e3 ?_);dsimp only;apply Kg;unfold P9;apply Kg;apply LV g1 g3 ft;apply Ki;rw[if_neg (by simp)];apply Kg;refine hx _ _ _ ?_;dsimp only;refine Kg (MS e1 e3 (by simp) ?_);have it1:dv (s.heap.update I (PP (·.setIfInBounds 0 (rawInt (nx:Int))))) I a (.int nx 0) i es.size ep:=hit.set;obtain⟨u',e1',e2',e3'⟩:=id it1;refine Kg (MS e1' e3' (by simp) ?_);exact Ki ⟨_,rfl,Ki (q _ it1.step ((Lo _ I _).trans (Lo _ I _)))⟩
theorem Ea{slot:Nat}{Q:Option Value->Shared->Prop}(calm:A.handled=none)(hit:dv s.heap I a (.int slot 0) i es.size ep)(hs:SAt s.heap a es ep t)
  (hx:∀(A:Around)(E:Value->Shared->Prop)(Q:Option (Value×Nat)->Shared->Prop),Q none s->wpAny (model prog w) A (setNext a slot i ep) Q E s)
  (q:∀h',N9 I s.heap h'->Q none { s with heap:=h' }):wpAny (model prog w) A (pyNext (.ref I)) Q E s:=by
 obtain⟨o,g1,g3,ft⟩:=id hs;obtain⟨u,e1,e2,e3⟩:=id hit;unfold pyNext;apply Kg;apply M6;refine Lm (name:=Mo "__next__") hit.type fB ?_;refine Lc fB hit.type oO ?_ (oP _);refine Kg (Ki ?_);refine Kg (Pp e1 e3 ?_);dsimp only;apply Kg;unfold P9;apply Kg;apply LV g1 g3 ft;apply Ki;rw[if_neg (by simp)];apply Kg;refine hx _ _ _ ?_;dsimp only;refine Kg (MS e1 e3 (by simp) ?_);show wpAny _ _ (newExc (.type "StopIteration") []>>=_) _ _ _;apply Kg;simp only[newExc,SC];apply Kg;refine Lu ?_ (by size_fits);apply Kg;refine QO (a:=LL) (by rfl) ?_;refine Lu ?_ (by size_fits);simp only[raiseNew];refine Kg (Rq ?_);rw[show A.in1.handled=none from calm];refine Sn ?_;apply Kg;refine Mq (T:="StopIteration") (b:=true) ?_ Ox ?_
 ·exact⟨_,Kt _ rfl,rfl⟩
 ·exact Ki (q _ (((Lo _ I _).extBut.push _).push _))
theorem FD{d:Addr}{ps:Array Value}{p:Nat}{x:Int×Value}{Q:Option Value->Shared->Prop}(hit:dv s.heap I a (.ref d) i es.size ep)(hs:SAt s.heap a es ep t)(ht:s.heap.IsTuple d ps)(hp:ps[i]?=some (.int p 0))(hx:es[p]?=some x)
  (q:∀h',dv h' I a (.ref d) (i+1) es.size ep->KJ I s.heap h'->Q (some x.2) { s with heap:=h' }):wpAny (model prog w) A (pyNext (.ref I)) Q E s:=by
 obtain⟨o,g1,g3,ft⟩:=id hs;obtain⟨u,e1,e2,e3⟩:=id hit;unfold pyNext;apply Kg;apply M6;refine Lm (name:=Mo "__next__") hit.type fB ?_;refine Lc fB hit.type oO ?_ (oP _);refine Kg (Ki ?_);refine Kg (Pp e1 e3 ?_);dsimp only;apply Kg;unfold P9;apply Kg;apply LV g1 g3 ft;apply Ki;rw[if_neg (by simp)];obtain⟨v,f1,f2,n,f3⟩:=id ht;apply Kg;refine LG f1 f3 ?_;dsimp only;rw[show((i:Int)).toNat=i from rfl,hp];dsimp only;apply Kg;refine Hu hs hx ?_;refine Kg (MS e1 e3 (by simp) ?_);exact Ki ⟨_,rfl,Ki (q _ hit.step (Lo _ I _))⟩
theorem Hv{d:Addr}{ps:Array Value}{Q:Option Value->Shared->Prop}(calm:A.handled=none)(hit:dv s.heap I a (.ref d) i es.size ep)(hs:SAt s.heap a es ep t)(ht:s.heap.IsTuple d ps)(hp:ps[i]?=none)
  (q:∀h',N9 I s.heap h'->Q none { s with heap:=h' }):wpAny (model prog w) A (pyNext (.ref I)) Q E s:=by
 obtain⟨o,g1,g3,ft⟩:=id hs;obtain⟨u,e1,e2,e3⟩:=id hit;unfold pyNext;apply Kg;apply M6;refine Lm (name:=Mo "__next__") hit.type fB ?_;refine Lc fB hit.type oO ?_ (oP _);refine Kg (Ki ?_);refine Kg (Pp e1 e3 ?_);dsimp only;apply Kg;unfold P9;apply Kg;apply LV g1 g3 ft;apply Ki;rw[if_neg (by simp)];obtain⟨v,f1,f2,n,f3⟩:=id ht;apply Kg;refine LG f1 f3 ?_;dsimp only;rw[show((i:Int)).toNat=i from rfl,hp];dsimp only;refine Kg (MS e1 e3 (by simp) ?_);have it1:dv (s.heap.update I (PP (·.setIfInBounds 0 (rawInt 0)))) I a (rawInt 0) i es.size ep:=hit.set;obtain⟨u',e1',e2',e3'⟩:=id it1;refine Kg (MS e1' e3' (by simp) ?_);show wpAny _ _ (newExc (.type "StopIteration") []>>=_) _ _ _;apply Kg;simp only[newExc,SC];apply Kg;refine Lu ?_ (by size_fits);apply Kg;refine QO (a:=LL) (by rfl) ?_;refine Lu ?_ (by size_fits);simp only[raiseNew];refine Kg (Rq ?_);rw[show A.in1.handled=none from calm];refine Sn ?_;apply Kg;refine Mq (T:="StopIteration") (b:=true) ?_ Ox ?_
 ·exact⟨_,Kt _ rfl,rfl⟩
 ·exact Ki (q _ ((((Lo _ I _).trans (Lo _ I _)).extBut.push _).push _))
theorem wc{f:Value}{n:Nat}{Q:Value->Shared->Prop}(hit:dv s.heap I a f i n ep)(q:Q (.ref I) s):wpAny (model prog w) A (pyIter (.ref I)) Q E s:=by
 refine Sj hit.type AJ ?_;refine Lc AJ hit.type FB ?_ (FC _);show wpAny _ _ (ret (.ref I)) _ _ s;exact Ki ⟨_,rfl,"set_iterator",_,hit.type,fB.lookup,q⟩
end
end
section
open PySem.Spec
theorem we{α:Type}:∀(l:List α)(i:Nat)(h:i<l.length),LR (l[i]::l.eraseIdx i) l
 |x::l,0,_=>.refl _
 |x::l,i+1,h=>(LR.swap x _ _).trans (.cons x (we l i (Nat.lt_of_succ_lt_succ h)))
theorem AN{α:Type}(next:Nat->Nat):∀(fuel k:Nat)(left:List α)(out:Array α),left.length=fuel->LR (Ot.go next fuel k left out).toList (out.toList++left)
 |0,k,left,out,h=>by
  obtain rfl:=Oz.mp h;rw[MI];exact .refl _
 |fuel+1,k,left,out,h=>by
  have hl:next k%left.length<left.length:=Nat.mod_lt _ (by omega)
  show LR (match left[next k%left.length]? with|some x=>Ot.go next fuel (k+1) (left.eraseIdx (next k%left.length)) (out.push x)|none=>out).toList _;rw[Kj hl];refine(AN next fuel (k+1) _ _ (by rw[PQ hl,h];rfl)).trans ?_;rw[P3,PX];exact LR.append_left _ (we _ _ hl)
theorem qo{α:Type}(next:Nat->Nat)(xs:Array α):LR (Ot next xs).toList xs.toList:=AN next xs.size 0 xs.toList #[] (by simp)
section
variable{prog:Program}{w:World}{A:Around}{E:Value->Shared->Prop}{s:Shared}{I a:Addr}{es:Array (Int×Value)}{ep:Nat}{t:KO}{i:Nat}
theorem FE{src:Source}{n:Nat}{Q:Nat->Shared->Prop}(hn:n≠0)(q:∀i dr,i<n->Q i { s with drawn:=dr }):wpAny (model prog w) A (choose src n) Q E s:=fun _ _ _=>⟨hn,q _ _ (Nat.mod_lt _ (Nat.pos_of_ne_zero hn))⟩
theorem wU{α:Type}:∀(n:Nat)(xs:List α)(s:Shared)(Q:List α->Shared->Prop),xs.length=n->(∀ys dr,LR ys xs->Q ys { s with drawn:=dr })->wpAny (model prog w) A (drawOrder n xs) Q E s
 |0,xs,s,Q,h,q=>by
  obtain rfl:=Oz.mp h;exact Ki (q [] s.drawn .nil)
 |n+1,[],s,Q,h,q=>nomatch h
 |n+1,x::xs,s,Q,h,q=>by
  unfold drawOrder;apply Kg;refine FE (by simp) fun i dr hi=>?_;rw[Kj hi];dsimp only;apply Kg;refine wU n _ _ _ (by rw[PQ hi,h];rfl) fun ys dr' p=>?_;exact Ki (q _ _ ((LR.cons _ p).trans (we _ _ hi)))
noncomputable abbrev Ord(ord:List (Int×Value))(i:Nat)(v:Value):Prop:=∃e,ord[i]?=some e/\e.2=v
theorem Hw(calm:A.handled=none)(b:dO w=true)(hne:a≠I):
  Walks prog w A I [I,a] [I] es.size (Ord (Ot (w.params.setOrder a ep) es).toList) (fun i h=>(∃slot:Nat,dv h I a (.int slot 0) i es.size ep)/\SAt h a es ep t) where
 sub:=fun b hb=>by
  rw[Kr.mp hb];exact Ks
 frame:=fun i h h' st k=>⟨st.1.elim fun n z=>⟨n,z.at (k I Ks)⟩,st.2.at (k a (Ku _ Ks))⟩
 item:=fun i s Q E hi st q=>by
  obtain⟨⟨slot,it⟩,hs⟩:=st;have len:=(qo (w.params.setOrder a ep) es).length_eq;have hl:i<(Ot (w.params.setOrder a ep) es).size:=by
   rw[<-K8,len,K8];exact hi
  refine AM (x:=(Ot (w.params.setOrder a ep) es)[i].2) (nx:=slot) it hs (fun A E Q h=>AK b hs ?_) fun h' it' sb=>?_
  ·rw[Ml hl]
   exact h
  ·refine q _ h' s.toks ⟨_,?_,rfl⟩ ⟨⟨slot,it'⟩,hs.at fun o e=>?_⟩ fun c o hc e=>?_
   ·rw[M1,Ml hl]
   ·exact sb.extBut a o hne e
   ·exact sb.extBut c o (fun z=>hc (by rw[z];exact Ks)) e
 done:=fun s Q E st q=>by
  obtain⟨⟨slot,it⟩,hs⟩:=st;have len:=(qo (w.params.setOrder a ep) es).length_eq;have hl:(Ot (w.params.setOrder a ep) es).size<=es.size:=by
   rw[<-K8,len,K8];exact Km _
  refine Ea calm it hs (fun A E Q h=>AK b hs ?_) fun h' xb=>q h' s.toks fun c o hc e=>?_
  ·rw[OM hl]
   exact h
  ·exact xb c o (fun z=>hc (by rw[z];exact Ks)) e
 self:=fun i s Q E st q=>st.1.elim fun n z=>wc z q
noncomputable def sU(t:KO):Nat->Nat
 |0=>0
 |j+1=>t.place.getD j 0+1
theorem uO(rs:Rs t.place.toList):∀i,i<=t.place.size->KZ t.place (sU t i)=i
 |0,_=>BT _ rs
 |j+1,h=>by
  have hj:j<t.place.size:=h;have hj':j<t.place.toList.length:=by simpa using hj
  have e:sU t (j+1)=t.place.toList[j]+1:=by rw[sU,wS _ _ _ hj]
  rw[e];exact BS _ rs hj'
theorem Hx(calm:A.handled=none)(b:dO w=false)(pl:(!t.plain&&decide (es.size>1))=false)(ld:t.led=true)(rs:Rs t.place.toList)(sz:t.place.size=es.size)(hne:a≠I):
  Walks prog w A I [I,a] [I] es.size (Ord es.toList) (fun i h=>dv h I a (.int (sU t i:Nat) 0) i es.size ep/\SAt h a es ep t) where
 sub:=fun b hb=>by
  rw[Kr.mp hb];exact Ks
 frame:=fun i h h' st k=>⟨st.1.at (k I Ks),st.2.at (k a (Ku _ Ks))⟩
 item:=fun i s Q E hi st q=>by
  obtain⟨it,hs⟩:=st;have hp:i<t.place.size:=by rw[sz];exact hi
  refine AM (x:=es[i].2) (nx:=sU t (i+1)) it hs (fun A E Q h=>AL b pl ld hs ?_) fun h' it' sb=>?_
  ·rw[uO rs i (Lp hp),Ml hi,Ml hp]
   have e:sU t (i+1)=t.place[i]+1:=by
    rw[sU,Rj,dif_pos hp];rfl
   rw[e]at h;exact h
  ·refine q _ h' s.toks ⟨_,?_,rfl⟩ ⟨it',hs.at fun o e=>?_⟩ fun c o hc e=>?_
   ·rw[M1,Ml hi]
   ·exact sb.extBut a o hne e
   ·exact sb.extBut c o (fun z=>hc (by rw[z];exact Ks)) e
 done:=fun s Q E st q=>by
  obtain⟨it,hs⟩:=st;refine Ea calm it hs (fun A E Q h=>AL b pl ld hs ?_) fun h' xb=>q h' s.toks fun c o hc e=>?_
  ·rw[uO rs es.size (by rw[sz];exact Km _),OM (Km _)]
   exact h
  ·exact xb c o (fun z=>hc (by rw[z];exact Ks)) e
 self:=fun i s Q E st q=>wc st.1 q
theorem ow(es:Array (Int×Value)):((KS es.size).map fun p=>es.getD p (0,.none))=es.toList:=by
 apply List.ext_getElem
 ·simp
 ·intro i h1 h2
  have hi:i<es.size:=by simpa using h2
  rw[List.getElem_map,PC,Rj,dif_pos hi];simp
theorem Hy(calm:A.handled=none){d:Addr}{ps:List Nat}(pm:LR ps (KS es.size))(hne:a≠I)(hd:d≠I):
  Walks prog w A I [I,a,d] [I] es.size (Ord (ps.map fun p=>es.getD p (0,.none))) (fun i h=>dv h I a (.ref d) i es.size ep/\SAt h a es ep t/\h.IsTuple d (ps.map fun p=>Nf (p:Nat) 0).toArray) where
 sub:=fun b hb=>by
  rw[Kr.mp hb];exact Ks
 frame:=fun i h h' st k=>⟨st.1.at (k I Ks),st.2.1.at (k a (Ku _ Ks)),st.2.2.at (k d (Ku _ (Ku _ Ks)))⟩
 item:=fun i s Q E hi st q=>by
  obtain⟨it,hs,ht⟩:=st;have len:=pm.length_eq;rw[L6]at len;have hl:i<ps.length:=by rw[len];exact hi
  have lt:ps[i]<es.size:=MC.mp (pm.mem_iff.mp (Nq hl));refine FD (p:=ps[i]) (x:=es[ps[i]]) it hs ht ?_ (Ml lt) fun h' it' sb=>?_
  ·rw[Q3,Kz,Kj hl]
   rfl
  ·refine q _ h' s.toks ⟨_,?_,rfl⟩ ⟨it',hs.at fun o e=>?_,ht.at fun o e=>?_⟩ fun c o hc e=>?_
   ·rw[Kz,Kj hl]
    show some (es.getD ps[i] (0,.none))=_;rw[Rj,dif_pos lt];rfl
   ·exact sb.extBut a o hne e
   ·exact sb.extBut d o hd e
   ·exact sb.extBut c o (fun z=>hc (by rw[z];exact Ks)) e
 done:=fun s Q E st q=>by
  obtain⟨it,hs,ht⟩:=st;have len:=pm.length_eq;refine Hv calm it hs ht ?_ fun h' xb=>q h' s.toks fun c o hc e=>?_
  ·apply OM
   simp[len]
  ·exact xb c o (fun z=>hc (by rw[z];exact Ks)) e
 self:=fun i s Q E st q=>wc st.1 q
end
end
section
open PySem.Spec
theorem ck.get{α β:Type}{F:α->β->Prop}{l:List α}{m:List β}(h:ck F l m):∀{i:Nat} {b:β},m[i]?=some b->∃a,l[i]?=some a/\F a b:=by
 induction h with
 |nil=>intro i b e;cases e
 |cons r _ ih=>
  intro i b e;cases i with
  |zero=>
   obtain rfl:_=b:=KA e;exact⟨_,rfl,r⟩
  |succ i=>exact ih e
section
variable{prog:Program}{w:World}{K:Type}[DecidableEq K]{knd:KeyKind prog w K}{A:Around}{E:Value->Shared->Prop}{s:Shared}{I a:Addr}{es:Array (Int×Value)}{ep:Nat}{t:KO}{i:Nat}
theorem sV{fp wr:List Addr}{n:Nat}{P P':Nat->Value->Prop}{St:Nat->Heap->Prop}(W:Walks prog w A I fp wr n P St)(f:∀i v,P i v->P' i v):Walks prog w A I fp wr n P' St where
 sub:=W.sub
 frame:=W.frame
 item:=fun i s Q E hi st q=>W.item i s Q E hi st fun v h' tk pv=>q v h' tk (f i v pv)
 done:=W.done
 self:=W.self
noncomputable abbrev cU(knd:KeyKind prog w K)(ord:List K)(i:Nat)(v:Value):Prop:=∃k,ord[i]?=some k/\knd.is k v=true
theorem wf{ks:List K}{l m:List (Int×Value)}(pr:ck (Ent knd) ks m)(p:LR l m):∃ord,LR ord ks/\∀i v,Ord l i v->cU knd ord i v:=by
 obtain⟨ord,q,pr'⟩:=ck.perm p.symm pr;refine⟨ord,q.symm,fun i v h=>?_⟩;obtain⟨e,he,rfl⟩:=h;obtain⟨k,hk,r⟩:=pr'.get he;exact⟨k,hk,r.1⟩
noncomputable abbrev itO(f:Value)(a:Addr)(n ep:Nat):Obj:={ cls:=.type "set_iterator",data:=.fields #[f,.int (0:Nat) 0,.ref a,.int n 0,.int ep 0] }
theorem AO{f:Value}{F:Fin->Shared->Prop}(hs:SAt s.heap a es ep t)(q:F (.done (.ret (.ref s.heap.objs.size))) { s with heap:=s.heap.push (itO f a es.size ep) }):
  wpAny (model prog w) A (do ret (<-newFields "set_iterator" [f,rawInt 0,.ref a,rawInt es.size,rawInt (<-setEpoch a)])) F E s:=by
 obtain⟨o,g1,g3,ft⟩:=hs;apply Kg;refine wpAny_setEpoch_of g1 g3 ft ?_;apply Kg;unfold newFields;refine Lu ?_;exact Ki q
theorem FF{ks:List K}{Q:Value->Shared->Prop}(calm:A.handled=none)(r:de knd s.heap a ks (!dO w))
  (q:∀(I:Addr)(h':Heap)(dr)(fp:List Addr)(St:Nat->Heap->Prop)(ord:List K),LR ord ks->Walks prog w A I fp [I] ks.length (cU knd ord) St->St 0 h'->(∀b∈fp,b<h'.objs.size)->(∀b∈fp,b=a\/s.heap.objs.size<=b)->s.heap.objs.size<=I->I∈fp->(∀b o,s.heap.get? b=some o->h'.get? b=some o)->Q (.ref I) { s with heap:=h',drawn:=dr }):
  wpAny (model prog w) A (pyIter (.ref a)) Q E s:=by
 obtain⟨o,es,ep,t,g1,g2,g3,pr,nd,sb,ft,rs,ld⟩:=id r;have hs:SAt s.heap a es ep t:=⟨o,g1,g3,ft⟩;have ty:s.TypeIs (.ref a) "set":=⟨o,g1,g2.1⟩;have len:es.size=ks.length:=by rw[pr.len,K8]
 have lt:a<s.heap.objs.size:=Ko g1;rw[<-len]at q;have sz:t.place.size=es.size:=by
  simp only[KO.fits,LI,beq_iff_eq]at ft;exact ft.1
 refine Sj ty Q4 ?_;refine Lc Q4 ty Ht ?_ (PySem.F.args_set_iter_1 _);unfold Builtin.«frozenset.__iter__»;refine Kg (Ki ?_);apply Kg;unfold Builtin.Frozenset.sizeOf;apply Kg;unfold P9;apply Kg;apply LV g1 g3 ft;apply Ki;apply Ki;apply Kg;unfold setDrawn;apply Kg;apply LV g1 g3 ft;dsimp only;apply Kg;apply qR;apply Ki;show wpAny _ _ (if(!dO w&&(!t.plain&&decide (es.size>1)))=true then _ else _) _ _ _;by_cases c:(!dO w&&(!t.plain&&decide (es.size>1)))=true
 ·rw[if_pos c]
  apply Kg;refine wU _ _ _ _ L6 fun ps dr pm=>?_;apply Kg;refine QZ ?_ (by rw[Kk,pm.length_eq,L6];exact K4 (Lp sb) (by decide));have pz:=K9 s.heap { cls:=.type "tuple",data:=.seq (ps.map fun(i:Nat)=>rawInt i).toArray };have hs1:=hs.at (h':=s.heap.push { cls:=.type "tuple",data:=.seq (ps.map fun(i:Nat)=>rawInt i).toArray }) fun o e=>Kh _ e;have tu:(s.heap.push { cls:=.type "tuple",data:=.seq (ps.map fun(i:Nat)=>rawInt i).toArray }).IsTuple s.heap.objs.size (ps.map fun p=>Nf (p:Nat) 0).toArray:=⟨_,Kt _ rfl,rfl,0,rfl⟩;have kp0:∀b o,s.heap.get? b=some o->(s.heap.push { cls:=.type "tuple",data:=.seq (ps.map fun(i:Nat)=>rawInt i).toArray }).get? b=some o:=fun b o e=>Kh _ e;generalize s.heap.push { cls:=.type "tuple",data:=.seq (ps.map fun(i:Nat)=>rawInt i).toArray }=hp at *;have lt1:a<hp.objs.size:=by rw[pz];exact LU lt
  have kp:∀b o,s.heap.get? b=some o->hp.get? b=some o:=kp0;refine AO (s:={ s with drawn:=dr,heap:=hp }) hs1 ⟨_,rfl,"set_iterator",_,⟨_,Kt _ rfl,rfl⟩,fB.lookup,?_⟩;obtain⟨ord,p1,p2⟩:=wf pr (l:=ps.map fun p=>es.getD p (0,.none)) (by rw[<-ow es];exact pm.map _);refine q hp.objs.size _ dr [hp.objs.size,a,s.heap.objs.size] _ ord p1 (sV (Hy (A:=A) (es:=es) (ep:=ep) (t:=t) calm pm (K3 lt1) (d:=s.heap.objs.size) (K3 (by rw[pz];exact L0 _))) p2) ⟨⟨_,Kt _ rfl,rfl,rfl⟩,hs1.at fun o e=>Kh _ e,tu.push _⟩ (fun b hb=>?_) (fun b hb=>?_) (by rw[pz];exact Ng _) Ks fun b o e=>Kh _ (kp b o e)
  ·rw[K9]
   rcases Kq.mp hb with e|hb
   ·rw[e]
    exact L0 _
   ·rcases Kq.mp hb with e|hb
    ·rw[e]
     exact LU lt1
    ·rw[Kr.mp hb,pz]
     exact LU (L0 _)
  ·rcases Kq.mp hb with e|hb
   ·exact .inr (by rw[e,pz];exact Ng _)
   ·rcases Kq.mp hb with e|hb
    ·exact .inl e
    ·exact .inr (by rw[Kr.mp hb];exact Km _)
 ·rw[if_neg c]
  apply Kg;apply Ki;refine AO hs ⟨_,rfl,"set_iterator",_,⟨_,Kt _ rfl,rfl⟩,fB.lookup,?_⟩;have it0:dv (s.heap.push (itO (rawInt 0) a es.size ep)) s.heap.objs.size a (.int (0:Nat) 0) 0 es.size ep:=⟨_,Kt _ rfl,rfl,rfl⟩;have hs0:SAt (s.heap.push (itO (rawInt 0) a es.size ep)) a es ep t:=hs.at fun o e=>Kh _ e;have inb:∀b∈[s.heap.objs.size,a],b<(s.heap.push (itO (rawInt 0) a es.size ep)).objs.size:=fun b hb=>by
   rw[K9];rcases Kq.mp hb with e|hb
   ·rw[e]
    exact L0 _
   ·rw[Kr.mp hb]
    exact LU lt
  have out:∀b∈[s.heap.objs.size,a],b=a\/s.heap.objs.size<=b:=fun b hb=>by
   rcases Kq.mp hb with e|hb
   ·exact .inr (by rw[e];exact Km _)
   ·exact .inl (Kr.mp hb)
  cases b:dO w with
  |true=>
   obtain⟨ord,p1,p2⟩:=wf pr (qo (w.params.setOrder a ep) es);refine q s.heap.objs.size _ s.drawn _ _ ord p1 (sV (Hw (A:=A) (es:=es) (ep:=ep) (t:=t) calm b (K3 lt)) p2) ⟨⟨0,it0⟩,hs0⟩ inb out (Km _) Ks fun b o e=>Kh _ e
  |false=>
   have pl:(!t.plain&&decide (es.size>1))=false:=by
    rw[b]at c;simpa using c
   have l1:t.led=true:=by rw[ld,b];rfl
   obtain⟨ord,p1,p2⟩:=wf pr (LR.refl es.toList);refine q s.heap.objs.size _ s.drawn _ _ ord p1 (sV (Hx (A:=A) (es:=es) (ep:=ep) (t:=t) calm b pl l1 rs sz (K3 lt)) p2) ⟨it0,hs0⟩ inb out (Km _) Ks fun b o e=>Kh _ e
end
end
section
open PySem.Spec PySem.W
section
variable{prog:Program}{w:World}{K:Type}[DecidableEq K]{knd:KeyKind prog w K}{A:Around}{E:Value->Shared->Prop}{s:Shared}{a:Addr}
theorem FG{Q:Bool->Shared->Prop}(ty:s.TypeIs (.ref a) "set")(q:Q false s):wpAny (model prog w) A (MX (.ref a)) Q E s:=by
 unfold MX;apply Kg;refine LY ty PySem.F.slot_set_len.lookup ?_;generalize hid:("set.__len__":String)=nm
 wp_delta
 rw[show splitId nm=some ("set","__len__")from by subst hid;decide+kernel];subst hid;apply Kg;refine Mq (T:="set") (b:=true) ty (by rw[Q2];kernel_rfl) ?_;refine QI (fun z=>absurd z (by decide)) fun _=>?_;refine QI (fun _=>?_) fun z=>absurd (by decide+kernel) z;apply Kg;refine Qf ty ?_;exact Ki q
theorem de.type{ks:List K}{led:Bool}(r:de knd s.heap a ks led):s.TypeIs (.ref a) "set":=by
 obtain⟨o,es,ep,t,g1,g2,_⟩:=r;exact⟨o,g1,g2.1⟩
theorem de.small{h:Heap}{ks:List K}{led:Bool}(r:de knd h a ks led):ks.length<Os:=by
 obtain⟨o,es,ep,t,g1,g2,g3,pr,nd,sb,_⟩:=r;rw[pr.len,K8];exact sb
theorem BV{ks:List K}{R:Result->Shared->Prop}(calm:A.handled=none)(r:de knd s.heap a ks (!dO w))(S:Addr)(ne:S≠a)(hS:s.heap.get? S=some { cls:=.type "list",data:=.seq #[] })
  (q:∀(s':Shared) h' dr tk ord acc c,s'={ s with heap:=h',drawn:=dr,toks:=tk }->LR ord ks->(∀b o,b≠S->s.heap.get? b=some o->h'.get? b=some o)->h'.get? S=some { cls:=.type "list",dict:=none,data:=.seq acc c,slots:=#[] }->ItemsOf (cU knd ord) acc ks.length->R (.ok (.ret (.ref S))) s'):
  wpAny (model prog w) A.in1 (LS (.ref S) (.ref a) (.ref S)) (fun fin s'=>match fin with | .done f=>R (.ok f) s' | .again c'=>c'.quiet=true/\codeAny (model prog w) A c' R s') (fun e s'=>R (.error e) s') s:=by
 have hn:ks.length<=Kw:=K4 (Lp r.small) (by decide);unfold LS;apply Kg;refine Qf (T:="set") r.type ?_;have h1:Nt (.ref S) (.ref a)=false:=by simp[Nt,ne]
 have h2:(LF "set"==LF "list")=false:=by decide
 have h3:(LF "set"==LF "tuple")=false:=by decide
 simp only[h1,h2,h3,Bool.or_false,LC,if_false];apply Kg;refine FF (A:=A.in1) calm r fun I h' dr fp St ord pm W st inb out ge Ifp kp=>?_;have hS1:=kp _ _ hS;have lS:S<s.heap.objs.size:=Ko hS;have r1:de knd h' a ks (!dO w):=r.at fun o e=>kp a o e;have nS:S∉fp:=fun hm=>by
  rcases out S hm with z|z
  ·exact ne z
  ·exact absurd lS (P7.mpr z)
 have loop:∀(h2:Heap)(c:Nat),(∀b o,b≠S->h'.get? b=some o->h2.get? b=some o)->h2.get? S=some { cls:=.type "list",dict:=none,data:=.seq #[] c,slots:=#[] }->codeAny (model prog w) A (.builtin "list.extend.loop" ⟨[.ref S,.ref I,.ref S],[]⟩) R { s with heap:=h2,drawn:=dr }:=fun h2 c k2 e2=>by
  refine codeAny_extend_loopS W.toS hn S nS (.ref S) ks.length 0 _ #[] c rfl (Lk _) (W.frame 0 _ _ st fun b hb o e=>k2 b o (fun z=>nS (z▸hb)) e) e2 (ItemsOf.nil _) fun s' acc c' mv e3 it=>?_;rw[Moved.eq_with mv];refine q _ s'.heap dr s'.toks ord acc c' rfl pm (fun b o hb e=>mv.heap b o (fun hm=>?_) (k2 b o hb (kp b o e))) e3 it;rcases Kq.mp hm with z|hm
  ·exact hb z
  ·rw[Kr.mp hm]at e
   exact absurd (Ko e) (P7.mpr ge)
 apply Kg;apply LH;refine FG (s:={ s with heap:=h',drawn:=dr }) r1.type ?_;refine QI (fun _=>?_) fun _=>?_
 ·apply Kg
  apply MB;apply Kg;show wpAny _ _ (PF S (·.push .none)>>=fun _=>PF S (·.pop)) _ _ _;apply Kg;refine NH hS1 rfl ?_;have hS2:=Ln (LN (·.push LL)) hS1 rfl;refine NH (hz:=by seq_fits) hS2 rfl ?_;have hS3:=Ln (LN (·.pop)) hS2 rfl;refine Ki ⟨Nz Mm _,loop _ _ (fun b o hb e=>?_) hS3⟩;rw[L3 _ _ (LK hb),L3 _ _ (LK hb)];exact e
 ·exact Ki ⟨Nz Mm _,loop _ _ (fun b o hb e=>e) hS1⟩
theorem zY{ks:List K}{R:List Value->Shared->Prop}(calm:A.handled=none)(r:de knd s.heap a ks (!dO w))
  (q:∀h' dr tk ord (acc:Array Value),LR ord ks->(∀b o,s.heap.get? b=some o->h'.get? b=some o)->s.heap.objs.size<h'.objs.size->ItemsOf (cU knd ord) acc ks.length->R acc.toList { s with heap:=h',drawn:=dr,toks:=tk }):
  wpAny (model prog w) A (collect (.ref a)) R E s:=by
 have lt:a<s.heap.objs.size:=by
  obtain⟨o,es,ep,t,g1,_⟩:=r;exact Ko g1
 unfold collect;apply Kg;apply wpAny_runValue;apply Mx entry_proto_collect';rw[Ms PySem.F.plain_proto_collect _];show wpAny _ A.in1 (newList []>>=fun l=>again (.builtin "list.__iadd__" ⟨[l,.ref a],[]⟩)) _ _ s;apply Kg;refine Lu ?_;refine Ki ⟨Nz Qw _,?_⟩;apply Mx entry_list_iadd';rw[Ms Qw _];show wpAny _ A.in1 (LS (.ref s.heap.objs.size) (.ref a) (.ref s.heap.objs.size)) _ _ _;have key:=BV (A:=A) (s:={ s with heap:=s.heap.push { cls:=.type "list",data:=.seq ([]:List Value).toArray } })
  (R:=fun(u:Result)(s':Shared)=>∃h' dr tk ord acc c,u=.ok (.ret (.ref s.heap.objs.size))/\s'={ s with heap:=h',drawn:=dr,toks:=tk }/\LR ord ks/\(∀b o,s.heap.get? b=some o->h'.get? b=some o)/\
   h'.get? s.heap.objs.size=some { cls:=.type "list",dict:=none,data:=.seq acc c,slots:=#[] }/\ItemsOf (cU knd ord) acc ks.length)
  calm (r.at fun o e=>Kh _ e) s.heap.objs.size (Mz lt) (Kt _ rfl)
  fun s' h' dr tk ord acc c e pm kp e3 it=>⟨h',dr,tk,ord,acc,c,rfl,e,pm,fun b o eb=>kp b o (K3 (Ko eb)) (Kh _ eb),e3,it⟩
 refine LM key (fun fin s' x=>?_) fun e s' x=>?_
 ·cases fin with
  |done f=>
   obtain⟨h',dr,tk,ord,acc,c,e,rfl,pm,kp,e3,it⟩:=x;cases e;show wpAny _ A (load s.heap.objs.size>>=_) _ _ _;apply Kg;refine SQ e3 ?_;exact Ki (q h' dr tk ord acc pm kp (Ko e3) it)
  |again c1=>
   refine⟨x.1,Nl x.2 fun u s2 y=>?_⟩;obtain⟨h',dr,tk,ord,acc,c,rfl,rfl,pm,kp,e3,it⟩:=y;show wpAny _ A (load s.heap.objs.size>>=_) _ _ _;apply Kg;refine SQ e3 ?_;exact Ki (q h' dr tk ord acc pm kp (Ko e3) it)
 ·obtain⟨h',dr,tk,ord,acc,c,e',_⟩:=x
  cases e'
end
end
section
open PySem.Spec
section
variable{X:Cx}
end
end
section
open PySem.Spec
section
variable{prog:Program}{w:World}{A:Around}{R:Result->Shared->Prop}{I:Addr}{fp wr:List Addr}{n:Nat}{P:Nat->Value->Prop}{St:Nat->Heap->Prop}{kw:List (Str×Value)}
end
end
section
open PySem.Spec
section
variable{prog:Program}{w:World}{A:Around}{E:Value->Shared->Prop}{s:Shared}
end
end
section
open PySem.Spec
section
variable{X:Cx}
end
end
section
open PySem.Calls
section
variable{X:Cx}
end
end
section
open PySem.Spec PySem.Calls
section
variable{prog:Program}{w:World}{A:Around}{E:Value->Shared->Prop}{s:Shared}{a:Addr}
theorem wV:∀{ord:List Int} {l:List Value},l.length=ord.length->(∀i v,l[i]?=some v->cU (intKind prog w) ord i v)->IntsAre l ord
 | [],[],_,_=>.nil
 | [],_::_,h,_=>nomatch h
 |_::_,[],h,_=>nomatch h
 |k::ord,v::l,h,t=>by
  obtain⟨k',hk,hv⟩:=t 0 v rfl;obtain rfl:k=k':=KA hk;obtain⟨tk,rfl⟩:=R0 hv;exact .cons k tk (wV (Nat.succ.inj h) fun i u hu=>t (i+1) u hu)
theorem BW{ks:List Int}{Q:Value->Shared->Prop}(calm:A.handled=none)(r:de (intKind prog w) s.heap a ks (!dO w))(h64:ks.length<64)
  (q:∀(p:Addr)(h':Heap)(dr)(tk:Nat)(out:Array Value)(e:Nat)(ms:List Int),(∀b o,s.heap.get? b=some o->h'.get? b=some o)->s.heap.objs.size<=p->h'.get? p=some (seqObj "list" out e)->IntsAre out.toList ms->ms.Perm ks->ms.Pairwise (·<=·)->Q (.ref p) { s with heap:=h',drawn:=dr,toks:=tk }):
  wpAny (model prog w) A (call (.builtin "sorted") [.ref a]) Q E s:=by
 refine call_function_entry kind_sorted plain_sorted entry_sorted (args_sorted1 _) ?_;unfold Builtin.«sorted»;refine Kg (m:=checkCount "sorted" 1 1 _) (Ki ?_);apply Kg;refine zY (A:=A.in1) calm r fun h' dr tk ord acc pm kp gt it=>?_;have len:acc.toList.length=ks.length:=by rw[K8];exact it.1
 have ia:IntsAre acc.toList ord:=wV (by rw[len,pm.length_eq]) fun i v e=>it.2 i v (by rw[<-M1];exact e);apply Kg;refine wpAny_newList ?_ (by rw[len];exact K4 (Lp h64) (by decide));have hoL:(h'.push (seqObj "list" acc.toList.toArray 0)).get? h'.objs.size=some (seqObj "list" acc.toList.toArray 0):=Kt _ rfl;have ge:s.heap.objs.size<=h'.objs.size:=Lp gt;apply Kg;apply LH;refine Lc slot_list_sort ⟨_,hoL,rfl⟩ entry_list_sort ?_ (args_list_sort _);refine list_sort_tree hoL ia (by rw[len];exact h64) fun out ms a1 a2 a3=>⟨_,rfl,?_⟩;obtain⟨e,he⟩:=sortedHeap_at (n:=0) (vs:=acc.toList) (out:=out) hoL;refine Ki ⟨_,rfl,q _ _ dr tk out e ms (fun b o eb=>?_) ge he a1 (a2.trans pm) a3⟩;have hb:=Ko eb;rw[sortedHeap_old (K3 (KI hb ge)) (by rw[size_push'];exact LU (KI hb ge))];exact Kh _ (kp b o eb)
end
section
variable{X:Cx}
theorem Inv.drew{pins:List (Addr×Obj)}{σ:St}{H:Hp}{s:Shared}(I:Inv X pins σ H s)(dr):Inv X pins σ H { s with drawn:=dr }:=by
 cases I;constructor<;>assumption
end
end
section
open PySem.Spec PySem.Calls
theorem AQ:∀{l:List Value} {ns:List Int} {i:Nat} {v:Value},IntsAre l ns->l[i]?=some v->∃t,v=.int (ns.getD i 0) t
 |_,_,_,_,.nil,e=>nomatch e
 |_,_,0,_,.cons n t _,e=>⟨t,(KA e).symm⟩
 |_,_,i+1,_,.cons n t h,e=>by
  obtain⟨t',e'⟩:=AQ (i:=i) h e;exact⟨t',e'⟩
section
variable{X:Cx}
theorem uP{e:Expr}{p p2 pos pos2:Pos}{t:TA}(hc:X.calm=true)(hm:X.mg "sorted"=none)(hm2:X.mg "set"=none)(ha:PA X [e] t)(hg:Gl X "sorted":=by rfl)(hg2:Gl X "set":=by rfl)
  (he:KC [e] X.env=(false,eval e X.env)::KC [] X.env:=by rfl) (hpl:(backTo pos2 (KC [] X.env)).any (·.1)=false:=by rfl)
  (he1:KC [.Call (.Name "set" p2) [e] [] pos2] X.env=(false,eval (.Call (.Name "set" p2) [e] [] pos2) X.env)::KC [] X.env:=by rfl) (hpl1:(backTo pos (KC [] X.env)).any (·.1)=false:=by rfl):
  PE X (.Call (.Name "sorted" p) [.Call (.Name "set" p2) [e] [] pos2] [] pos) (sw X.K t):=by
 intro pins s σ H Q I h;refine ME (ip I hg hm boot_sorted ?_ (by decide) (by decide));refine O2 ?_ he1 hpl1;rw[he1];show wpAny _ _ (spliced ((false,eval (.Call (.Name "set" p2) [e] [] pos2) X.env)::backTo pos (KC [] X.env))) _ _ s;refine Pt ?_;refine ME (ip I hg2 hm2 boot_set ?_ (by decide) (by decide));refine LQ (thn (ha pos2 pins s σ H _ I h) fun us s1 ⟨vs,H1,I1,r1,q1⟩=>?_) he hpl;obtain⟨l,ns,rfl,hq,hl,q⟩:=q1;obtain⟨u,rfl,rx⟩:=r1.one;cases rx;obtain⟨its,rv,pl,hz⟩:=I1.list hq;have hi:=nU rv;have hlen:its.length=ns.length:=by have:=rv.length;rw[Kk]at this;omega
 have calm:X.A.handled=none:=I.ok.hd hc;refine Hs (knd:=intKind X.prog X.w) (fun i=>ns.getD i 0) calm pl.isList (fun i v hv=>?_) (by rw[KH,hlen];exact NB (Nat.succ_le_of_lt hl) (by decide)) fun h' tk ks r mem kp=>?_
 ·rw[Q3]at hv
  obtain⟨tk,rfl⟩:=AQ hi hv;exact⟨by first|simp[intKind,QJ]| (unfold intKind;simp[QJ]),rfl⟩
 have memI:∀y,y∈ks↔y∈ns:=fun y=>by
  rw[mem,KH,hlen];constructor
  ·rintro⟨j,hj,rfl⟩
   rw[KG,Kj hj];exact Nq hj
  ·intro hy
   obtain⟨j,hj,rfl⟩:=List.getElem_of_mem hy;refine⟨j,hj,?_⟩;rw[KG,Kj hj];rfl
 have nd:ks.Nodup:=by
  obtain⟨o,es,ep,t,g1,g2,g3,pr,nd,_⟩:=r;exact nd
 refine PV ?_;refine BW calm r (NB (yZ nd fun y hy=>(memI y).mp hy) hl) fun q' h2 dr tk2 out ex ms kp2 ge hx a1 a2 a3=>?_;have kk:∀b o,s1.heap.get? b=some o->h2.get? b=some o:=fun b o eb=>kp2 b o (kp b o (Ko eb) eb);have ge1:s1.heap.objs.size<=q':=by
  obtain⟨o,es,ep,t,g1,_⟩:=r;exact Lp (KI (Ko g1) ge)
 have hf:H1 q'=none:=I1.hok.fresh ge1;have nm:ms.Nodup:=a2.nodup_iff.mpr nd;have ml:ms.length<64:=by
  rw[a2.length_eq];exact NB (yZ nd fun y hy=>(memI y).mp hy) hl
 refine⟨.ref q',_,(I1.laid (t':=tk2) (o:=.lst (ms.map V.int)) kk ge1 ?_).drew dr,rfl,q _ _ ms hf (bi hf _) ay ?_ fun y=>?_⟩
 ·exact⟨by rw[Kk,Kl];omega,out.toList,ex,pK a1,by rw[hx,Array.toArray_toList]⟩
 ·exact(a3.and nm).imp fun⟨z1,z2⟩=>by omega
 ·rw[a2.mem_iff,memI]
end
end
section
variable{σ:St}{H:Hp}{Q:VK}{a:Addr}{kvs:List (Key×V)}{i:Int}{v:V}
end
section
variable{g:CF TG}{tt:CF TT}{te:CF TE}{σ₀:St}{Q:VK}{H:Hp}
end
section
open PySem.Spec
section
variable{X:Cx}
end
end
section
open PySem.Spec
section
variable{X:Cx}
end
end
section
open PySem.Spec
section
variable{X:Cx}
theorem wW:dn X (.type "range") Gb:=by
 intro pins s σ H xs us Q I r h;obtain⟨n,rfl,hn,q⟩:=h;obtain⟨u,rfl,rx⟩:=tE r;obtain⟨t,rfl⟩:=rx;exact call_range_1 ⟨.ref s.heap.objs.size,_,I.laid (a:=s.heap.objs.size) (o:=.rng 0 (n:Int)) (t':=s.toks+1+1) (fun _ _ q=>Kh _ q) (Km _) ⟨_,_,_,Kt _ rfl⟩,rfl,q.upd _ (I.hok.fresh (Km _))⟩
theorem Eb{n:Nat}{acc:Array Value}(h:ItemsOf (fun i v=>∃t,v=.int ((0:Int)+i*1) t) acc n):aG ((KS n).map fun(i:Nat)=>V.int ((i:Nat):Int)) acc.toList:=by
 obtain⟨hl,hi⟩:=h;have go:∀(xs:List V)(us:List Value),xs.length=us.length->(∀(j:Nat)(x:V)(u:Value),xs[j]?=some x->us[j]?=some u->aI x u)->aG xs us:=by
  intro xs
  induction xs with
  |nil=>intro us hl _;cases us with
   |nil=>exact .nil
   |cons _ _=>simp at hl
  |cons x r ih=>intro us hl h;cases us with
   |nil=>simp at hl
   |cons u t=>exact .cons (h 0 x u rfl rfl) (ih t (by simpa using hl) fun j x u hx hu=>h (j+1) x u hx hu)
 refine go _ _ (by simp[hl]) fun j x u hx hu=>?_;rw[Kz]at hx;cases e:(KS n)[j]? with
 |none=>rw[e]at hx;cases hx
 |some z=>
  rw[e]at hx;cases hx;obtain⟨h1,h2⟩:=Kn.mp e;rw[PC]at h2;subst h2;obtain⟨t,rfl⟩:=hi j u (by rw[<-M1];exact hu);exact⟨t,by simp⟩
theorem wX(hc:X.calm=true):dn X (.type "list") xL:=by
 intro pins s σ H xs us Q I r h;obtain⟨p,n,rfl,e,hn,q⟩:=h;obtain⟨u,rfl,rx⟩:=tE r;cases rx;obtain⟨t,u,v,hr⟩:=(show bE X.prog X.w H s.heap p (.rng 0 (n:Int))from I.hok p _ e);refine call_list_range (n:=n) (show X.A.handled=none from I.ok.hd hc) hr (small_one (by omega) (by omega) (by omega) (by omega)) ?_ (by omega) fun h' tk acc' c' kp e' it=>?_
 ·rw[rangeSize_one];split<;>omega
 ·exact⟨.ref s.heap.objs.size,_,I.laid (t':=tk) kp (Km _) (show bE X.prog X.w _ h' _ (.lst _)from⟨by rw[Kk,L6,Kl];omega,acc'.toList,c',Eb it,by simpa using e'⟩),rfl,q.upd _ (I.hok.fresh (Km _))⟩
end
end
section
open PySem.Spec
noncomputable abbrev my(h:Heap)(z TI TO:Addr)(f0:Value)(f:Bool):Prop:=
 h.get? z=some { cls:=.type "zip",dict:=none,data:=.fields #[f0,.bool f,.bool false,.ref TI,.ref TO],slots:=#[] }
section
variable{prog:Program}{w:World}{A:Around}{E:Value->Shared->Prop}{s:Shared}
theorem uQ{z TI TO a:Addr}{f:Bool}{oa:Obj}{Q:Bool->Shared->Prop}(hz:my s.heap z TI TO (rawInt a) f)(ha:s.heap.get? a=some oa)(h:∀g1,my g1 z TI TO (rawInt a) true->KJ z s.heap g1->Q false { s with heap:=g1 }):
  wpAny (model prog w) A (Li (.ref z)) Q E s:=by
 obtain⟨hp,g,d,tk₀,os⟩:=s;unfold Li;refine Kg (Lx hz rfl (x:=rawInt a) rfl ?_);show wpAny _ _ (loadIfAlive ((a:Int).toNat)>>=_) _ _ _;rw[NO];refine Kg (PySem.W.kdx_alive ha ?_);simp only[Option.isNone_some,LC,if_false];refine Kg (Lx hz rfl (x:=.bool f) rfl ?_);cases f with
 |true=>
  rw[if_neg (show¬((L5 true != L5 true)=true)from Kv)];exact Ki (h hp hz (Si _ _))
 |false=>
  rw[if_pos (show(L5 false != L5 true)=true from rfl)];exact Kg (MF hz (by simp) fun h₃ he₃ hs₃=>Ki (h h₃ he₃ hs₃))
theorem Ec{z TI TO j1 j2 a:Addr}{f:Bool}{oa:Obj}{fp1 fp2:List Addr}{n1 n2 k:Nat}{P1 P2:Nat->Value->Prop}{S1 S2:Nat->Heap->Prop}{Q:Value->Shared->Prop}(Z:jo z TI TO j1 j2 fp1 fp2)
  (D1:Draws prog w A j1 fp1 n1 P1 S1) (D2:Draws prog w A j2 fp2 n2 P2 S2) (hz:my s.heap z TI TO (rawInt a) f) (ha:s.heap.get? a=some oa) (hTI:IsPair s.heap TI (.ref j1) (.ref j2)) (h1:S1 k s.heap) (h2:S2 k s.heap) (l1:k<n1) (l2:k<n2)
  (hQ:∀x y h' tk,P1 k x->P2 k y->my h' z TI TO (rawInt a) true->S1 (k+1) h'->S2 (k+1) h'->IsPair h' s.heap.objs.size x y->
   (∀c o,c∉[z,j1,j2]->s.heap.get? c=some o->h'.get? c=some o)->Q (.ref s.heap.objs.size) { s with heap:=h',toks:=tk }):
  wpAny (model prog w) A (Builtin.«zip.__next__» ⟨[.ref z],[]⟩) (fun fin s'=>∃v,fin=.done (.ret v)/\Q v s') E s:=by
 obtain⟨hp,g,d,tk₀,os⟩:=s;show wpAny _ _ (field (.ref z) 2>>=_) _ _ _;refine Kg (Lx hz rfl (x:=.bool false) rfl ?_);show wpAny _ _ (field (.ref z) 3>>=_) _ _ _;refine Kg (Lx hz rfl (x:=.ref TI) rfl ?_);refine Kg (LG hTI rfl ?_);show wpAny _ _ (Li (.ref z)>>=_) _ _ _;refine Kg (uQ hz ha fun g1 hz1 hs1=>?_);replace hs1:KJ z hp g1:=hs1;simp only[LC,if_false];refine Kg ?_;rw[<-ND];simp only[Oe,Ow];refine Kg ?_;refine Kg (LH ?_);show wpAny _ _ (Lg (.ref j1)>>=_) _ _ _;refine Kg (D1.item k ⟨g1,g,d,tk₀,os⟩ _ _ l1 (D1.but h1 hs1 Z.b1) fun x g2 tk1 px st1 hs2=>Ki ?_);replace hs2:KJ j1 g1 g2:=hs2;refine Ki ?_;refine Kg ?_;refine Kg (LH ?_);show wpAny _ _ (Lg (.ref j2)>>=_) _ _ _;refine Kg (D2.item k ⟨g2,g,d,tk1,os⟩ _ _ l2 (D2.but (D2.but h2 hs1 Z.b4) hs2 Z.b6) fun y g3 tk2 py st2 hs3=>Ki ?_);replace hs3:KJ j2 g2 g3:=hs3;refine Ki ?_;refine Ki ?_;show wpAny _ _ (SC [x,y]>>=fun r=>ret r) _ _ _;have hsz:g3.objs.size=hp.objs.size:=by rw[hs3.1,hs2.1,hs1.1]
 refine Kg (QZ (Ki ⟨_,rfl,?_⟩));have up:∀c o,g3.get? c=some o->(g3.push { cls:=.type "tuple",data:=.seq #[x,y] }).get? c=some o:=fun c o e=>Kh _ e;have hz3:my g3 z TI TO (rawInt a) true:=hs3.extBut _ _ Z.a4.symm (hs2.extBut _ _ Z.a3.symm hz1);have hT:IsPair (g3.push { cls:=.type "tuple",data:=.seq #[x,y] }) hp.objs.size x y:=by rw[<-hsz];exact Kt _ rfl
 show Q (.ref g3.objs.size) _;rw[hsz];refine hQ x y _ tk2 px py (up _ _ hz3) (D1.frame _ _ _ (D1.but st1 hs3 Z.b3) fun c _ o e=>up c o e) (D2.frame _ _ _ st2 fun c _ o e=>up c o e) hT fun c o hc e=>?_;simp only[Kq,Lq,or_false,not_or]at hc;exact up c o (hs3.extBut _ _ hc.2.2 (hs2.extBut _ _ hc.2.1 (hs1.extBut _ _ hc.1 e)))
theorem FH{z TI TO j1 j2 a:Addr}{f:Bool}{oa:Obj}{fp1 fp2:List Addr}{n1 n2 k:Nat}{P1 P2:Nat->Value->Prop}{S1 S2:Nat->Heap->Prop}{Q:Fin->Shared->Prop}(Z:jo z TI TO j1 j2 fp1 fp2)
  (D1:Draws prog w A j1 fp1 n1 P1 S1) (D2:Draws prog w A j2 fp2 n2 P2 S2) (hz:my s.heap z TI TO (rawInt a) f) (ha:s.heap.get? a=some oa) (hTI:IsPair s.heap TI (.ref j1) (.ref j2)) (h1:S1 k s.heap) (h2:S2 k s.heap) (l:k=min n1 n2)
  (hE:∀h' e tk,(∀c o,c∉[z,TI,TO,j1,j2]->s.heap.get? c=some o->h'.get? c=some o)->(∃o,h'.get? e=some o/\o.cls=.type "StopIteration")->E (.ref e) { s with heap:=h',toks:=tk }):
  wpAny (model prog w) A (Builtin.«zip.__next__» ⟨[.ref z],[]⟩) Q E s:=by
 obtain⟨hp,g,d,tk₀,os⟩:=s;have kp:∀{h':Heap},(∀c o,c≠z->c≠j1->c≠j2->hp.get? c=some o->h'.get? c=some o)->∀c o,c∉[z,TI,TO,j1,j2]->hp.get? c=some o->h'.get? c=some o:=fun{h'} q c o hc e=>by
  simp only[Kq,Lq,or_false,not_or]at hc;exact q c o hc.1 hc.2.2.2.1 hc.2.2.2.2 e
 show wpAny _ _ (field (.ref z) 2>>=_) _ _ _;refine Kg (Lx hz rfl (x:=.bool false) rfl ?_);show wpAny _ _ (field (.ref z) 3>>=_) _ _ _;refine Kg (Lx hz rfl (x:=.ref TI) rfl ?_);refine Kg (LG hTI rfl ?_);show wpAny _ _ (Li (.ref z)>>=_) _ _ _;refine Kg (uQ hz ha fun g1 hz1 hs1=>?_);replace hs1:KJ z hp g1:=hs1;simp only[LC,if_false];refine Kg ?_;rw[<-ND];simp only[Oe,Ow];refine Kg ?_;refine Kg (LH ?_);show wpAny _ _ (Lg (.ref j1)>>=_) _ _ _;by_cases hk:k=n1
 ·subst hk
  refine Kg (D1.done ⟨g1,g,d,tk₀,os⟩ _ _ (D1.but h1 hs1 Z.b1) fun g2 e hs2 he=>?_);replace hs2:N9 j1 g1 g2:=hs2;exact hE g2 e tk₀ (kp fun c o c1 c2 _ q=>hs2 _ _ c2 (hs1.extBut _ _ c1 q)) he
 ·have hlt:k<n1:=by omega
  have hk2:k=n2:=by omega
  refine Kg (D1.item k ⟨g1,g,d,tk₀,os⟩ _ _ hlt (D1.but h1 hs1 Z.b1) fun x g2 tk1 px st1 hs2=>Ki ?_);replace hs2:KJ j1 g1 g2:=hs2;refine Ki ?_;refine Kg ?_;refine Kg (LH ?_);show wpAny _ _ (Lg (.ref j2)>>=_) _ _ _;subst hk2;refine Kg (D2.done ⟨g2,g,d,tk1,os⟩ _ _ (D2.but (D2.but h2 hs1 Z.b4) hs2 Z.b6) fun g3 e hs3 he=>?_);replace hs3:N9 j2 g2 g3:=hs3;exact hE g3 e tk1 (kp fun c o c1 c2 c3 q=>hs3 _ _ c3 (hs2.extBut _ _ c2 (hs1.extBut _ _ c1 q))) he
noncomputable def ZSt(h:Heap)(z TI TO S:Addr)(i:Nat)(far:Addr->Prop):Prop:=(i=0/\IsZip h z TI TO .none/\∃u v,IsPair h TO u v)\/∃(a:Addr)(f:Bool)(oa:Obj),my h z TI TO (rawInt a) f/\h.get? a=some oa/\far a/\a≠S
noncomputable def ZTs(P1 P2:Nat->Value->Prop)(lo:Addr)(h:Heap)(ts:List Addr):Prop:=∀(j:Nat)(t:Addr),ts[j]?=some t->lo<=t/\∃x y,P1 j x/\P2 j y/\IsPair h t x y
end
section
variable{prog:Program}{w:World}{A:Around}{s:Shared}{R:Result->Shared->Prop}
theorem FI{z TI TO j1 j2 S lo:Addr}{fp1 fp2:List Addr}{n1 n2:Nat}{P1 P2:Nat->Value->Prop}{S1 S2:Nat->Heap->Prop}(hh:A.handled=none)(Z:jo z TI TO j1 j2 fp1 fp2)
  (D1:Draws prog w A.in1.in1 j1 fp1 n1 P1 S1) (D2:Draws prog w A.in1.in1 j2 fp2 n2 P2 S2) (hn:min n1 n2<=Kw) (hS:S∉[z,TI,TO,j1,j2]) (hS1:S∉fp1) (hS2:S∉fp2) (hlo:∀c∈[z,TI,TO,j1,j2,S],c<lo) (hlo1:∀c∈fp1,c<lo) (hlo2:∀c∈fp2,c<lo) (res:Value) {h₁:Heap}
  (hR:∀h' tk acc c ts,(∀b o,b∉[z,TI,TO,j1,j2]->b≠S->h₁.get? b=some o->h'.get? b=some o)->h'.get? S=some { cls:=.type "list",dict:=none,data:=.seq acc c,slots:=#[] }->ts.length=min n1 n2->ZTs P1 P2 lo h' ts->
   acc.toList=ts.map KY->R (.ok (.ret res)) { s with heap:=h',toks:=tk }):
  ∀(m i:Nat)(h:Heap)(tk c:Nat)(acc:Array Value)(ts:List Addr),min n1 n2-i=m->i<=min n1 n2->ZSt h z TI TO S i (fun a=>lo<=a)->IsPair h TI (.ref j1) (.ref j2)->S1 i h->S2 i h->(∀b o,b∉[z,TI,TO,j1,j2]->b≠S->h₁.get? b=some o->h.get? b=some o)->
   h.get? S=some { cls:=.type "list",dict:=none,data:=.seq acc c,slots:=#[] }->acc.toList=ts.map KY->ts.length=i->ZTs P1 P2 lo h ts->lo<=h.objs.size->
   codeAny (model prog w) A (.builtin "list.extend.loop" ⟨[.ref S,.ref z,res],[]⟩) R { s with heap:=h,toks:=tk }:=by
 have notin:∀t,lo<=t->t∉[z,TI,TO,j1,j2]/\t≠S/\t∉fp1/\t∉fp2:=fun t ht=>⟨fun hm=>by
  have:=hlo t (show t∈[z,TI,TO,j1,j2]++[S]from Ll _ hm);exact absurd ht (Pf.mpr this),fun e=>by
  have:=hlo S (by simp);rw[e]at ht;exact absurd ht (Pf.mpr this),fun hm=>absurd ht (Pf.mpr (hlo1 t hm)),fun hm=>absurd ht (Pf.mpr (hlo2 t hm))⟩
 intro m
 induction m with
 |zero=>
  intro i h tk c acc ts hk hi hst hTI st1 st2 hkeep hSS hacc hal hG hls;have hin:i=min n1 n2:=by omega
  refine Mx Qa ?_;rw[Ms Mm _];show wpAny _ A.in1 (pyNext (.ref z)>>=_) _ _ _;have done:∀h':Heap,∀tk',(∀c o,c∉[z,TI,TO,j1,j2]->h.get? c=some o->h'.get? c=some o)->R (.ok (.ret res)) { s with heap:=h',toks:=tk' }:=fun h' tk' kp=>by
   refine hR h' tk' acc c ts (fun b o h1 h2 e=>kp b o h1 (hkeep b o h1 h2 e)) (kp S _ hS hSS) (by omega) (fun j t hj=>?_) hacc;obtain⟨hlt,x,y,p1,p2,e⟩:=hG j t hj;exact⟨hlt,x,y,p1,p2,kp t _ (notin t hlt).1 e⟩
  have hT:Rt { s with heap:=h,toks:=tk } (.ref z) "zip":=by
   rcases hst with⟨_,hz,_⟩|⟨a,f,oa,hz,_⟩
   ·exact⟨_,hz,rfl⟩
   ·exact⟨_,hz,rfl⟩
  unfold pyNext;refine Kg (Kg (M6 (Lm (name:=Mo "__next__") hT MJ (Lc MJ hT OR ?_ (OE _)))));rcases hst with⟨_,hz,u,v,hTO⟩|⟨a,f,oa,hz,ha,_,_⟩
  ·refine ym (s:={ s with heap:=h,toks:=tk }) Z D1 D2 hz hTI hTO st1 st2 hin fun h' e tk' kp he=>?_
   obtain⟨o,ho,hcl⟩:=he;exact Kg (Mq (T:="StopIteration") (b:=true) ⟨o,ho,hcl⟩ Ox (Ki (Ki (done h' tk' kp))))
  ·refine FH (s:={ s with heap:=h,toks:=tk }) Z D1 D2 hz ha hTI st1 st2 hin fun h' e tk' kp he=>?_
   obtain⟨o,ho,hcl⟩:=he;exact Kg (Mq (T:="StopIteration") (b:=true) ⟨o,ho,hcl⟩ Ox (Ki (Ki (done h' tk' kp))))
 |succ m ih=>
  intro i h tk c acc ts hk hi hst hTI st1 st2 hkeep hSS hacc hal hG hls;have hlt:i<min n1 n2:=by omega
  have hsz:acc.size=i:=by rw[<-K8,hacc,Kk,hal]
  refine Mx Qa ?_;rw[Ms Mm _];show wpAny _ A.in1 (pyNext (.ref z)>>=_) _ _ _;have hT:Rt { s with heap:=h,toks:=tk } (.ref z) "zip":=by
   rcases hst with⟨_,hz,_⟩|⟨a,f,oa,hz,_⟩
   ·exact⟨_,hz,rfl⟩
   ·exact⟨_,hz,rfl⟩
  have item:∀(h':Heap)(tk':Nat)(x y:Value),P1 i x->P2 i y->ZSt h' z TI TO S (i+1) (fun a=>lo<=a)->S1 (i+1) h'->S2 (i+1) h'->IsPair h' h.objs.size x y->(∀c o,c∉[z,TO,j1,j2]->h.get? c=some o->h'.get? c=some o)->
    wpAny (model prog w) A.in1 (Qx (.ref S) (·.push (KY h.objs.size))>>=fun _=>again (.builtin "list.extend.loop" ⟨[.ref S,.ref z,res],[]⟩)) (fun fin s'=>match fin with | .done f=>R (.ok f) s' | .again c'=>c'.quiet=true/\codeAny (model prog w) A c' R s') (fun e s'=>R (.error e) s') { s with heap:=h',toks:=tk' }:=by
   intro h' tk' x y px py hst' st1' st2' ht kp;have sub:∀c,c∉[z,TI,TO,j1,j2]->c∉[z,TO,j1,j2]:=fun c hc hm=>hc (by
    simp only[Kq,Lq,or_false]at hm ⊢;rcases hm with e|e|e|e
    ·exact .inl e
    ·exact .inr (.inr (.inl e))
    ·exact .inr (.inr (.inr (.inl e)))
    ·exact .inr (.inr (.inr (.inr e))))
   have hS':=kp S _ (sub S hS) hSS;have up:∀b o,b≠S->h'.get? b=some o->(h'.update S (LN (·.push (KY h.objs.size)))).get? b=some o:=fun b o hb e=>(L3 _ _ (LK hb)).trans e;have hSl:S<h.objs.size:=Ko hSS;have zS:∀c∈[z,TI,TO,j1,j2],c≠S:=fun c hc e=>hS (by rw[<-e];exact hc);have hTI':IsPair h' TI (.ref j1) (.ref j2):=kp TI _ (by
    simp only[Kq,Lq,or_false,not_or];exact⟨Z.a1,Z.a5,Z.a6,Z.a7⟩) hTI
   show wpAny _ A.in1 (PF S (·.push (KY h.objs.size))>>=_) _ _ _;refine Kg ?_;refine NH hS' rfl (Ki ⟨Nz Mm _,ih (i+1) _ tk' _ (acc.push (KY h.objs.size)) (ts++[h.objs.size]) (by omega) hlt ?_ (up TI _ (zS TI (by simp)) hTI')
    (D1.frame _ _ _ st1' fun b hb o e=>up b o (fun q=>hS1 (by rw[<-q];exact hb)) e) (D2.frame _ _ _ st2' fun b hb o e=>up b o (fun q=>hS2 (by rw[<-q];exact hb)) e)
    (fun b o h1 h2 e=>up b o h2 (kp b o (sub b h1) (hkeep b o h1 h2 e))) (Ln _ hS' rfl) (by rw[P3,hacc,KU];rfl) (by rw[KP,hal];rfl) ?_ ?_⟩) (by rw[hsz];omega) (by show(acc.push (KY h.objs.size)).size<=Kw+1;rw[Array.size_push,hsz];omega)
   ·rcases hst' with⟨e,_⟩|⟨a,f,oa,hz,ha,hfar,haS⟩
    ·omega
    ·exact .inr ⟨a,f,oa,up _ _ (zS z (by simp)) hz,up _ _ haS ha,hfar,haS⟩
   ·intro j t hj
    rcases P0 j ts.length with c|c|c
    ·rw[MG c]at hj
     obtain⟨hl,x',y',p1,p2,e⟩:=hG j t hj;obtain⟨n1',n2',_,_⟩:=notin t hl;exact⟨hl,x',y',p1,p2,up t _ n2' (kp t _ (sub t n1') e)⟩
    ·subst c
     have hb:h.objs.size=t:=by simpa using hj
     subst hb;rw[hal];exact⟨hls,x,y,px,py,up _ _ (Mz hSl) ht⟩
    ·rw[K6 (by rw[KP,QV];omega)]at hj
     cases hj
   ·have e:(h'.update S (LN (·.push (KY h.objs.size)))).get? h.objs.size=_:=up _ _ (Mz hSl) ht
    exact K4 hls (Lp (Ko e))
  unfold pyNext;refine Kg (Kg (M6 (Lm (name:=Mo "__next__") hT MJ (Lc MJ hT OR ?_ (OE _)))));have hSl:S<h.objs.size:=Ko hSS;rcases hst with⟨_,hz,u,v,hTO⟩|⟨a,f,oa,hz,ha,hfar,haS⟩
  ·refine wC (s:={ s with heap:=h,toks:=tk }) Z D1 D2 hz hTI hTO st1 st2 (by omega) (by omega) fun x y h' tk' px py z1 z2 z3 z4 z5 z6 z7=>Ki ?_
   refine item h' tk' x y px py (.inr ⟨_,false,_,z1,z5,hls,Mz hSl⟩) z3 z4 z5 fun c o hc e=>?_;by_cases q:c=TI
   ·rw[q]at e ⊢
    have:o=_:=KA (e.symm.trans hTI);rw[this];exact z7
   ·refine z6 c o ?_ e
    simp only[Kq,Lq,or_false,not_or]at hc ⊢;exact⟨hc.1,q,hc.2⟩
  ·refine Ec (s:={ s with heap:=h,toks:=tk }) Z D1 D2 hz ha hTI st1 st2 (by omega) (by omega) fun x y h' tk' px py z1 z3 z4 z5 z6=>Ki ?_
   have na:=(notin a hfar).1;refine item h' tk' x y px py (.inr ⟨a,true,oa,z1,z6 a oa ?_ ha,hfar,haS⟩) z3 z4 z5 fun c o hc e=>z6 c o ?_ e
   ·simp only[Kq,Lq,or_false,not_or]at na ⊢
    exact⟨na.1,na.2.2.2.1,na.2.2.2.2⟩
   ·simp only[Kq,Lq,or_false,not_or]at hc ⊢
    exact⟨hc.1,hc.2.2.1,hc.2.2.2⟩
end
end
section
open PySem.Spec
theorem Inv.news{X:Cx}{pins:List (Addr×Obj)}{σ:St}{H H':Hp}{s:Shared}{h':Heap}{t':Nat}(I:Inv X pins σ H s)(k:∀b u,s.heap.get? b=some u->h'.get? b=some u)(hH:∀b,b<s.heap.objs.size->H' b=H b)
  (new:∀a o,s.heap.objs.size<=a->H' a=some o->bE X.prog X.w H' h' a o):Inv X pins σ H' { s with heap:=h',toks:=t' }:=by
 have same:∀b o,H b=some o->H' b=some o:=fun b o e=>(hH b (I.hok.lt e)).trans e;refine I.un ⟨fun b o q _ _ _=>k b o q,fun b o q _ _ _=>⟨o.slots,k b o q⟩,fun b o q n _=>(hH b (Ko q)).trans n,fun b o q _=>⟨o,k b o q⟩,fun b xs e=>same b _ e,fun b o u e=>same b _ e,fun b ps e=>⟨#[],by rw[same b _ e];simp⟩⟩ fun a o e=>?_;by_cases c:a<s.heap.objs.size
 ·rw[hH a c]at e
  exact(I.hok a o e).stay (fun b u _ q=>k b u q) (fun b q=>same b _ q) fun b xs q=>same b _ q
 ·exact new a o (P7.mp c) e
theorem FJ{prog:Program}{w:World}{A:Around}{E:Value->Shared->Prop}{s:Shared}{z:Addr}{Q:Bool->Shared->Prop}(hT:s.TypeIs (.ref z) "zip")(h:Q true s):wpAny (model prog w) A (MX (.ref z)) Q E s:=by
 unfold MX;refine Kg (LY hT (show Q6 (.type "zip") "__len__"=pure none by rw[Pe,NW];kernel_rfl) ?_);show wpAny _ _ (specialOf (KY z) (Mo "__length_hint__")>>=_) _ _ _;refine Kg (LY hT (show Q6 (.type "zip") "__length_hint__"=pure none by rw[Pe,NW];kernel_rfl) ?_);exact Ki h
section
variable{prog:Program}{w:World}{A:Around}{E:Value->Shared->Prop}{s:Shared}
theorem BX{z TI TO j1 j2 S:Addr}{fp1 fp2:List Addr}{n1 n2:Nat}{P1 P2:Nat->Value->Prop}{S1 S2:Nat->Heap->Prop}{R:Result->Shared->Prop}(hh:A.handled=none)(Z:jo z TI TO j1 j2 fp1 fp2)
  (D1:Draws prog w A.in1.in1 j1 fp1 n1 P1 S1) (D2:Draws prog w A.in1.in1 j2 fp2 n2 P2 S2) (hn:min n1 n2<=Kw) (hS:S∉[z,TI,TO,j1,j2]) (hS1:S∉fp1) (hS2:S∉fp2) (hlo:∀c∈[z,TI,TO,j1,j2,S],c<s.heap.objs.size) (hlo1:∀c∈fp1,c<s.heap.objs.size) (hlo2:∀c∈fp2,c<s.heap.objs.size)
  (hz:IsZip s.heap z TI TO .none) {u v:Value} (hTO:IsPair s.heap TO u v) (hTI:IsPair s.heap TI (.ref j1) (.ref j2)) (st1:S1 0 s.heap) (st2:S2 0 s.heap) {c₀:Nat} (hSS:s.heap.get? S=some { cls:=.type "list",data:=.seq #[] c₀ })
  (hR:∀h' tk acc c ts,(∀b o,b∉[z,TI,TO,j1,j2]->b≠S->s.heap.get? b=some o->h'.get? b=some o)->h'.get? S=some { cls:=.type "list",dict:=none,data:=.seq acc c,slots:=#[] }->ts.length=min n1 n2->ZTs P1 P2 s.heap.objs.size h' ts->
   acc.toList=ts.map KY->R (.ok (.ret .none)) { s with heap:=h',toks:=tk }):
  wpAny (model prog w) A.in1 (LS (.ref S) (.ref z) .none)
   (fun fin s'=>match fin with | .done f=>R (.ok f) s' | .again c'=>c'.quiet=true/\codeAny (model prog w) A c' R s') (fun e s'=>R (.error e) s') s:=by
 have zS:∀c∈[z,TI,TO,j1,j2],c≠S:=fun c hc e=>hS (by rw[<-e];exact hc);have hT:s.TypeIs (.ref z) "zip":=⟨_,hz,rfl⟩;unfold LS;refine Kg (Qf (T:="zip") hT ?_);have h1:Nt (.ref S) (.ref z)=false:=by simp[Nt,(zS z (by simp)).symm]
 have h2:(LF "zip"==LF "list")=false:=by decide
 have h3:(LF "zip"==LF "tuple")=false:=by decide
 simp only[h1,h2,h3,Bool.or_false,LC,if_false];refine Kg (Qh hz ?_);refine Kg (LH (FJ hT ?_));rw[if_pos (by simp)];refine Kg (MB ?_);refine Kg ?_;show wpAny _ _ (PF S (·.push .none)>>=fun _=>PF S (·.pop)) _ _ _;refine Kg (NH hSS rfl ?_);have hS₂:=Ln (LN (·.push LL)) hSS rfl;refine NH (hz:=by seq_fits) hS₂ rfl ?_;have hS₃:=Ln (LN (·.pop)) hS₂ rfl;have oth:∀b o,b≠S->s.heap.get? b=some o->((s.heap.update S (LN (·.push LL))).update S (LN (·.pop))).get? b=some o:=fun b o hb e=>
  (L3 _ _ (LK hb)).trans ((L3 _ _ (LK hb)).trans e)
 refine Ki ⟨Nz Mm _,FI (s:=s) (lo:=s.heap.objs.size) (h₁:=s.heap) hh Z D1 D2 hn hS hS1 hS2 hlo hlo1 hlo2 .none hR (min n1 n2) 0 _ _ _ #[] [] (Nat.sub_zero _) (Lk _) (.inl ⟨rfl,oth z _ (zS z (by simp)) hz,u,v,oth TO _ (zS TO (by simp)) hTO⟩) (oth TI _ (zS TI (by simp)) hTI)
  (D1.frame _ _ _ st1 fun b hb o e=>oth b o (fun q=>hS1 (by rw[<-q];exact hb)) e) (D2.frame _ _ _ st2 fun b hb o e=>oth b o (fun q=>hS2 (by rw[<-q];exact hb)) e) (fun b o _ hb e=>oth b o hb e) hS₃ rfl rfl (fun j t hj=>by simp at hj) ?_⟩
 rw[Qp,Qp];exact Km _
theorem FK{z TI TO j1 j2:Addr}{fp1 fp2:List Addr}{n1 n2:Nat}{P1 P2:Nat->Value->Prop}{S1 S2:Nat->Heap->Prop}{Q:Value->Shared->Prop}(hh:A.handled=none)(Z:jo z TI TO j1 j2 fp1 fp2)
  (D1:∀A':Around,A'.handled=none->Draws prog w A' j1 fp1 n1 P1 S1) (D2:∀A':Around,A'.handled=none->Draws prog w A' j2 fp2 n2 P2 S2) (hn:min n1 n2<=Kw) (hlo:∀c∈[z,TI,TO,j1,j2],c<s.heap.objs.size) (hlo1:∀c∈fp1,c<s.heap.objs.size) (hlo2:∀c∈fp2,c<s.heap.objs.size)
  (hz:IsZip s.heap z TI TO .none) {u v:Value} (hTO:IsPair s.heap TO u v) (hTI:IsPair s.heap TI (.ref j1) (.ref j2)) (st1:S1 0 s.heap) (st2:S2 0 s.heap)
  (hQ:∀h' tk acc c ts,(∀b o,b∉[z,TI,TO,j1,j2]->s.heap.get? b=some o->h'.get? b=some o)->h'.get? s.heap.objs.size=some { cls:=.type "list",dict:=none,data:=.seq acc c,slots:=#[] }->ts.length=min n1 n2->ZTs P1 P2 (s.heap.objs.size+1) h' ts->
   acc.toList=ts.map KY->Q (.ref s.heap.objs.size) { s with heap:=h',toks:=tk }):
  wpAny (model prog w) A (call (.type "list") [.ref z]) Q E s:=by
 refine callType_codes (Q₁:=fun obj s₁=>obj=.ref s.heap.objs.size/\s₁={ s with heap:=s.heap.push { cls:=.type "list",data:=.seq #[] } }) PySem.F.called_list (PySem.F.typeCall_list_1 _) PySem.F.entry_list_init
  (code_list_new _ ⟨rfl,rfl⟩) fun obj s₁ h₁=>?_
 obtain⟨rfl,rfl⟩:=h₁;have hS:(s.heap.push { cls:=.type "list",data:=.seq #[] }).get? s.heap.objs.size=some { cls:=.type "list",data:=.seq #[] }:=Kt _ rfl;refine⟨⟨_,hS,rfl⟩,PySem.F.args_list_init_2 _ _,?_⟩;show wpAny _ _ (do let old <-QT (.ref s.heap.objs.size);Qx (.ref s.heap.objs.size) (fun _=>#[]);letGo old.toList.reverse;LS (.ref s.heap.objs.size) (.ref z) .none) _ _ _;refine Kg ?_;unfold QT;refine Kg (LG hS rfl (Ki ?_));show wpAny _ _ (PF s.heap.objs.size (fun _=>#[])>>=fun _=>letGo (#[]:Array Value).toList.reverse>>=fun _=>LS (.ref s.heap.objs.size) (.ref z) .none) _ _ _;refine Kg (NH hS rfl ?_);have hS₂:=Ln (LN (fun _=>(#[]:Array Value))) hS rfl;have oth:∀b o,b≠s.heap.objs.size->(s.heap.push { cls:=.type "list",data:=.seq #[] }).get? b=some o->((s.heap.push { cls:=.type "list",data:=.seq #[] }).update s.heap.objs.size (LN (fun _=>(#[]:Array Value)))).get? b=some o:=
  fun b o hb e=>(L3 _ _ (LK hb)).trans e
 have oth':∀b o,s.heap.get? b=some o->((s.heap.push { cls:=.type "list",data:=.seq #[] }).update s.heap.objs.size (LN (fun _=>(#[]:Array Value)))).get? b=some o:=fun b o e=>oth b o (K3 (Ko e)) (Kh _ e);have sz:((s.heap.push { cls:=.type "list",data:=.seq #[] }).update s.heap.objs.size (LN (fun _=>(#[]:Array Value)))).objs.size=s.heap.objs.size+1:=by rw[Qp,K9]
 refine Kg (QQ ?_);refine BX (A:=A.in1) hh Z (D1 _ hh) (D2 _ hh) hn (fun hm=>Lz _ (hlo _ hm)) (fun hm=>Lz _ (hlo1 _ hm)) (fun hm=>Lz _ (hlo2 _ hm)) (fun c hc=>?_) (fun c hc=>?_) (fun c hc=>?_) (oth' _ _ hz) (oth' _ _ hTO) (oth' _ _ hTI)
  ((D1 _ hh).frame _ _ _ st1 fun b _ o e=>oth' b o e) ((D2 _ hh).frame _ _ _ st2 fun b _ o e=>oth' b o e) hS₂ (fun h' tk acc c ts hk hS' hl hG hacc=>?_)
 ·show c<((s.heap.push { cls:=.type "list",data:=.seq #[] }).update s.heap.objs.size (LN (fun _=>(#[]:Array Value)))).objs.size
  rw[sz];rcases Lf.mp (show c∈[z,TI,TO,j1,j2]++[s.heap.objs.size]from hc)with hc|hc
  ·exact LU (hlo c hc)
  ·rw[Kr.mp hc];exact L0 _
 ·show c<((s.heap.push { cls:=.type "list",data:=.seq #[] }).update s.heap.objs.size (LN (fun _=>(#[]:Array Value)))).objs.size
  rw[sz];exact LU (hlo1 c hc)
 ·show c<((s.heap.push { cls:=.type "list",data:=.seq #[] }).update s.heap.objs.size (LN (fun _=>(#[]:Array Value)))).objs.size
  rw[sz];exact LU (hlo2 c hc)
 ·have hG':ZTs P1 P2 (s.heap.objs.size+1) h' ts:=by rw[<-sz];exact hG
  exact⟨rfl,hQ h' tk acc c ts (fun b o hb e=>hk b o hb (K3 (Ko e)) (oth' b o e)) hS' hl hG' hacc⟩
end
section
variable{X:Cx}
theorem Hz{h:Heap}{us vs:List Value}{xs ys:List V}{lo:Addr}{ts:List Addr}(ru:aG xs us)(rv:aG ys vs)(hl:ts.length=min us.length vs.length)(G:ZTs (fun i v=>us.toArray[i]?=some v) (fun i v=>vs.toArray[i]?=some v) lo h ts):
  ∀(i:Nat)(t:Addr),ts[i]?=some t->lo<=t/\∃x y u v,xs[i]?=some x/\ys[i]?=some y/\aI x u/\aI y v/\IsPair h t u v:=fun i t ht=>by
 obtain⟨h1,u,v,p1,p2,e⟩:=G i t ht;have hi:i<ts.length:=(Kn.mp ht).1;have l1:=ru.length;have l2:=rv.length;obtain⟨x,hx⟩:∃x,xs[i]?=some x:=⟨_,Kj (by omega)⟩;obtain⟨y,hy⟩:∃y,ys[i]?=some y:=⟨_,Kj (by omega)⟩;obtain⟨u',hu',ru'⟩:=ru.get hx;obtain⟨v',hv',rv'⟩:=rv.get hy;have eu:u=u':=by
  have:us.toArray[i]?=some u':=by simpa using hu'
  rw[this]at p1;exact(KA p1).symm
 have ev:v=v':=by
  have:vs.toArray[i]?=some v':=by simpa using hv'
  rw[this]at p2;exact(KA p2).symm
 subst eu ev;exact⟨h1,x,y,u,v,hx,hy,ru',rv',e⟩
theorem zl{x y:V}{u:Value}(a:aI x u)(b:aI y u):x=y:=by
 cases x<;>cases y<;>simp only[aI]at a b<;>first
  |rfl
  | (subst a;cases b;rfl)
  | (subst a;cases b;done)
  | (obtain⟨t,rfl⟩:=a;obtain⟨t',e⟩:=b;cases e;rfl)
  | (obtain⟨t,rfl⟩:=a;obtain⟨t',e⟩:=b;cases e;done)
  | (obtain⟨t,rfl⟩:=a;cases b;done)
  | (subst a;obtain⟨t',e⟩:=b;cases e;done)
theorem HH(S1 S2:Src){a b:Expr}{ta:TA}{p pos p2 pos2:Pos}(hc:X.calm=true)(hgl:Gl X "list")(hml:X.mg "list"=none)(hg:Gl X "zip")(hm:X.mg "zip"=none)(ha:PA X [a,b] ta)
  (hs:KC [a,b] X.env=[(false,eval a X.env),(false,eval b X.env)]:=by rfl) (hs2:KC [b] X.env=[(false,eval b X.env)]:=by rfl)
  (hs3:KC [.Call (.Name "zip" p2) [a,b] [] pos2] X.env=[(false,eval (.Call (.Name "zip" p2) [a,b] [] pos2) X.env)]:=by rfl):
  PE X (.Call (.Name "list" p) [.Call (.Name "zip" p2) [a,b] [] pos2] [] pos) (Bz S1 S2 X.K ta):=by
 intro pins s σ H Q I h;refine ME (ip I hgl hml NZ (LQ ?_ hs3 rfl));rw[hs3];show wpAny _ _ (spliced [(false,eval (.Call (.Name "zip" p2) [a,b] [] pos2) X.env)]) _ _ s;refine Pt ?_;refine Call_ (ip I hg hm boot_zip (LQ (thn (ha pos2 pins s σ H _ I h) fun us s1 ⟨vs,H1,I1,r1,q1⟩=>?_) (by rw[hs,hs2]) (by rw[hs2];rfl)));obtain⟨l1,l2,xs,ys,e,hq1,hq2,hxl,q⟩:=q1;subst e;obtain⟨u,v,rfl,ru,rv⟩:=r1.two;cases ru;cases rv;obtain⟨us1,rv1,p1,_⟩:=S1.get I1 hq1;obtain⟨us2,rv2,p2',_⟩:=S2.get I1 hq2;refine RO F.called_zip (by decide) (SE _ _) (S5 _ _) (fun obj=>Ra obj _ _) S6 (At S1 S2 l1 l2 us1.toArray us2.toArray) ⟨p1,p2',?_⟩;generalize hn:s1.heap.objs.size=n;have z1:(zh1 S1 s1.heap l1).objs.size=n+1:=by rw[K9,hn]
 have z2:(zh2 S1 S2 s1.heap l1 l2).objs.size=n+2:=by rw[K9,z1]
 have z3:(zh3 S1 S2 s1.heap l1 l2).objs.size=n+3:=by rw[K9,z2]
 have z4:(zh4 S1 S2 s1.heap l1 l2).objs.size=n+4:=by rw[K9,z3]
 have z5:(zh5 S1 S2 s1.heap l1 l2).objs.size=n+5:=by rw[K9,z4]
 have g5:(zh5 S1 S2 s1.heap l1 l2).get? (zh4 S1 S2 s1.heap l1 l2).objs.size=some _:=Kt _ rfl;have g4:(zh5 S1 S2 s1.heap l1 l2).get? (zh3 S1 S2 s1.heap l1 l2).objs.size=some _:=Kh _ (Kt _ rfl);have g3:(zh5 S1 S2 s1.heap l1 l2).get? (zh2 S1 S2 s1.heap l1 l2).objs.size=some _:=Kh _ (Kh _ (Kt _ rfl));have g2:(zh5 S1 S2 s1.heap l1 l2).get? (zh1 S1 s1.heap l1).objs.size=some _:=Kh _ (Kh _ (Kh _ (Kt _ rfl)));have g1:(zh5 S1 S2 s1.heap l1 l2).get? s1.heap.objs.size=some _:=Kh _ (Kh _ (Kh _ (Kh _ (Kt _ rfl))));have kp:∀c o,s1.heap.get? c=some o->(zh5 S1 S2 s1.heap l1 l2).get? c=some o:=fun c o e=>
  Kh _ (Kh _ (Kh _ (Kh _ (Kh _ e))))
 show _/\_;rw[z2,z3,z4]at g5;rw[z1,z2,hn]at g3;rw[z3]at g4;rw[z1]at g2;rw[hn]at g1;rw[z4];refine⟨⟨_,g5,rfl⟩,PV ?_⟩;have lt1:l1<n:=by
  obtain⟨o,_,ho,_⟩:=S1.isSeq p1;rw[<-hn];exact Ko ho
 have lt2:l2<n:=by
  obtain⟨o,_,ho,_⟩:=S2.isSeq p2';rw[<-hn];exact Ko ho
 have five:∀c:Nat,c∈[n+4,n+2,n+3,n,n+1]->n<=c/\c<n+5:=fun c hc=>by
  simp only[Kq,Lq,or_false]at hc;omega
 have nel:∀l c:Nat,l<n->n<=c->c≠l:=fun l c h1 h2=>by omega
 have Z:jo (n+4) (n+2) (n+3) n (n+1) [n,l1] [n+1,l2]:=zap (by simp) (fun c hc=>nel l1 c lt1 (five c hc).1) (fun c hc=>nel l2 c lt2 (five c hc).1);have is1:S1.Is (zh5 S1 S2 s1.heap l1 l2) l1 us1.toArray:=S1.isKeep p1 fun o e=>kp _ _ e;have is2:S2.Is (zh5 S1 S2 s1.heap l1 l2) l2 us2.toArray:=S2.isKeep p2' fun o e=>kp _ _ e;refine FK (s:={ s1 with heap:=zh5 S1 S2 s1.heap l1 l2 }) (n1:=us1.toArray.size) (n2:=us2.toArray.size) (I1.ok.hd hc) Z (fun A' hA=>S1.draws hA n l1 (nel l1 n lt1 (Km _)).symm us1.toArray) (fun A' hA=>S2.draws hA (n+1) l2 (nel l2 (n+1) lt2 (Ng _)).symm us2.toArray) ?_ ?_ ?_ ?_ g5 g4 g3 ⟨S1.mkI g1 rfl rfl,is1⟩ ⟨S2.mkI g2 rfl rfl,is2⟩ ?_
 ·have:=rv1.length
  simp only[KH];rw[Kl];omega
 ·intro c hc
  show c<(zh5 S1 S2 s1.heap l1 l2).objs.size;rw[z5];exact(five c hc).2
 ·intro c hc
  show c<(zh5 S1 S2 s1.heap l1 l2).objs.size;rw[z5];rcases Kq.mp hc with rfl|hc
  ·exact Nat.lt_add_of_pos_right (by decide)
  ·rw[Kr.mp hc];exact KI lt1 (Mc _ _)
 ·intro c hc
  show c<(zh5 S1 S2 s1.heap l1 l2).objs.size;rw[z5];rcases Kq.mp hc with rfl|hc
  ·exact Nat.add_lt_add_left (by decide) n
  ·rw[Kr.mp hc];exact KI lt2 (Mc _ _)
 intro h' tk acc c ts hk hS' hl hG hacc;have hS'':h'.get? (n+5)=some { cls:=.type "list",dict:=none,data:=.seq acc c,slots:=#[] }:=by rw[<-z5];exact hS'
 have hG':ZTs (fun i v=>us1.toArray[i]?=some v) (fun i v=>us2.toArray[i]?=some v) (n+5+1) h' ts:=by rw[<-z5];exact hG
 have hl':ts.length=min us1.length us2.length:=by simpa using hl
 have G:=Hz rv1 rv2 hl' hG';have old:∀b o,s1.heap.get? b=some o->h'.get? b=some o:=fun b o e=>hk b o (fun hm=>by
  have:=Ko e;rw[hn]at this;exact absurd (five b hm).1 (Pf.mpr this)) (kp b o e)
 have l1':=rv1.length;have l2':=rv2.length
 let H':Hp:=fun b=>if b=n+5 then some (.lst (ts.map V.ref))else match ts.findIdx? (· ==b)with
  |some i=>(match xs[i]?,ys[i]? with|some x,some y=>some (.tup [x,y])|_,_=>H1 b)
  |none=>H1 b
 have big:∀(i:Nat)(t:Addr),ts[i]?=some t->n+6<=t:=fun i t ht=>(G i t ht).1;have Hts:∀(i:Nat)(t:Addr),ts[i]?=some t->∃x y u v,H' t=some (.tup [x,y])/\xs[i]?=some x/\ys[i]?=some y/\aI x u/\aI y v/\IsPair h' t u v:=by
  intro i t ht;obtain⟨hlo,x,y,u,v,hx,hy,rx,ry,e⟩:=G i t ht;refine⟨x,y,u,v,?_,hx,hy,rx,ry,e⟩;have net:t≠n+5:=fun q=>by rw[q]at hlo;exact absurd hlo (Pf.mpr (L0 _))
  show(if t=n+5 then _ else _)=_;rw[if_neg net];cases hf:ts.findIdx? (· ==t)with
  |none=>
   have:=Og.mp hf t (Ky ht);simp at this
  |some i0=>
   obtain⟨h0,h1,_⟩:=MA.mp hf;have ht0:ts[i0]?=some t:=by rw[Kj h0];congr 1;exact eq_of_beq h1
   obtain⟨_,x0,y0,u0,v0,hx0,hy0,rx0,ry0,e0⟩:=G i0 t ht0;have eq:=KA (e0.symm.trans e);have eu:u0=u/\v0=v:=by
    injection eq with _ _ eq
    injection eq with eq _
    simp at eq;exact eq
   rw[eu.1]at rx0;rw[eu.2]at ry0;simp only[hx0,hy0];rw[zl rx0 rx,zl ry0 ry]
 have hH:∀b,b<s1.heap.objs.size->H' b=H1 b:=by
  intro b hb;rw[hn]at hb;have ne5:b≠n+5:=fun q=>by rw[q]at hb;exact absurd hb (P7.mpr (Mc _ _))
  show(if b=n+5 then _ else _)=_;rw[if_neg ne5];cases hf:ts.findIdx? (· ==b)with
  |none=>rfl
  |some i0=>
   obtain⟨h0,h1,_⟩:=MA.mp hf;have ht0:ts[i0]?=some b:=by rw[Kj h0];congr 1;exact eq_of_beq h1
   have:=big i0 b ht0;exact absurd (KI hb (K4 (Mc _ _) this)) (Lz _)
 have e5:H' (n+5)=some (.lst (ts.map V.ref)):=if_pos rfl;have hvals:aG (ts.map V.ref) acc.toList:=by
  have go:∀l:List Addr,aG (l.map V.ref) (l.map KY):=fun l=>by
   induction l with
   |nil=>exact .nil
   |cons t r ih=>exact .cons rfl ih
  rw[hacc];exact go ts
 have I2:Inv X pins σ H' { s1 with heap:=h',toks:=tk }:=I1.news old hH fun a o ha eo=>by
  by_cases c5:a=n+5
  ·subst c5
   rw[e5]at eo;cases eo;refine⟨?_,acc.toList,c,hvals,by simpa using hS''⟩;rw[Kk,hl',Kl];omega
  ·have eo':(match ts.findIdx? (· ==a)with
    |some i=>(match xs[i]?,ys[i]? with|some x,some y=>some (HO.tup [x,y])|_,_=>H1 a)
    |none=>H1 a)=some o:=by
    have:H' a=some o:=eo;rw[show H' a=(if a=n+5 then some (.lst (ts.map V.ref))else match ts.findIdx? (· ==a)with
     |some i=>(match xs[i]?,ys[i]? with|some x,some y=>some (.tup [x,y])|_,_=>H1 a)
     |none=>H1 a)from rfl,if_neg c5]at this
    exact this
   have hfr:H1 a=none:=I1.hok.fresh ha;cases hf:ts.findIdx? (· ==a)with
   |none=>rw[hf]at eo';rw[show H1 a=some o from eo']at hfr;cases hfr
   |some i0=>
    obtain⟨h0,h1,_⟩:=MA.mp hf;have ht0:ts[i0]?=some a:=by rw[Kj h0];congr 1;exact eq_of_beq h1
    obtain⟨_,x0,y0,u0,v0,hx0,hy0,rx0,ry0,e0⟩:=G i0 a ht0;rw[hf]at eo';simp only[hx0,hy0]at eo';cases eo';exact⟨(by show 2<=Kw;decide),[u0,v0],.cons rx0 (.cons ry0 .nil),_,e0,rfl,⟨0,rfl⟩,rfl⟩
 have hp5:H1 (n+5)=none:=I1.hok.fresh (by rw[hn];exact Mc _ _);have hsame:ap H1 H':=fun b o eb=>by
  rw[hH b (I1.hok.lt eb)];exact eb
 show∃v H',_/\_/\_;refine⟨.ref (n+5),H',I2,by rw[<-z5];rfl,q _ _ hp5 hsame ⟨ts,e5,?_⟩⟩;have go:∀(l:List Addr)(m:List (V×V)),l.length=m.length->(∀(i:Nat)(t:Addr)(pq:V×V),l[i]?=some t->m[i]?=some pq->H' t=some (.tup [pq.1,pq.2]))->qI H' l m:=by
  intro l
  induction l with
  |nil=>intro m hl _;cases m with
   |nil=>exact .nil
   |cons _ _=>simp at hl
  |cons t r ih=>intro m hl hh;cases m with
   |nil=>simp at hl
   |cons pq m=>exact .cons (hh 0 t pq rfl rfl) (ih m (by simpa using hl) fun i t pq h1 h2=>hh (i+1) t pq h1 h2)
 refine go _ _ (by rw[Of];omega) fun i t pq ht hpq=>?_;obtain⟨x,y,u,v,e,hx,hy,_⟩:=Hts i t ht;rw[e];have:(xs.zip ys)[i]?=some (x,y):=by rw[Nc];exact⟨hx,hy⟩
 rw[this]at hpq;cases hpq;rfl
end
end
section
variable{g:CF TG}{tt:CF TT}{te:CF TE}{σ₀:St}{Q:VK}{H:Hp}{K:Fg}
end
section
open PySem.Spec
section
variable{prog:Program}{w:World}{A:Around}{E:Value->Shared->Prop}{s:Shared}
end
section
variable{X:Cx}{tg:Expr}
end
end
section
open PySem.Spec
theorem BY{M:Model}{A:Around}{E:Value->Shared->Prop}{s:Shared}{scope:Scope}{globals:Addr}{cl:List (Str×Addr)}{qual:Str}{func:Option Addr}{code:Value}{outer:Env}{builtins:Addr}{x:Str}{Q:Env->Shared->Prop}
  (hown:∀n acc,QD n scope.names acc=(x,n)::acc) (hpush:∀h:Heap,pushCells h scope.names=h.push { cls:=.type "cell",data:=.cell none })
  (hQ:Q (newEnv scope s.heap.objs.size globals ((x,s.heap.objs.size+1)::cl) qual func code (some outer) builtins) { s with heap:=(s.heap.push { cls:=.type "dict",data:=.dict #[] }).push { cls:=.type "cell",data:=.cell none } }):
  wpAny M A (Pk scope globals cl [] qual func code (some outer) builtins) Q E s:=by
 simp only[Pk,RU,if_true];refine Kg (wpAny_alloc ?_);refine Kg (wpAny_layCells _ (fun name kind cells=>by cases hkc:kind==N5<;>simp[hkc]) _ _ _ _ ?_);rw[hown,hpush];rw[show({ s with heap:=s.heap.push { cls:=.type "dict",data:=.dict #[] } }:Shared).heap.objs.size=s.heap.objs.size+1 from K9 ..];rw[Ow];exact Kg (Ki (Ki hQ))
structure uR(sc scope:Scope)(NX N:List Str)(ix:List (Option Nat))(x:Str):Prop where
 kind:scope.kind=.function
 own:∀y∈scope.names,y.2=.cell->y.1=x
 ownx:scope.names.lookup x=some .cell
 cells:∀n acc,QD n scope.names acc=(x,n)::acc
 push:∀h:Heap,pushCells h scope.names=h.push { cls:=.type "cell",data:=.cell none }
 names:∀y∈scope.names,y.2=.local->scope.names.lookup y.1=some .local
 free:∀y∈scope.names,y.2=.free->y.1≠x/\(sc.names.lookup y.1=some .cell\/sc.names.lookup y.1=some .free)
 nd:N.Nodup
 len:ix.length=N.length
 at_:∀p∈N.zip ix,∀i∈p.2,NX[i]?=some p.1/\scope.names.lookup p.1=some .free
noncomputable def cm(X:Cx)(N:List Str)(scope:Scope)(x:Str)(C:Addr)(s:Shared)(H:Hp)(fp:List Addr):Cx where
 prog:=X.prog
 w:=X.w
 K:=X.K
 mg:=X.mg
 base:=X.base
 A:=X.A
 N:=N
 s₀:=s
 H₀:=H
 env:=OQ scope ((x,C+1)::cQ X.env scope.names []) C X.env
 outer:=X.stack
 stack:=X.stack
 ex:=fp
 fn:=fun y=>decide (y=x)
 calm:=X.calm
 pn:=[]
 xe:=fun _ _=>False
theorem Jp{X:Cx}{N:List Str}{scope:Scope}{x:Str}{C:Addr}{s:Shared}{H:Hp}{fp:List Addr}:(cm X N scope x C s H fp).fn x=true:=by
 show decide (x=x)=true;simp
theorem j7{x y:Str}{c d:Addr}{l:List (Str×Addr)}(h:((x,d)::l).lookup y=some c):(y=x/\c=d)\/(y≠x/\l.lookup y=some c):=by
 rw[Ld]at h;cases e:y==x with
 |true=>rw[e]at h;cases h;exact .inl ⟨eq_of_beq e,rfl⟩
 |false=>
  rw[e]at h;refine .inr ⟨fun z=>?_,h⟩;rw[z,beq_self_eq_true]at e;cases e
theorem HS{x:Str}{d:Addr}{l:List (Str×Addr)}:((x,d)::l).lookup x=some d:=by rw[Ld,beq_self_eq_true]
theorem wY{x y:Str}{d c:Addr}{l:List (Str×Addr)}(n:y≠x)(h:l.lookup y=some c):((x,d)::l).lookup y=some c:=by
 rw[Ld,beq_eq_false_iff_ne.mpr n];exact h
section
variable{X:Cx}{elt tg iter:Expr}{ifs:List Expr}{scope sc:Scope}{pos:Pos}{NX N:List Str}{ix:List (Option Nat)}{own:Str}{wi:TI}{g:CF TG}{tt:CF TT}{te:CF TE}
theorem zZ{pins:List (Addr×Obj)}{σ:St}{H:Hp}{s:Shared}{fp:List Addr}{it:Addr}{J:It}{tn:Nat->Heap->Prop}{Q:VK}{E:Value->Shared->Prop}{RR:Value->Addr->Result->Shared->Prop}
  (hc:X.calm=true) (hsc:X.env.scope=sc) (hNX:X.N=NX) (S:uR sc scope NX N ix own)
  (hg:∀C s H fp,PG (cm X N scope own C s H fp) tg (g C s H fp)) (ht:∀C s H fp,PTL (cm X N scope own C s H fp) ifs (tt C s H fp)) (he:∀C s H fp,PE (cm X N scope own C s H fp) elt (te C s H fp))
  (I:Inv X pins σ H s) (T:pE X.prog X.w X.K tg J fp it tn) (st:tn 0 s.heap) (hf:∀b∈fp,jl X pins H b)
  (hq:∀p,H p=none->∃W:Nat->Nat->List V->Hp->Prop,(∃m,W 0 m [] (upd H p (.lst [])))/\∀C s' H' fp,cB J (g C s' H' fp) (tt C s' H' fp) (te C s' H' fp) (sub ix σ) p Q W)
  (hR:∀p C s' H' m,s.heap.objs.size<=p->s.heap.objs.size<=C->s'.heap.Ns C m->H' C=none->Q (.ref p) H'->Inv X pins σ H' s'->RR (.ref p) C (.ok .next) s'):
  wpAny (model X.prog X.w) X.A (newList []) (fun acc s₃=>wpAny (model X.prog X.w) X.A (Pk scope X.env.globals (cQ X.env scope.names []) [] X.env.qual none .none (some X.env)) (fun cenv s₄=>
   codeAny (model X.prog X.w) X.A (.compStart (.ListComp elt [⟨tg,iter,ifs,0⟩] scope pos) 0 (.ref it) acc { cenv with scope:=relabel scope X.env }) (RR acc cenv.locals) s₄) E s₃) E s:=by
 refine Lu (BY S.cells S.push ?_);dsimp only;have hsz:(s.heap.push { cls:=.type "list",dict:=none,data:=.seq ([]:List Value).toArray }).objs.size=s.heap.objs.size+1:=K9 ..;have hns₀:=Heap.Ns.new (s.heap.push { cls:=.type "list",dict:=none,data:=.seq ([]:List Value).toArray }) (.type "dict");have hsz₂:((s.heap.push { cls:=.type "list",dict:=none,data:=.seq ([]:List Value).toArray }).push { cls:=.type "dict",data:=.dict #[] }).objs.size=s.heap.objs.size+2:=by rw[K9,K9]
 have keep₁:∀b o,s.heap.get? b=some o->(((s.heap.push { cls:=.type "list",dict:=none,data:=.seq ([]:List Value).toArray }).push { cls:=.type "dict",data:=.dict #[] }).push { cls:=.type "cell",data:=.cell none }).get? b=some o:=fun b o e=>Kh _ (Kh _ (Kh _ e));have lst₁:(((s.heap.push { cls:=.type "list",dict:=none,data:=.seq ([]:List Value).toArray }).push { cls:=.type "dict",data:=.dict #[] }).push { cls:=.type "cell",data:=.cell none }).get? s.heap.objs.size=some { cls:=.type "list",data:=.seq ([]:List Value).toArray }:=Kh _ (Kh _ (Kt _ rfl));have cel₁:(((s.heap.push { cls:=.type "list",dict:=none,data:=.seq ([]:List Value).toArray }).push { cls:=.type "dict",data:=.dict #[] }).push { cls:=.type "cell",data:=.cell none }).IsCell (s.heap.objs.size+2) none:=⟨_,by rw[<-hsz₂];exact Kt _ rfl,rfl⟩;have hns₁:=hns₀.keeps (h':=((s.heap.push { cls:=.type "list",dict:=none,data:=.seq ([]:List Value).toArray }).push { cls:=.type "dict",data:=.dict #[] }).push { cls:=.type "cell",data:=.cell none }) (fun b o e=>Kh _ e);generalize ((s.heap.push { cls:=.type "list",dict:=none,data:=.seq ([]:List Value).toArray }).push { cls:=.type "dict",data:=.dict #[] }).push { cls:=.type "cell",data:=.cell none }=h₁ at hns₁ keep₁ lst₁ cel₁ ⊢;generalize hC:(s.heap.push { cls:=.type "list",dict:=none,data:=.seq ([]:List Value).toArray }).objs.size=C at hns₁ ⊢;rw[hsz]at hC;generalize hp:s.heap.objs.size=p at hC;have pC:p≠C:=by omega
 have old:∀b o,s.heap.get? b=some o->h₁.get? b=some o:=keep₁;have hnew:h₁.get? p=some { cls:=.type "list",data:=.seq ([]:List Value).toArray }:=by rw[<-hp];exact lst₁
 have cel:h₁.IsCell (C+1) none:=by
  have e:C+1=s.heap.objs.size+2:=by omega
  rw[e];exact cel₁
 have hfO:H (C+1)=none:=I.hok.fresh (by omega);have hfp:H p=none:=I.hok.fresh (by omega);have hfC:H C=none:=I.hok.fresh (by omega);have lt:∀b∈fp,b<p:=fun b hb=>by
  obtain⟨o,e,_⟩:=T.obj 0 _ st b hb;rw[<-hp];exact Ko e
 have hcells:∀y∈scope.names,y.2=.free->∃c,X.env.cells.lookup y.1=some c:=fun y hy hk=>by
  refine I.ok.has y.1 ?_;show X.env.scope.names.lookup y.1=some .cell\/X.env.scope.names.lookup y.1=some .free;rw[hsc];exact(S.free y hy hk).2
 have noown:∀x,scope.names.lookup x=some .cell->x=own:=fun x e=>S.own _ (Lb e) rfl;have low:∀{x:Str} {c:Addr},(cQ X.env scope.names []).lookup x=some c->c<p:=fun{x c} e=>by
  obtain⟨v,o,ho,_⟩:=I.cell x c (b7 e);rw[<-hp];exact Ko ho
 have hok:(cm X N scope own C s H fp).Ok:=by
  refine⟨I.ok.mod,S.kind,I.ok.glob,I.ok.blt,by show s.heap.objs.size<=C;omega,fun x y c h1 h2=>?_,fun x hx=>?_,fun x c z hc'=>?_,I.ok.hd,I.ok.frames,.inl rfl,fun b hb=>?_,I.bs,K4 I.ok.bsz I.sz,fun b o e hb=>?_,fun b hb z=>?_,I.stack,I.stkFree⟩
  ·rcases j7 h1 with⟨e1,z1⟩|⟨_,h1⟩<;>rcases j7 h2 with⟨e2,z2⟩|⟨_,h2⟩
   ·rw[e1,e2]
   ·have a1:@LT.lt Nat _ c p:=low h2
    have a2:@Eq Nat c (C+1):=z1;omega
   ·have a1:@LT.lt Nat _ c p:=low h1
    have a2:@Eq Nat c (C+1):=z2;omega
   ·exact I.ok.inj x y c (b7 h1) (b7 h2)
  ·by_cases hxo:x=own
   ·exact⟨C+1,by subst hxo;exact HS⟩
   have hx':scope.names.lookup x=some .free:=by
    rcases hx with hx|hx
    ·rcases jm hx with q|q
     ·exact absurd (noown x q) hxo
     ·exact q.2
    ·rcases jm hx with q|q
     ·exact q
     ·exact q.2
   obtain⟨c,hc'⟩:=hcells _ (Lb hx') rfl;exact⟨c,wY hxo (mF (Lb hx') hc')⟩
  ·have z':x=own:=of_decide_eq_true z
   rcases j7 hc' with⟨_,e⟩|⟨n,_⟩
   ·have a2:@Eq Nat c (C+1):=e
    have a3:@LE.le Nat _ s.heap.objs.size c:=by omega
    exact a3
   ·exact absurd z' n
  ·refine⟨?_,fun x c e=>?_⟩
   ·show b≠C
    exact kY (lt b hb) (by omega)
   ·rcases j7 e with⟨_,e⟩|⟨_,e⟩
    ·have a1:@LT.lt Nat _ b p:=lt b hb
     have a2:@Eq Nat c (C+1):=e;intro z;have a3:@Eq Nat c b:=z;omega
    ·exact(hf b hb).2.2.2.2.1 x c (b7 e)
  ·rcases(hf b hb).2.2.2.1 with z|z
   ·exact I.ok.noex b o e z
   ·exact absurd (KI (Ko e) (K4 I.ok.bsz z)) (Lz _)
  ·rcases Kq.mp (I.stkSub b z)with q|q
   ·exact(hf b hb).2.1 q
   ·exact(hf b hb).2.2.1 q
 have locs:∀h':Heap,(∀x c o,X.env.cells.lookup x=some c->s.heap.get? c=some o->∃sl,h'.get? c=some { o with slots:=sl })->
   ∀(i:Nat)(x:Str)(v:V),N[i]?=some x->(sub ix σ)[i]?=some (some v)->∃u,aI v u/\∀m,Ei (OQ scope ((own,C+1)::cQ X.env scope.names []) C X.env) h' m x u:=by
  intro h' hk i x v h1 h2;obtain⟨k,hk',hv⟩:∃k,ix[i]?=some (some k)/\σ[k]?=some (some v):=by
   unfold sub at h2;rw[Kz]at h2;cases e:ix[i]? with
   |none=>rw[e]at h2;cases h2
   |some o=>
    rw[e]at h2;cases o with
    |none=>cases h2
    |some k=>
     refine⟨k,rfl,?_⟩;have h2':(match σ[k]? with|some v=>v|none=>none)=some v:=KA h2;cases e2:σ[k]? with
     |none=>rw[e2]at h2';cases h2'
     |some z=>
      rw[e2]at h2';rw[show z=some v from h2']
  have hm:(x,some k)∈N.zip ix:=by
   refine Ky (i:=i) ?_;rw[Nc];exact⟨h1,hk'⟩
  obtain⟨a1,a2⟩:=S.at_ _ hm k (by simp);obtain⟨hno,hX⟩:=S.free _ (Lb a2) rfl;have hvis:Vis X.env.scope x:=by
   show _\/_\/_;rw[hsc];exact .inr hX
  obtain⟨m,hn,hl⟩:=I.loc;obtain⟨u,r,l⟩:=hl k x v (by rw[hNX];exact a1) hv hvis;refine⟨u,r,fun m'=>.inr ⟨pM a2,?_⟩⟩;rcases l with⟨l,_⟩|⟨_,c,e,z⟩
  ·have l':X.env.scope.names.lookup x=some .local:=l
   rw[hsc]at l';rcases hX with q|q<;>(rw[q]at l';cases l')
  ·obtain⟨o,ho,hd⟩:=z
   obtain⟨sl,e'⟩:=hk x c o e ho;exact⟨c,wY hno (mF (Lb a2) e),_,e',hd⟩
 have hlen:(sub ix σ).length=N.length:=by
  unfold sub;rw[Kk];exact S.len
 have I1:Inv (cm X N scope own C s H fp) [] (sub ix σ) (upd H p (.lst [])) { s with heap:=h₁ }:=by
  refine⟨hok,rfl,I.bare,Un.laid old (Nk hp) hfp,⟨_,hns₁,fun i x v h1 h2 h3=>?_⟩,fun x c e=>?_,?_,fun x c e=>?_,fun q hq=>(nomatch hq),I.hok.laid old (Nk hp) ⟨Lk _,[],0,.nil,hnew⟩,hlen⟩
  ·obtain⟨u,r,l⟩:=locs h₁ (fun y c o _ ho=>⟨o.slots,old c o ho⟩) i x v h1 h2
   exact⟨u,r,l _⟩
  ·rcases j7 e with⟨_,e⟩|⟨_,e⟩
   ·rw[e]
    exact⟨none,cel⟩
   ·obtain⟨v,o,ho,hd⟩:=I.cell x c (b7 e)
    exact⟨v,o,old c o ho,hd⟩
  ·show upd H p _ C=none
   rw[aM (LK pC)];exact hfC
  ·rcases j7 e with⟨_,e⟩|⟨_,e⟩
   ·rw[e,aM (show C+1≠p by omega)]
    exact hfO
   have e':=b7 e;obtain⟨v,o,ho,hd⟩:=I.cell x c e';rw[aM (kY (Ko ho) (Nk hp))];exact I.freeC x c e'
 have back:∀{pl:List (Addr×Obj)} {σ':St} {H':Hp} {s':Shared},Inv (cm X N scope own C s H fp) pl σ' H' s'->Inv (cm X N scope own C s H fp) pl (sub ix σ) H' s':=fun{pl σ' H' s'} J=>by
  obtain⟨m,hn,_⟩:=J.loc;refine⟨J.ok,J.os,J.bare,J.base,⟨m,hn,fun i x v h1 h2 h3=>?_⟩,J.cell,J.free,J.freeC,J.pin,J.hok,hlen⟩;obtain⟨u,r,l⟩:=locs s'.heap (fun y c o hc' ho=>J.base.any ho (I.freeC y c hc') fun hb=>(hf c hb).2.2.2.2.1 y c hc' rfl) i x v h1 h2;exact⟨u,r,l _⟩
 obtain⟨W,⟨m0,w0⟩,turn⟩:=hq p hfp;have st1:tn 0 h₁:=T.keep 0 _ _ st fun b _ o e=>old b o e;have fp1:∀{H':Hp},(∀b∈fp,H' b=none)->∀b∈fp,jl (cm X N scope own C s H fp) [] H' b:=fun{H'} hn b hb=>
  ⟨hn b hb,(hok.exf b hb).1,hok.exfs b hb,.inl hb,(hok.exf b hb).2,fun q hq=>(nomatch hq)⟩
 have loop:codeAny (model X.prog X.w) X.A (.compLoop (.ListComp elt [⟨tg,iter,ifs,0⟩] scope pos) 0 (.ref it) (.ref p) (OQ scope ((own,C+1)::cQ X.env scope.names []) C X.env)) (RR (.ref p) C) { s with heap:=h₁ }:=by
  refine wA (fun n s'=>∃i acc H',Inv (cm X N scope own C s H fp) [] (sub ix σ) H' s'/\tn i s'.heap/\(∀b∈fp,H' b=none)/\W i n acc H') ?_ m0
   ⟨0,[],_,I1,st1,fun b hb=>by rw[aM (kY (lt b hb) (Km _))];exact(hf b hb).1,w0⟩
  rintro n s3 ⟨i,acc,H3,I3,st3,fr3,w3⟩;obtain⟨hacc,w4⟩:=turn C s H fp i n acc H3 w3;rcases w4 with⟨stop,qn⟩|⟨go,hln,N',hN',step⟩
  ·refine thn (T.done (cm X N scope own C s H fp) rfl rfl rfl hc i [] s3 _ H3 (fun _ _=>False) I3 (fp1 fr3) st3 stop) fun r s4 ⟨hr,I4⟩=>?_
   subst hr;obtain⟨m,hn,_⟩:=I4.loc;refine hR p C s4 H3 m (by omega) (by omega) hn I4.free qn ?_;exact I.call' I4.os I4.base I4.hok I4.bare fun b hb=>⟨(hf b hb).2.2.2.1,(hf b hb).2.1,(hf b hb).2.2.2.2.1,(hf b hb).2.2.2.2.2⟩
  ·refine thn (T.item (cm X N scope own C s H fp) rfl rfl rfl hc i [] s3 _ H3 (fun _ _=>False) I3 (fp1 fr3) st3 go) fun r s4 ⟨u,hr,h4⟩=>?_
   subst hr;refine thn h4 fun _ s5 ⟨x,H5,I5,r5,y5,st5,fr5⟩=>?_;have I5':=I5.pinned (fp1 fr5) (T.obj _ _ st5);refine thn (hg C s H fp _ s5 _ H5 x u _ I5' r5 (step x H5 y5)) fun _ s6 ⟨σ6,H6,I6,q6⟩=>?_;have later:∀{s7:Shared} {H7:Hp} {acc':List V} {σ7:St},Inv (cm X N scope own C s H fp) ([]++nB fp s5.heap) σ7 H7 s7->(∃m',m'<n/\W (i+1) m' acc' H7)->
     ∃m,m<n/\∃i acc H',Inv (cm X N scope own C s H fp) [] (sub ix σ) H' s7/\tn i s7.heap/\(∀b∈fp,H' b=none)/\W i m acc H':=fun{s7 H7 acc' σ7} I7 ⟨m',hm,w7⟩=>by
    refine⟨m',hm,i+1,acc',H7,back (I7.unpinned (pins:=[])),T.keep _ _ _ st5 fun b hb o e=>(I7.pin (b,o) (K5 _ (K5 _ (gK hb e)))).1,fun b hb=>?_,w7⟩;obtain⟨o,e,d⟩:=T.obj _ _ st5 b hb;exact(I7.pin (b,o) (K5 _ (K5 _ (gK hb e)))).2.1
   refine thn (ht C s H fp _ s6 σ6 H6 _ I6 q6) fun ok s7 ⟨H7,I7,q7⟩=>?_;cases ok with
   |false=>exact later I7 (hN' _ _ q7)
   |true=>
    refine thn (he C s H fp _ s7 σ6 H7 _ I7 q7) fun y s8 ⟨v8,H8,I8,r8,hacc8,w8⟩=>?_;refine thn (kJ (X:=cm X N scope own C s H fp) _ s8 σ6 H8 (.ref p) [v8] (.ref p) [y] (fun _ H9=>H9=upd H8 p (.lst (acc++[v8]))) I8 rfl (.cons r8 .nil) ⟨p,acc,v8,rfl,rfl,hacc8,hln,rfl⟩) fun _ s9 ⟨_,H9,I9,_,e9⟩=>?_;subst e9;exact later I9 (hN' _ _ w8)
 exact QN loop (T.self _ 0 _ _ _ st1 loop)
theorem FL(hc:X.calm=true)(S:uR sc scope NX N ix own)(hi:PI X tg iter wi)
  (hg:∀C s H fp,PG (cm X N scope own C s H fp) tg (g C s H fp)) (ht:∀C s H fp,PTL (cm X N scope own C s H fp) ifs (tt C s H fp)) (he:∀C s H fp,PE (cm X N scope own C s H fp) elt (te C s H fp))
  (hsc:X.env.scope=sc:=by rfl) (hNX:X.N=NX:=by rfl) (hs:∀x,OB iter X.env x=pure x:=by intro _;rfl):
  PE X (.ListComp elt [⟨tg,iter,ifs,0⟩] scope pos) (cc wi g tt te ix):=by
 intro pins s σ H Q I h;rw[eval_ListComp];have hcells:P4 scope X.env=pure (cQ X.env scope.names []):=nX fun y hy hk=>by
  refine I.ok.has y.1 ?_;show X.env.scope.names.lookup y.1=some .cell\/X.env.scope.names.lookup y.1=some .free;rw[hsc];exact(S.free y hy hk).2
 refine Ol (use:=none) rfl hs hcells S.kind S.names (thn (hi pins s σ H _ I h) fun v s1 h1=>thn h1 fun itv s2 h2=>?_);obtain⟨it,fp,tn,J,H2,e,I2,T,st2,f2,hq⟩:=h2;subst e;refine zZ (Q:=Q) (RR:=fun acc C=>compPost (model X.prog X.w) X.A X.xe none (EP X pins σ Q) acc C) hc hsc hNX S hg ht he I2 T st2 f2 hq ?_;intro p C s' H' m hp hC hn hfree q I';exact⟨m,hn,fun h'' hs''=>⟨.ref p,H',I'.gone I2 hC hfree hs'',rfl,q⟩⟩
end
end
end L2
section
namespace L2
open PySem PySem.Spec PySem.W PyProof.Rows
noncomputable def FnA(K:Frag)(x q:Str)(st:Stmt)(f:Addr):Prop:=∃(oc:Value)(od:Option Addr)(kV doc pm:Value)(an:Option Addr)(cd ct:Value)(sl:Array (Option Value)),K.lookup f=some ⟨oc,od,.func (fnOf x q (jR st) (dz st) (am st) .none kV doc pm an cd ct),sl⟩/\codeIn K cd q=true/\keepIn K (.ref f)=true
noncomputable def DfA(K:Frag)(x:Str)(st:Stmt):Prop:=∃f,nsIn K KW x=some (some (.ref f))/\FnA K x x st f
noncomputable def MtA(K:Frag)(C:Addr)(m q:Str)(st:Stmt):Prop:=∃f,findIn K (.ref C) m=some (some (.ref f))/\isFn K (.ref f)=true/\FnA K m q st f
theorem FnA.fn{K:Frag}{x q:Str}{st:Stmt}{f:Addr}(h:FnA K x q st f):∃fd,Fun K x q st f fd:=let⟨_,_,_,_,_,_,_,_,_,l,c,k⟩:=h;⟨_,CV l c k⟩
noncomputable abbrev BdA(x q:Str)(st:Stmt)(ps:List Str):Prop:=∀(kV doc pm:Value)(an:Option Addr)(cdv ct:Value)(us:List Value),us.length=ps.length->bindArgs (fnOf x q (jR st) (dz st) (am st) .none kV doc pm an cdv ct) ⟨us,[]⟩=pure (ps.zip us)
theorem DfA.df{K:Frag}{mg:Str->Option Value}{h:Heap}{x:Str}{st:Stmt}{ps:List Str}(X:K.In h)(G:h.Ns KW mg)(q:DfA K x st)(b:BdA x x st ps):∃f fd,Def K mg x st ps f fd:=
 let⟨f,a,l⟩:=q;let⟨fd,F⟩:=l.fn;⟨f,fd,F,mg_of X G a,F.binds b⟩
theorem MtA.df{K:Frag}{C:Addr}{m q:Str}{st:Stmt}{ps:List Str}(h:MtA K C m q st)(b:BdA m q st ps):∃f fd,dQ K C m q st ps f fd:=
 let⟨f,a,i,l⟩:=h;let⟨fd,F⟩:=l.fn;⟨f,fd,F,⟨a,i,F.kp⟩,F.binds b⟩
theorem MtA.di{K:Frag}{C:Addr}{q:Str}{st:Stmt}{ps:List Str}(h:MtA K C "__init__" q st)(mk:makesIn K C=true)(kc:keepIn K (.ref C)=true)(b:BdA "__init__" q st ps):∃f fd,yX K C q st ps f fd:=
 let⟨f,a,i,l⟩:=h;let⟨fd,F⟩:=l.fn;⟨f,fd,F,⟨mk,a,i,kc⟩,F.binds b⟩
theorem DfA.law{K:Frag}{mg:Str->Option Value}{h:Heap}{x p:Str}{st:Stmt}{fa:Addr}(X:K.In h)(G:h.Ns KW mg)(q:DfA K x st)(b:BdA x x st [p])(hf:mg x=some (.ref fa))
  (bb:∀(kV doc pm:Value)(an:Option Addr)(cdv ct:Value)(s:Shared)(v:Value),BindsTo s (fnOf x x (jR st) (dz st) (am st) .none kV doc pm an cdv ct) ⟨[v],[]⟩ [(p,v)]):∃fd,Def K mg x st [p] fa fd/\∀(s:Shared)(v:Value),BindsTo s fd ⟨[v],[]⟩ [(p,v)]:=by
 obtain⟨f,a,_,_,kV,doc,pm,an,cdv,ct,_,l,c,k⟩:=q;have e:=hf.symm.trans (mg_of X G a);cases e;have F:=CV l c k;exact⟨_,⟨F,mg_of X G a,F.binds b⟩,bb kV doc pm an cdv ct⟩
end L2
end
namespace Kc_k35
open PySem L2 PyProof.Rows
local macro_rules | `(tactic| walk_at "v")=>`(tactic| exact ⟨rfl,by first | exact QW rfl | exact Oj (QW rfl) | exact Oj (Oj rfl),by decide,by decide⟩)
local macro_rules | `(tactic| walk_at "w")=>`(tactic| exact ⟨rfl,rfl,rfl,by decide +kernel,rfl,by decide +kernel,by decide +kernel⟩)
local macro_rules | `(tactic| walk_at "l")=>`(tactic| (intro _ _ _ _ h; first | (obtain ⟨_,e,_⟩:=h; subst e; rfl) | (obtain ⟨_,_,e,_⟩:=h; subst e; rfl) | (obtain ⟨_,_,_,e,_⟩:=h; subst e; rfl) | (obtain ⟨_,_,_,_,e,_⟩:=h; subst e; rfl) | (obtain ⟨_,_,_,_,_,e,_⟩:=h; subst e; rfl) | (obtain ⟨_,_,_,_,_,_,e,_⟩:=h; subst e; rfl) | (obtain ⟨_,_,_,_,_,_,_,e,_⟩:=h; subst e; rfl) | (obtain ⟨_,_,_,_,_,_,_,_,e,_⟩:=h; subst e; rfl) | (obtain ⟨_,_,_,_,_,_,_,_,_,e,_⟩:=h; subst e; rfl) | (obtain ⟨_,_,_,_,_,_,_,_,_,_,e,_⟩:=h; subst e; rfl) | (obtain ⟨_,_,_,_,_,_,_,_,_,_,_,e,_⟩:=h; subst e; rfl) | (obtain ⟨_,_,_,_,_,_,_,_,_,_,_,_,e,_⟩:=h; subst e; rfl) | (obtain ⟨_,_,_,_,_,_,_,_,_,_,_,_,_,e,_⟩:=h; subst e; rfl) | (obtain ⟨_,_,_,_,_,_,_,_,_,_,_,_,_,_,e,_⟩:=h; subst e; rfl) | (obtain ⟨_,_,_,_,_,_,_,_,_,_,_,_,_,_,_,e,_⟩:=h; subst e; rfl) | (obtain ⟨_,_,_,_,_,_,_,_,_,_,_,_,_,_,_,_,e,_⟩:=h; subst e; rfl)))
local macro_rules | `(tactic| walk_at "c")=>`(tactic| (refine ⟨rfl,?_,?_,?_,?_,rfl,?_⟩ <;> decide +kernel))
local macro_rules | `(tactic| walk_at "e")=>`(tactic| (refine ⟨rfl,?_,?_,?_,?_,rfl,?_⟩ <;> first | decide +kernel | exact DX (by decide +kernel)))
theorem psS{X:Cx}(i:Nat){N ps:List Str}{sc:Scope}{x:Str}{e:Expr}{te:TE}{pos' pos:Pos}(S:az N ps sc)(he:PE X e te)(hN:X.N=N:=by exact rfl)(hi:X.N[i]?=some x:=by exact rfl)(hx:Loc X.env.scope x:=by exact QW rfl)(hs:Qz e (some (.Name x pos')) pos.line X.env=pure false:=by rfl)(hf:X.fn x=true\/X.env.scope.names.lookup x=some .local:=by first|exact .inl rfl|exact .inr rfl|assumption):PS X (.Assign [.Name x pos'] e pos) (aK te (ao i)):=ny (by rw[hN];exact S.nd) hi hx he hs hf
theorem pgS{X:Cx}(i:Nat){N ps:List Str}{sc:Scope}{x:Str}{pos:Pos}(S:az N ps sc)(hN:X.N=N:=by exact rfl)(hi:X.N[i]?=some x:=by exact rfl)(hx:Loc X.env.scope x:=by exact QW rfl)(hf:X.fn x=true\/X.env.scope.names.lookup x=some .local:=by first|exact .inl rfl|exact .inr rfl|assumption):PG X (.Name x pos) (ao i):=vE (by rw[hN];exact S.nd) hi hx hf
theorem pgC{X:Cx}(i:Nat)(N:List Str){x:Str}{pos:Pos}(hN:X.N=N:=by exact rfl)(nd:N.Nodup:=by decide+kernel)(hi:X.N[i]?=some x:=by exact rfl)(hx:Loc X.env.scope x:=by exact QW rfl)(hf:X.fn x=true\/X.env.scope.names.lookup x=some .local:=by first|exact .inl rfl|exact .inr rfl|assumption):PG X (.Name x pos) (ao i):=vE (by rw[hN];exact nd) hi hx hf
theorem rmD{n k:Nat}{A:Around}(h:bO k A)(e:n<=k:=by decide):bO n A:=h.mono e
noncomputable abbrev zm:List Str:=["_law_table","_law_way","_law_thing","_law_other","_law_third"]
noncomputable abbrev lm:List Str:=["self","hand","holder","some"]
noncomputable abbrev gC:List Str:=["cards","sizes"]
noncomputable abbrev ja:List Str:=["self","hand","deal"]
noncomputable abbrev zn:List Str:=["_law_cell_here","_law_cards","_law_hands","_law_deals"]
noncomputable abbrev jb:List Str:=["fit","reason"]
noncomputable abbrev nn:List Str:=["_law_number","_law_hands"]
noncomputable abbrev nr:List Str:=["cards","hands","thing"]
noncomputable abbrev sW:List Str:=["_law_table","_law_hands","_law_many"]
noncomputable abbrev jD:List Str:=["ones","others"]
noncomputable abbrev lB:List Str:=["deal","holder","rising"]
noncomputable abbrev hZ:List Str:=["self","hands","S"]
noncomputable abbrev uS:List Str:=["_law_number","_law_cards","_law_hands"]
noncomputable abbrev qS:List Str:=["cards","hands","place","part"]
noncomputable abbrev uT:List Str:=["_law_script","_law_at","_law_most"]
noncomputable abbrev qT:List Str:=["thing","bound"]
noncomputable abbrev uU:List Str:=["self","hands","values"]
noncomputable abbrev qU:List Str:=["thing","least","most"]
noncomputable abbrev uV:List Str:=["deals","views","S","word","inner","some"]
noncomputable abbrev h9:List Str:=["self","hand"]
noncomputable abbrev lC:List Str:=["self","cards","sizes"]
noncomputable abbrev gh:List Str:=["self","S"]
noncomputable abbrev qV:List Str:=["hands","values","deal","hand"]
noncomputable abbrev uW:List Str:=["_law_script","_law_k"]
noncomputable abbrev uX:List Str:=["_law_cards","_law_sizes"]
noncomputable abbrev qW:List Str:=["deals","views","S"]
noncomputable abbrev uY:List Str:=["points","one","other"]
noncomputable abbrev oQ:List Str:=["deal","who"]
noncomputable abbrev oR:List Str:=["thing","cards"]
noncomputable abbrev uZ:List Str:=["thing","hands"]
noncomputable abbrev va:List Str:=["view","truths"]
noncomputable abbrev oS:List Str:=["deals","hand"]
noncomputable abbrev oT:List Str:=["piles","view"]
noncomputable abbrev vb:List Str:=["points","thing"]
noncomputable abbrev qX:List Str:=["view","values"]
noncomputable abbrev vf:List Str:=["views","truths"]
noncomputable abbrev BZ:List Str:=["self","hand","holder","some","rising"]
noncomputable abbrev B0:List Str:=["_law_hand","_law_table","_law_many"]
noncomputable abbrev vi:List Str:=["many","taken"]
noncomputable abbrev vj:List Str:=["begun","room"]
noncomputable abbrev vk:List Str:=["many","views"]
noncomputable abbrev Gj:List Str:=["many","views","points","view","thing","least"]
noncomputable abbrev B1:List Str:=["place","part","cards","hands"]
noncomputable abbrev qY:List Str:=["one","other"]
noncomputable abbrev vm:List Str:=["_law_many"]
noncomputable abbrev Gk:List Str:=["cards","hands","thing","words","level"]
noncomputable abbrev qZ:List Str:=["_law_script"]
noncomputable abbrev Gm:List Str:=["view","truths","sure","least","truth"]
noncomputable abbrev rc:List Str:=["thing"]
noncomputable abbrev Gn:List Str:=["_law_deal","_law_hand","_law_table"]
noncomputable abbrev B2:List Str:=["pile","least","piles"]
noncomputable abbrev vn:List Str:=["sayings"]
noncomputable abbrev B3:List Str:=["card","holder","who"]
noncomputable abbrev vq:List Str:=["saying"]
section
variable(P:Program)(w:World)(K:Fg)(mg:Str->Option Value)(base:Heap)
noncomputable abbrev B4(k:Nat):Prop:=FnB P w K mg base k "is_whole" rc (iy K)
noncomputable abbrev zo(k:Nat):Prop:=FnB P w K mg base k "is_within" qU (dH K)
noncomputable abbrev nu(k:Nat):Prop:=FnB P w K mg base k "is_below" qT (bu K)
noncomputable abbrev zp(k:Nat):Prop:=FnB P w K mg base k "are_hands" uZ (fv K)
noncomputable abbrev FM(k:Nat):Prop:=FnB P w K mg base k "is_pack" gC (ox K)
noncomputable abbrev FN(k:Nat):Prop:=FnB P w K mg base k "choices" vi (oy K)
noncomputable abbrev FO(k:Nat):Prop:=FnB P w K mg base k "how_many" gC (m7 K)
noncomputable abbrev FP(k:Nat):Prop:=FnB P w K mg base k "with_one_more" vj (i8 K)
noncomputable abbrev B5(k:Nat):Prop:=FnB P w K mg base k "deals_of" gC (ke K)
noncomputable abbrev wg(k:Nat):Prop:=FnB P w K mg base k "cards_of" oQ (iz K)
noncomputable abbrev B6(k:Nat):Prop:=FnB P w K mg base k "is_word" nr (oK K)
noncomputable abbrev B7(k:Nat):Prop:=FnB P w K mg base k "parts_of_all" vn (ju K)
noncomputable abbrev xR(k:Nat):Prop:=FnB P w K mg base k "is_saying" nr (fw K)
noncomputable abbrev B8(k:Nat):Prop:=FnB P w K mg base k "fits" qS (vT K)
noncomputable abbrev B9(k:Nat):Prop:=FnB P w K mg base k "parts_of" vq (m9 K)
noncomputable abbrev xS(k:Nat):Prop:=FnB P w K mg base k "least_with_same" ["marks"] (eh K)
noncomputable abbrev Ca(k:Nat):Prop:=FnB P w K mg base k "first_view" oS (lf K)
noncomputable abbrev Cb(k:Nat):Prop:=FnB P w K mg base k "split" qX (si K)
noncomputable abbrev xT(k:Nat):Prop:=FnB P w K mg base k "end_of" vb (kN K)
noncomputable abbrev Cc(k:Nat):Prop:=FnB P w K mg base k "link" uY (vN K)
noncomputable abbrev Cd(k:Nat):Prop:=FnB P w K mg base k "joined" vk (p6 K)
noncomputable abbrev xU(k:Nat):Prop:=FnB P w K mg base k "both" jD (qK K)
noncomputable abbrev Ce(k:Nat):Prop:=FnB P w K mg base k "either" jD (qa K)
noncomputable abbrev vt(k:Nat):Prop:=FnB P w K mg base k "known" va (jU K)
noncomputable abbrev Cf(k:Nat):Prop:=FnB P w K mg base k "known_to_all" vf (jr K)
noncomputable abbrev Cg(k:Nat):Prop:=FnB P w K mg base k "seen" oT (vQ K)
noncomputable abbrev kr(k:Nat):Prop:=FnB P w K mg base k "refuse_unless" jb (bp K)
noncomputable abbrev xV(k:Nat):Prop:=FnB P w K mg base k "are_cards" oR (gy K)
noncomputable abbrev xW(k:Nat):Prop:=FnB P w K mg base k "least_held" lB (li K)
noncomputable abbrev xX(k:Nat):Prop:=FnB P w K mg base k "_law_cell" uW (cD K)
noncomputable abbrev Ch(k:Nat):Prop:=FnB P w K mg base k "_law_product" vm (gc K)
noncomputable abbrev Ci(k:Nat):Prop:=FnB P w K mg base k "_law_count" uX (iJ K)
noncomputable abbrev Cj(k:Nat):Prop:=FnB P w K mg base k "_law_pack" uT (lW K)
noncomputable abbrev Ck(k:Nat):Prop:=FnB P w K mg base k "_law_no_hand" nn (jz K)
noncomputable abbrev Cl(k:Nat):Prop:=FnB P w K mg base k "_law_no_group" nn (fN K)
noncomputable abbrev Cm(k:Nat):Prop:=FnB P w K mg base k "_law_no_saying" uS (dj K)
noncomputable abbrev Cn(G:GQ)(k:Nat):Prop:=FnB P w K mg base k "_law_heard" zm (iS K G)
noncomputable abbrev Co(k:Nat):Prop:=FnB P w K mg base k "_law_wrong" zn (lj K)
noncomputable abbrev Cp(G:GQ)(k:Nat):Prop:=FnB P w K mg base k "_law_stand" sW (iR K G)
noncomputable abbrev Cq(k:Nat):Prop:=FnB P w K mg base k "truths_of" qW (bY K 35)
noncomputable abbrev Cr(G:GQ)(k:Nat):Prop:=FnM P w K mg base k G.Table "saw" ja (dL K G)
noncomputable abbrev FQ(G:GQ)(k:Nat):Prop:=FnM P w K mg base k G.Table "view" h9 (dU K G)
noncomputable abbrev FR(G:GQ)(k:Nat):Prop:=FnM P w K mg base k G.Table "show" lm (dX K G)
noncomputable abbrev FS(G:GQ)(k:Nat):Prop:=FnM P w K mg base k G.Table "word" hZ (dW K G)
noncomputable abbrev wj(G:GQ)(k:Nat):Prop:=FnM P w K mg base k G.Table "learn" uU (fz K G)
noncomputable abbrev Cs(G:GQ)(k:Nat):Prop:=FnM P w K mg base k G.Table "truths" gh (cY K G)
end
seal L2.PE L2.PA L2.PS L2.PSs L2.PT L2.PW L2.PI L2.PG L2.PGs L2.PO L2.PTL L2.OpR L2.UnR L2.dn L2.SlR L2.IxR L2.Ek
noncomputable def top(i:Nat):Stmt:=PySem.Challenge.pw_knowcards_k35_deeds_refused.main.body.getD i (.Pass ⟨0,0,0,0⟩)
noncomputable abbrev lD:Stmt:=top 9
theorem Aa:az rc rc (am lD):=by walk_at "w"
noncomputable abbrev ku:Stmt:=top 10
theorem zq:az qU qU (am ku):=by walk_at "w"
noncomputable abbrev lG:Stmt:=top 11
theorem Ab:az qT qT (am lG):=by walk_at "w"
noncomputable abbrev kG:Stmt:=top 12
theorem jE:az ["thing","hands","least","hand"] uZ (am kG):=by walk_at "w"
noncomputable abbrev kT:Stmt:=top 17
theorem Ct:az gC gC (am kT):=by walk_at "w"
noncomputable abbrev lH:Stmt:=top 18
theorem fW:az ["cards","sizes","many","left","size"] gC (am lH):=by walk_at "w"
noncomputable abbrev mU:Stmt:=top 19
theorem lI:az ["many","taken","ways","step"] vi (am mU):=by walk_at "w"
noncomputable abbrev lL:Stmt:=top 20
theorem iF:az ["cards","sizes","room","begun","card"] gC (am lL):=by walk_at "w"
noncomputable abbrev gi:Stmt:=top 21
theorem dM:az ["begun","room","longer","deal","who","most"] vj (am gi):=by walk_at "w"
noncomputable abbrev jF:Stmt:=top 22
theorem Ac:az oQ oQ (am jF):=by walk_at "w"
noncomputable abbrev iG:Stmt:=top 26
theorem gD:az Gk nr (am iG):=by walk_at "w"
noncomputable abbrev kU:Stmt:=top 27
theorem vv:az ["cards","hands","thing","form"] nr (am kU):=by walk_at "w"
noncomputable abbrev vx:Stmt:=top 28
theorem HU:az qS qS (am vx):=by walk_at "w"
noncomputable abbrev jG:Stmt:=top 29
theorem rR:az ["saying","form"] vq (am jG):=by walk_at "w"
noncomputable abbrev ib:Stmt:=top 30
theorem jH:az ["sayings","parts","saying"] vn (am ib):=by walk_at "w"
noncomputable abbrev gE:Stmt:=top 32
theorem xq:az oS oS (am gE):=by walk_at "w"
noncomputable abbrev re:Stmt:=top 33
theorem FT:az qX qX (am re):=by walk_at "w"
noncomputable abbrev dm:Stmt:=top 34
theorem eV:az ["marks","firsts","thing","mark"] ["marks"] (am dm):=by walk_at "w"
noncomputable abbrev mz:Stmt:=top 35
theorem kW:az Gj vk (am mz):=by walk_at "w"
noncomputable abbrev vy:Stmt:=top 36
theorem wk:az ["points","one","other","first","second"] uY (am vy):=by walk_at "w"
noncomputable abbrev oU:Stmt:=top 37
theorem qp:az ["points","thing","end"] vb (am oU):=by walk_at "w"
noncomputable abbrev dy:Stmt:=top 39
theorem gF:az uV qW (am dy):=by walk_at "w"
noncomputable abbrev qq:Stmt:=top 40
theorem HV:az jD jD (am qq):=by walk_at "w"
noncomputable abbrev mB:Stmt:=top 41
theorem Ed:az jD jD (am mB):=by walk_at "w"
noncomputable abbrev nP:Stmt:=top 42
theorem oV:az Gm va (am nP):=by walk_at "w"
noncomputable abbrev ie:Stmt:=top 43
theorem gj:az ["views","truths","answers","view"] vf (am ie):=by walk_at "w"
noncomputable abbrev qr:Stmt:=top 44
theorem HW:az oT oT (am qr):=by walk_at "w"
noncomputable abbrev eW:Stmt:=top 47
theorem jc:az jb jb (am eW):=by walk_at "w"
noncomputable abbrev iH:Stmt:=top 48
theorem zr:az oR oR (am iH):=by walk_at "w"
noncomputable abbrev jI:Stmt:=top 49
theorem ph:az ["deal","holder","rising","card"] lB (am jI):=by walk_at "w"
noncomputable abbrev kH:Stmt:=top 51
theorem jJ:az ["_law_script","_law_k","_law_number"] uW (am kH):=by walk_at "w"
noncomputable abbrev ig:Stmt:=top 52
theorem gk:az ["_law_many","_law_found","_law_k"] vm (am ig):=by walk_at "w"
noncomputable abbrev jK:Stmt:=top 53
theorem iT:az ["_law_cards","_law_sizes","_law_found","_law_many"] uX (am jK):=by walk_at "w"
noncomputable abbrev kI:Stmt:=top 54
theorem fC:az ["_law_script","_law_at","_law_most","_law_cards","_law_sizes","_law_k"] uT (am kI):=by walk_at "w"
noncomputable abbrev ii:Stmt:=top 55
theorem mV:az ["_law_number","_law_hands","_law_far"] nn (am ii):=by walk_at "w"
noncomputable abbrev gm:Stmt:=top 56
theorem mC:az ["_law_number","_law_hands","_law_some"] nn (am gm):=by walk_at "w"
noncomputable abbrev fP:Stmt:=top 57
theorem cH:az ["_law_number","_law_cards","_law_hands","_law_long","_law_k","_law_some"] uS (am fP):=by walk_at "w"
noncomputable abbrev jL:Stmt:=top 58
theorem fT:az ["_law_table","_law_way","_law_thing","_law_other","_law_third","_law_heard_here","e","_law_others"] zm (am jL):=by walk_at "w"
noncomputable abbrev jM:Stmt:=top 59
theorem bF:az ["_law_cell_here","_law_cards","_law_hands","_law_deals","_law_left","_law_no_hand_here","_law_no_card","_law_no_list","_law_no_deal","_law_good","_law_some"] zn (am jM):=by walk_at "w"
noncomputable abbrev gG:Stmt:=top 60
theorem xr:az sW sW (am gG):=by walk_at "w"
noncomputable abbrev xY:Stmt:=top 61
theorem fD:az ["_law_script","_law_cards","_law_sizes","_law_hands","_law_many","_law_table","_law_due","_law_k","_law_way","_law_thing","_law_other","_law_third","_law_kind"] qZ (am xY):=by walk_at "w"
noncomputable abbrev gH:Stmt:=jQ (top 46) 0
theorem xt:az lC lC (am gH):=by walk_at "w"
noncomputable abbrev gI:Stmt:=jQ (top 46) 2
theorem iU:az h9 h9 (am gI):=by walk_at "w"
noncomputable abbrev gJ:Stmt:=jQ (top 46) 3
theorem iV:az hZ hZ (am gJ):=by walk_at "w"
noncomputable abbrev dN:Stmt:=jQ (top 46) 4
theorem dY:az BZ lm (am dN):=by walk_at "w"
noncomputable abbrev fE:Stmt:=jQ (top 46) 5
theorem gn:az gh gh (am fE):=by walk_at "w"
noncomputable abbrev fh:Stmt:=jQ (top 46) 6
theorem jN:az ja ja (am fh):=by walk_at "w"
noncomputable abbrev iW:Stmt:=jQ (top 46) 8
theorem nQ:az ["self","hands","values","hand"] uU (am iW):=by walk_at "w"
section
variable{P:Program}{w:World}{K:Fg}{mg:Str->Option Value}{base:Heap}{f:Addr}{fd:KD}
theorem Ad(D:Def K mg "is_whole" lD rc f fd)(B:Blt mg):B4 P w K mg base 1:=by
 refine D.ok Aa (by walk_at "l") fun _ _ _ _ _ _ _ _ hr h=>?_;exact⟨tV K,(ak (aw (nv (aD iY rfl B.isinstance Ma (ac (pv 0) (ac (je (v:=.ty "int") rfl B.int boot_int rfl) ae))) (lM (CB (aD iY rfl B.isinstance Ma (ac (pv 0) (ac (je (v:=.ty "bool") rfl B.bool boot_bool rfl) ae)))))))),zK h⟩
theorem zt(D:Def K mg "is_within" ku qU f fd)(B:Blt mg)(U29:B4 P w K mg base 1):zo P w K mg base 2:=by
 refine D.ok zq (by walk_at "l") fun _ _ _ _ _ _ _ _ hr h=>?_;exact⟨rL K,(ak (aw (nv (aj U29 (rmD hr) (ac (pv 0) ae)) (lM (Eo AW AW (pv 1) (pv 0) (pv 2)))))),yF h⟩
theorem Ae(D:Def K mg "is_below" lG qT f fd)(B:Blt mg)(U28:zo P w K mg base 2):nu P w K mg base 3:=by
 refine D.ok Ab (by walk_at "l") fun _ _ _ _ _ _ _ _ hr h=>?_;exact⟨lw K,(ak (aw (aj U28 (rmD hr) (ac (pv 0) (af ai (aY (au dE (pv 1) ai) ae)))))),zU h⟩
theorem zu(D:Def K mg "are_hands" kG uZ f fd)(B:Blt mg)(U28:zo P w K mg base 2):zp P w K mg base 3:=by
 refine D.ok jE (by walk_at "l") fun _ _ _ _ _ _ _ _ hr h=>?_;exact⟨kh K,(ah (bj (cL (cK (aD iY rfl B.isinstance Ma (ac (pv 0) (ac (je (v:=.ty "tuple") rfl B.tuple Tg rfl) ae))))) (ak (aw cu)) aU)
  (ah (psS 2 jE ai)
  (ah (cy K7 rfl (ya (pv 0)) (pgS 3 jE) (ah (bj (cL (cK (aj U28 (rmD hr) (ac (pv 3) (ac (pv 2) (aY (au dE (pv 1) ai) ae)))))) (ak (aw cu)) aU)
  (ak (psS 2 jE (au bG (pv 3) ai)))))
  (ak (aw cu))))),yN h⟩
theorem Cu(D:Def K mg "is_pack" kT gC f fd)(B:Blt mg){t_MOST_CARDS:Tok}(m_MOST_CARDS:mg "MOST_CARDS"=some (.int 12 t_MOST_CARDS)){t_MOST_HANDS:Tok}(m_MOST_HANDS:mg "MOST_HANDS"=some (.int 5 t_MOST_HANDS))(U28:zo P w K mg base 2):FM P w K mg base 3:=by
 refine D.ok Ct (by walk_at "l") fun _ _ _ _ _ _ _ _ hr h=>?_;exact⟨wL K,(ah (bj (cL (cK (aj U28 (rmD hr) (ac (pv 0) (af ai (ac (dR (v:=(.int 12)) rfl m_MOST_CARDS ⟨_,rfl⟩) ae)))))) (ak (aw cu)) aU)
  (ah (bj (PW.pt (tm (cL (cK (aD iY rfl B.isinstance Ma (ac (pv 1) (ac (je (v:=.ty "list") rfl B.list NZ rfl) ae))))) (pA (cL (cK (aj U28 (rmD hr) (ax (aD aV rfl B.len L7 (ac (pv 1) ae)) (af ai (ac (dR (v:=(.int 5)) rfl m_MOST_HANDS ⟨_,rfl⟩) ae))))))))) (ak (aw cu)) aU)
  (ak (aw (nv (aD (mG rfl) rfl B.all SL (bZ (bK (sc:=(am kT)) (NX:=gC) (N:=["size","cards"]) (ix:=[none,some 0]) rfl (by walk_at "c") (bU (pv 1)) (by intros;exact(pgC 0 ["size","cards"])) (by intros;exact bV) (by intros;exact(aj U28 (rmD hr) (ac (pv 0) (af ai (ac (pv 1) ae)))))) ae)) (lM (jP AW (aD (kK rfl) rfl B.sum Rl (ac (pv 1) ae)) (pv 0) (ba _)))))))),Bt h⟩
theorem Af(D:Def K mg "how_many" lH gC f fd)(B:Blt mg)(U35:FN P w K mg base 1)(U37:FM P w K mg base 3):FO P w K mg base 4:=by
 refine D.ok fW (by walk_at "l") fun _ _ _ _ _ _ _ _ hr h=>?_;exact⟨tX K,(ah (bj (cL (cK (aj U37 (rmD hr) (ac (pv 0) (ac (pv 1) ae))))) (ak jO) aU)
  (ah (psS 2 fW ai)
  (ah (psS 3 fW (pv 0))
  (ah (cy K7 rfl (bU (pv 1)) (pgS 4 fW) (ah (psS 2 fW (au gL (pv 2) (aj U35 (rmD hr) (ac (pv 3) (ac (pv 4) ae)))))
  (ak (psS 3 fW (au dE (pv 3) (pv 4))))))
  (ak (aw (pv 2))))))),zL h⟩
theorem Cv(D:Def K mg "choices" mU vi f fd)(B:Blt mg):FN P w K mg base 1:=by
 refine D.ok lI (by walk_at "l") fun _ _ _ _ _ _ _ _ hr h=>?_;exact⟨wM K,(ah (psS 2 lI ai)
  (ah (cy K7 rfl (dw rfl B.range (ac (pv 1) ae)) (pgS 3 lI) (ak (psS 2 lI (au fm (au gL (pv 2) (au dE (pv 0) (pv 3))) (au bG (pv 3) ai)))))
  (ak (aw (pv 2))))),Bu h⟩
theorem Ag(D:Def K mg "deals_of" lL gC f fd)(B:Blt mg){t_MOST_DEALS:Tok}(m_MOST_DEALS:mg "MOST_DEALS"=some (.int 2000 t_MOST_DEALS))(U34:FO P w K mg base 4)(U3:FP P w K mg base 1):B5 P w K mg base 5:=by
 refine D.ok iF (by walk_at "l") fun _ _ _ _ _ _ _ _ hr h=>?_;exact⟨tY K,(ah (bj (aW qy (aj U34 (rmD hr) (ac (pv 0) (ac (pv 1) ae))) (dR (v:=(.int 2000)) rfl m_MOST_DEALS ⟨_,rfl⟩) (ba _)) (ak jO) aU)
  (ah (psS 2 iF (au CS (pv 1) (yd (aY (au dE (pv 0) (aD (kK rfl) rfl B.sum Rl (ac (pv 1) ae))) ae))))
  (ah (psS 3 iF (yd (aE (CM ae) ae)))
  (ah (cy K7 rfl (dw rfl B.range (ac (pv 0) ae)) (pgS 4 iF) (ak (psS 3 iF (aj U3 (rmD hr) (ac (pv 3) (ac (pv 2) ae))))))
  (ak (aw (pv 3))))))),zM h⟩
theorem sX(D:Def K mg "with_one_more" gi vj f fd)(B:Blt mg):FP P w K mg base 1:=by
 refine D.ok dM (by walk_at "l") fun _ _ _ _ _ _ _ _ hr h=>?_;exact⟨mL K,(ah (psS 2 dM (yd ae))
  (ah (cy K7 rfl (bU (pv 0)) (pgS 3 dM) (ak (cy K7 rfl (qD bP rfl B.enumerate (by decide) (ac (pv 1) ae)) (dZ rfl (aX (pgS 4 dM) (aX (pgS 5 dM) cW))) (ak (bj (aW FY (Jt PySem.F.plainAttrs_tuple Qi PySem.F.type_tuple_count C5 (pv 3) (ac (pv 4) ae)) (pv 5) (ba _)) (ak (bc (tH MQ Ou Ov kJ (pv 2) (aY (au GG (pv 3) (CM (ac (pv 4) ae))) ae)))) aU)))))
  (ak (aw (pv 2))))),sf h⟩
theorem Ah(D:Def K mg "cards_of" jF oQ f fd)(B:Blt mg):wg P w K mg base 1:=by
 refine D.ok Ac (by walk_at "l") fun _ _ _ _ _ _ _ _ hr h=>?_;exact⟨tZ K,(ak (aw (ee wZ rfl B.tuple Tg (bZ (bK (sc:=(am jF)) (NX:=oQ) (N:=B3) (ix:=[none,none,some 1]) rfl (by walk_at "c") (qD iX rfl B.enumerate (by decide) (ac (pv 0) ae)) (by intros;exact(dZ rfl (aX (pgC 0 B3) (aX (pgC 1 B3) cW)))) (by intros;exact(qB (aW cn (pv 1) (pv 2) (ba _)))) (by intros;exact(pv 0))) ae)))),zN h⟩
theorem zv(D:Def K mg "is_saying" iG nr f fd)(B:Blt mg){t_MOST_WORDS:Tok}(m_MOST_WORDS:mg "MOST_WORDS"=some (.int 30 t_MOST_WORDS))(U29:B4 P w K mg base 1)(U36:B6 P w K mg base 5)(U9:B7 P w K mg base 2):xR P w K mg base 6:=by
 refine D.ok gD (by walk_at "l") fun _ _ _ _ _ _ _ _ hr h=>?_;exact⟨kj K,(ah (bj (PW.pt (tm (cL (cK (aj U29 (rmD hr) (ac (pv 0) ae)))) (pA (cL (cK (aj U29 (rmD hr) (ac (pv 1) ae))))))) (ak (aw cu)) aU)
  (ah (psS 3 gD ai)
  (ah (psS 4 gD (bf (ac (pv 2) ae)))
  (ah (rV K7 (aW qy (aD aV rfl B.len L7 (ac (pv 4) ae)) ai (ba _)) (ah (psS 3 gD (au bG (pv 3) (aD aV rfl B.len L7 (ac (pv 4) ae))))
  (ah (bj (PW.pt (tm (aW qy (pv 3) (dR (v:=(.int 30)) rfl m_MOST_WORDS ⟨_,rfl⟩) (ba _)) (pA (cL (cK (aD (mG rfl) rfl B.all SL (bZ (bK (sc:=(am iG)) (NX:=Gk) (N:=["one","cards","hands"]) (ix:=[none,some 0,some 1]) rfl (by walk_at "c") (bU (pv 4)) (by intros;exact(pgC 0 ["one","cards","hands"])) (by intros;exact bV) (by intros;exact(aj U36 (rmD hr) (ac (pv 1) (ac (pv 2) (ac (pv 0) ae)))))) ae))))))) (ak (aw cu)) aU)
  (ak (psS 4 gD (aj U9 (rmD hr) (ac (pv 4) ae)))))))
  (ak (aw cu)))))),yO h⟩
theorem Cw(D:Def K mg "is_word" kU nr f fd)(B:Blt mg){G:GQ}(T:cE P w K mg G)(U44:B8 P w K mg base 4):B6 P w K mg base 5:=by
 refine D.ok vv (by walk_at "l") fun _ _ _ _ _ _ _ _ hr h=>?_;have m_FORMS:=T.tb.mf;have d_FORMS:=T.tb.df;exact⟨mM K G.toGlo,(ah (bj (PW.pt (tm (cL (cK (aD iY rfl B.isinstance Ma (ac (pv 2) (ac (je (v:=.ty "tuple") rfl B.tuple Tg rfl) ae))))) (pA (aW cn (aD aV rfl B.len L7 (ac (pv 2) ae)) ai (ba _))))) (ak (aw cu)) aU)
  (ah (bj (PW.pt (tm (cL (cK (aD iY rfl B.isinstance Ma (aP (aZ cA (pv 2) ai (fun _ _=>rfl)) (ac (je (v:=.ty "str") rfl B.str boot_str rfl) ae))))) (pA (aW (yT d_FORMS) (aZ cA (pv 2) ai (fun _ _=>rfl)) (dR (v:=(.ref G.forms)) rfl m_FORMS rfl) rfl)))) (ak (aw cu)) aU)
  (ah (psS 3 vv (DO d_FORMS (dR (v:=(.ref G.forms)) rfl m_FORMS rfl) (aZ cA (pv 2) ai (fun _ _=>rfl)) (fun _ _=>rfl)))
  (ah (bj (aW FX (aD aV rfl B.len L7 (ac (pv 2) ae)) (au bG ai (aD aV rfl B.len L7 (ac (pv 3) ae))) (ba _)) (ak (aw cu)) aU)
  (ak (aw (aD (mG rfl) rfl B.all SL (bZ (bK (sc:=(am kU)) (NX:=["cards","hands","thing","form"]) (N:=B1) (ix:=[none,none,some 0,some 1]) rfl (by walk_at "c") (nG iX iX rfl B.zip (ac (pv 3) (aP (yf DN (pv 2) (Aq ai) Ap) ae))) (by intros;exact(dZ rfl (aX (pgC 0 B1) (aX (pgC 1 B1) cW)))) (by intros;exact bV) (by intros;exact(aj U44 (rmD hr) (ac (pv 2) (ac (pv 3) (ac (pv 0) (ac (pv 1) ae))))))) ae)))))))),BG T.tb.ok h⟩
theorem HX(D:Def K mg "fits" vx qS f fd)(B:Blt mg)(U22:zp P w K mg base 3)(U31:nu P w K mg base 3):B8 P w K mg base 4:=by
 refine D.ok HU (by walk_at "l") fun _ _ _ _ _ _ _ _ hr h=>?_;exact⟨uu K,(ah (bj (aW cn (pv 2) aH (ba _)) (ak (aw (aj U31 (rmD hr) (ac (pv 3) (aY (au bG (pv 1) ai) ae))))) aU)
  (ah (bj (aW cn (pv 2) aH (ba _)) (ak (aw (aj U31 (rmD hr) (ac (pv 3) (ac (pv 0) ae))))) aU)
  (ah (bj (aW cn (pv 2) aH (ba _)) (ak (aw (aj U31 (rmD hr) (ac (pv 3) (ac (pv 1) ae))))) aU)
  (ah (bj (aW cn (pv 2) aH (ba _)) (ak (aw (aj U22 (rmD hr) (ac (pv 3) (ac (pv 1) ae))))) aU)
  (ak (aw cu)))))),G0 h⟩
theorem Ai(D:Def K mg "parts_of" jG vq f fd)(B:Blt mg){G:GQ}(T:cE P w K mg G):B9 P w K mg base 1:=by
 refine D.ok rR (by walk_at "l") fun _ _ _ _ _ _ _ _ hr h=>?_;have m_FORMS:=T.tb.mf;have d_FORMS:=T.tb.df;exact⟨lx K G.toGlo,(ah (psS 1 rR (DO d_FORMS (dR (v:=(.ref G.forms)) rfl m_FORMS rfl) (aZ cA (pv 0) ai (fun _ _=>rfl)) (fun _ _=>rfl)))
  (ak (aw (bK (sc:=(am jG)) (NX:=["saying","form"]) (N:=["place","part"]) (ix:=[none,none]) rfl (by walk_at "c") (nG iX iX rfl B.zip (ac (pv 1) (aP (yf DN (pv 0) (Aq ai) Ap) ae))) (by intros;exact(dZ rfl (aX (pgC 0 ["place","part"]) (aX (pgC 1 ["place","part"]) cW)))) (by intros;exact(qB (aW cn (pv 0) aH (ba _)))) (by intros;exact(pv 1)))))),zV T.tb.ok h⟩
theorem vz(D:Def K mg "parts_of_all" ib vn f fd)(B:Blt mg)(U32:B9 P w K mg base 1):B7 P w K mg base 2:=by
 refine D.ok jH (by walk_at "l") fun _ _ _ _ _ _ _ _ hr h=>?_;exact⟨gQ K,(ah (psS 1 jH (bf ae))
  (ah (cy K7 rfl (bU (pv 0)) (pgS 2 jH) (ak (bc (tH MQ PySem.F.slot_list_extend PySem.F.type_list_extend CQ (pv 1) (ax (aj U32 (rmD hr) (ac (pv 2) ae)) ae)))))
  (ak (aw (pv 1))))),uw h⟩
theorem xu(D:Def K mg "first_view" gE oS f fd)(B:Blt mg)(U30:wg P w K mg base 1)(U0:xS P w K mg base 1):Ca P w K mg base 2:=by
 refine D.ok xq (by walk_at "l") fun _ _ _ _ _ _ _ _ hr h=>?_;exact⟨jq K,(ak (aw (aj U0 (rmD hr) (bZ (bK (sc:=(am gE)) (NX:=oS) (N:=["deal","hand"]) (ix:=[none,some 1]) rfl (by walk_at "c") (bU (pv 0)) (by intros;exact(pgC 0 ["deal","hand"])) (by intros;exact bV) (by intros;exact(aj U30 (rmD hr) (ac (pv 0) (ac (pv 1) ae))))) ae)))),xa h⟩
theorem FU(D:Def K mg "split" re qX f fd)(B:Blt mg)(U0:xS P w K mg base 1):Cb P w K mg base 2:=by
 refine D.ok FT (by walk_at "l") fun _ _ _ _ _ _ _ _ hr h=>?_;exact⟨qN K,(ak (aw (aj U0 (rmD hr) (ax (HH bP bP rfl rfl B.list rfl B.zip (ac (pv 0) (ac (pv 1) ae))) ae)))),E6 h⟩
theorem qt(D:Def K mg "least_with_same" dm ["marks"] f fd)(B:Blt mg):xS P w K mg base 1:=by
 refine D.ok eV (by walk_at "l") fun _ _ _ _ _ _ _ _ hr h=>?_;have hux:=hr.units64;exact⟨fj K,(ah (ny (i:=1) eV.nd rfl (Oj rfl) Ft)
  (ah (cy K7 rfl (qD bP rfl B.enumerate (by decide) (ac (pv 0) ae)) (dZ rfl (aX (pgS 2 eV) (aX (pgS 3 eV) cW))) (ak (bc (JS Pn PySem.F.type_dict_setdefault (wa hux) (pv 1) (ac (pv 3) (ac (pv 2) ae))))))
  (ak (aw (bK (sc:=(am dm)) (NX:=["marks","firsts","thing","mark"]) (N:=["mark","firsts"]) (ix:=[none,some 1]) rfl (by walk_at "c") (bU (pv 0)) (by intros;exact(pgC 0 ["mark","firsts"])) (by intros;exact bV) (by intros;exact(Ho hux (pv 1) (pv 0) (fun _ _=>rfl)))))))),pY h⟩
theorem Ee(D:Def K mg "joined" mz vk f fd)(B:Blt mg)(U39:xT P w K mg base 1)(U43:Cc P w K mg base 2):Cd P w K mg base 3:=by
 refine D.ok kW (by walk_at "l") fun _ _ _ _ _ _ _ _ hr h=>?_;exact⟨oG K,(ah (ny (i:=2) kW.nd rfl (Oj rfl) (ee (wX rfl) rfl B.list NZ (ax (ee wW rfl B.range SR (ac (pv 0) ae)) ae)))
  (ah (cy K7 rfl (bU (pv 1)) (pgS 3 kW) (ak (cy K7 rfl (qD bP rfl B.enumerate (by decide) (ac (pv 3) ae)) (dZ rfl (aX (pgS 4 kW) (aX (pgS 5 kW) cW))) (ak (bc (aj U43 (rmD hr) (ac (pv 2) (ac (pv 4) (ac (pv 5) ae)))))))))
  (ak (aw (bK (sc:=(am mz)) (NX:=Gj) (N:=["thing","points"]) (ix:=[none,some 2]) rfl (by walk_at "c") (dw rfl B.range (ac (pv 0) ae)) (by intros;exact(pgC 0 ["thing","points"])) (by intros;exact bV) (by intros;exact(aj U39 (rmD hr) (ac (pv 1) (ac (pv 0) ae))))))))),Dw h⟩
theorem HY(D:Def K mg "link" vy uY f fd)(B:Blt mg)(U39:xT P w K mg base 1):Cc P w K mg base 2:=by
 refine D.ok wk (by walk_at "l") fun _ _ _ _ _ _ _ _ hr h=>?_;exact⟨uh K,(ah (psS 3 wk (aj U39 (rmD hr) (ac (pv 0) (ac (pv 1) ae))))
  (ah (psS 4 wk (aj U39 (rmD hr) (ac (pv 0) (ac (pv 2) ae))))
  (ak (lO (aD (wp rfl) rfl B.min boot_min (ac (pv 3) (ac (pv 4) ae))) (pD (pv 0) (aD (CI rfl) rfl B.max SM (ac (pv 3) (ac (pv 4) ae))) lP))))),GT h⟩
theorem Ef(D:Def K mg "end_of" oU vb f fd)(B:Blt mg):xT P w K mg base 1:=by
 refine D.ok qp (by walk_at "l") fun _ _ _ _ _ _ _ _ hr h=>?_;exact⟨oF K,(ah (psS 2 qp (pv 1))
  (ah (rV K7 (aW FX (aZ bh (pv 0) (pv 2) (fun _ _=>rfl)) (pv 2) (ba _)) (ah (lO (aZ bh (pv 0) (aZ bh (pv 0) (pv 2) (fun _ _=>rfl)) (fun _ _=>rfl)) (pD (pv 0) (pv 2) lP))
  (ak (psS 2 qp (aZ bh (pv 0) (pv 2) (fun _ _=>rfl))))))
  (ak (aw (pv 2))))),Dv h⟩
theorem qu(D:Def K mg "truths_of" dy qW f fd)(B:Blt mg)(U46:xU P w K mg base 1)(U30:wg P w K mg base 1)(U40:Ce P w K mg base 1)(U38:Cd P w K mg base 3)(U41:vt P w K mg base 1)(U5:Cf P w K mg base 2)(U45:Cg P w K mg base 2):∀n,FnB P w K mg base (4+n) "truths_of" qW (bY K n)
 |0=>D.ok (k:=3) gF (fun vs H Q E h=>(qb h).elim) (fun cdv A outer s H vs Q E hr h=>(qb h).elim)
 |n+1=>by
  have U25:=qu D B U46 U30 U40 U38 U41 U5 U45 n;refine D.ok (k:=4+n) gF (by walk_at "l") fun _ _ _ _ _ _ _ _ hr h=>?_;exact⟨kg K n,(ah (psS 3 gF (aZ cA (pv 2) ai (fun _ _=>rfl)))
  (ah (bj (aW cn (pv 3) aH (ba _)) (ak (aw (bK (sc:=(am dy)) (NX:=uV) (N:=["deal","S"]) (ix:=[none,some 2]) rfl (by walk_at "c") (bU (pv 0)) (by intros;exact(pgC 0 ["deal","S"])) (by intros;exact bV) (by intros;exact(jP cn (aZ cA (pv 0) (aZ cA (pv 1) ai (fun _ _=>rfl)) (fun _ _=>rfl)) (aZ cA (pv 1) ai (fun _ _=>rfl)) (ba _)))))) aU)
  (ah (bj (aW cn (pv 3) aH (ba _)) (ak (aw (aj U45 (hr.mono (by omega)) (bZ (bK (sc:=(am dy)) (NX:=uV) (N:=["deal","views"]) (ix:=[none,some 1]) rfl (by walk_at "c") (bU (pv 0)) (by intros;exact(pgC 0 ["deal","views"])) (by intros;exact bV) (by intros;exact(aj U30 (hr.mono (by omega)) (ac (pv 0) (ax (aD aV rfl B.len L7 (ac (pv 1) ae)) ae))))) (aP (aZ bh (pv 1) (aZ cA (pv 2) ai (fun _ _=>rfl)) (fun _ _=>rfl)) ae))))) aU)
  (ah (bj (aW cn (pv 3) aH (ba _)) (ak (aw (bK (sc:=(am dy)) (NX:=uV) (N:=["truth"]) (ix:=[none]) rfl (by walk_at "c") (bU (aj U25 (hr.mono (by omega)) (ac (pv 0) (ac (pv 1) (aP (aZ cA (pv 2) ai (fun _ _=>rfl)) ae))))) (by intros;exact(pgC 0 ["truth"])) (by intros;exact bV) (by intros;exact(CB (pv 0)))))) aU)
  (ah (bj (aW cn (pv 3) aH (ba _)) (ak (aw (aj U46 (hr.mono (by omega)) (ax (aj U25 (hr.mono (by omega)) (ac (pv 0) (ac (pv 1) (aP (aZ cA (pv 2) ai (fun _ _=>rfl)) ae)))) (ax (aj U25 (hr.mono (by omega)) (ac (pv 0) (ac (pv 1) (aP (aZ cA (pv 2) ai (fun _ _=>rfl)) ae)))) ae))))) aU)
  (ah (bj (aW cn (pv 3) aH (ba _)) (ak (aw (aj U40 (hr.mono (by omega)) (ax (aj U25 (hr.mono (by omega)) (ac (pv 0) (ac (pv 1) (aP (aZ cA (pv 2) ai (fun _ _=>rfl)) ae)))) (ax (aj U25 (hr.mono (by omega)) (ac (pv 0) (ac (pv 1) (aP (aZ cA (pv 2) ai (fun _ _=>rfl)) ae)))) ae))))) aU)
  (ah (psS 4 gF (aj U25 (hr.mono (by omega)) (ac (pv 0) (ac (pv 1) (aP (aZ cA (pv 2) ai (fun _ _=>rfl)) ae)))))
  (ah (bj (aW cn (pv 3) aH (ba _)) (ak (aw (aj U41 (hr.mono (by omega)) (aP (aZ bh (pv 1) (aZ cA (pv 2) ai (fun _ _=>rfl)) (fun _ _=>rfl)) (ac (pv 4) ae))))) aU)
  (ah (A8 (i:=5) gF.nd rfl rfl (sc:=(am dy)) (NX:=uV) (N:=["hand","views"]) (ix:=[none,some 1]) rfl (by walk_at "c") (ya (aZ cA (pv 2) ai (fun _ _=>rfl))) (by intros;exact(pgC 0 ["hand","views"])) (by intros;exact bV) (by intros;exact(aZ bh (pv 1) (pv 0) (fun _ _=>rfl))))
  (ah (bj (aW cn (pv 3) aH (ba _)) (ak (aw (aj U5 (hr.mono (by omega)) (ac (pv 5) (ac (pv 4) ae))))) aU)
  (ak (aw (aj U41 (hr.mono (by omega)) (ax (aj U38 (hr.mono (by omega)) (ax (aD aV rfl B.len L7 (ac (pv 0) ae)) (ac (pv 5) ae))) (ac (pv 4) ae))))))))))))))),yJ h⟩
theorem HZ(D:Def K mg "both" qq jD f fd)(B:Blt mg):xU P w K mg base 1:=by
 refine D.ok HV (by walk_at "l") fun _ _ _ _ _ _ _ _ hr h=>?_;exact⟨ui K,(ak (aw (bK (sc:=(am qq)) (NX:=jD) (N:=qY) (ix:=[none,none]) rfl (by walk_at "c") (nG bP bP rfl B.zip (ac (pv 0) (ac (pv 1) ae))) (by intros;exact(dZ rfl (aX (pgC 0 qY) (aX (pgC 1 qY) cW)))) (by intros;exact bV) (by intros;exact(nv (pv 0) (lM (pv 1))))))),GV h⟩
theorem Eg(D:Def K mg "either" mB jD f fd)(B:Blt mg):Ce P w K mg base 1:=by
 refine D.ok Ed (by walk_at "l") fun _ _ _ _ _ _ _ _ hr h=>?_;exact⟨oI K,(ak (aw (bK (sc:=(am mB)) (NX:=jD) (N:=qY) (ix:=[none,none]) rfl (by walk_at "c") (nG bP bP rfl B.zip (ac (pv 0) (ac (pv 1) ae))) (by intros;exact(dZ rfl (aX (pgC 0 qY) (aX (pgC 1 qY) cW)))) (by intros;exact bV) (by intros;exact(Jr (pv 0) (lM (pv 1))))))),Dz h⟩
theorem FV(D:Def K mg "known" nP va f fd)(B:Blt mg):vt P w K mg base 1:=by
 refine D.ok oV (by walk_at "l") fun _ _ _ _ _ _ _ _ hr h=>?_;exact⟨qL K,(ah (ny (i:=2) oV.nd rfl (Oj rfl) (au DM (bf (af cu ae)) (aD aV rfl B.len L7 (ac (pv 0) ae))))
  (ah (cy K7 rfl (nG bP bP rfl B.zip (ac (pv 0) (ac (pv 1) ae))) (dZ rfl (aX (pgS 3 oV) (aX (pgS 4 oV) cW))) (ak (bj (cL (cK (pv 4))) (ak (lO cu (pD (pv 2) (pv 3) lP))) aU)))
  (ak (aw (bK (sc:=(am nP)) (NX:=Gm) (N:=["least","sure"]) (ix:=[none,some 2]) rfl (by walk_at "c") (bU (pv 0)) (by intros;exact(pgC 0 ["least","sure"])) (by intros;exact bV) (by intros;exact(aZ bh (pv 1) (pv 0) (fun _ _=>rfl)))))))),E4 h⟩
theorem vA(D:Def K mg "known_to_all" ie vf f fd)(B:Blt mg)(U46:xU P w K mg base 1)(U41:vt P w K mg base 1):Cf P w K mg base 2:=by
 refine D.ok gj (by walk_at "l") fun _ _ _ _ _ _ _ _ hr h=>?_;exact⟨gO K,(ah (psS 2 gj (au DM (bf (af cu ae)) (aD aV rfl B.len L7 (ac (pv 1) ae))))
  (ah (cy K7 rfl (bU (pv 0)) (pgS 3 gj) (ak (psS 2 gj (aj U46 (rmD hr) (ac (pv 2) (ax (aj U41 (rmD hr) (ac (pv 3) (ac (pv 1) ae))) ae))))))
  (ak (aw (pv 2))))),uj h⟩
theorem Ia(D:Def K mg "seen" qr oT f fd)(B:Blt mg)(U41:vt P w K mg base 1):Cg P w K mg base 2:=by
 refine D.ok HW (by walk_at "l") fun _ _ _ _ _ _ _ _ hr h=>?_;have hu:=hr.units0;exact⟨uk K,(ak (aw (aj U41 (rmD hr) (ac (pv 1) (bZ (bK (sc:=(am qr)) (NX:=oT) (N:=B2) (ix:=[none,none,some 0]) rfl (by walk_at "c") (nG bP bP rfl B.zip (ac (pv 0) (ac (pv 1) ae))) (by intros;exact(dZ rfl (aX (pgC 0 B2) (aX (pgC 1 B2) cW)))) (by intros;exact bV) (by intros;exact(jP (Iu hu) (pv 0) (aZ bh (pv 2) (pv 1) (fun _ _=>rfl)) (ba _)))) ae))))),GX h⟩
theorem sY(D:Def K mg "refuse_unless" eW jb f fd)(B:Blt mg):kr P w K mg base 1:=by
 refine D.ok jc (by walk_at "l") fun _ _ _ _ _ _ _ _ hr h=>?_;exact⟨eU K,(ak (bj (cL (cK (pv 0))) (ak jO) aU)),mh h⟩
theorem rA{f:Addr}{fd:KD}(D:Def K mg "refuse_unless" eW jb f fd)(B:Blt mg){G:GQ}(T:cE P w K mg G):FnX P w K mg base 1 "refuse_unless" jb (be K G):=by
 have Z0:bg P w K mg base CX0 1 f fd jb (bp K):=by
  refine D.fn.ok jc (fun vs H Q E h=>rk h) (fun cdv A outer s H vs Q E hr h=>?_);have hu:=hr.units0;have hux:=hr.units64;exact⟨eU K,(ak (bj (cL (cK (pv 0))) (ak jO) aU)),mh h⟩
 have Z2:bg P w K mg base (CX1 P w) 1 f fd jb (fk K G):=by
  refine D.fnX jc (fun vs H Q E h=>ql h) (fun cdv A outer s H vs Q E hr h=>?_);have hu:=hr.units0;have hux:=hr.units64;exact⟨fK K G E,(ak (bj (cL (cK (pv 0))) (ak (yU rfl T.ex_NoHand rfl T.m_NoHand DP (ac (pv 1) ae))) aU)),sy h⟩
 exact⟨f,fd,bg.or Z0.up Z2,D.m,D.fn.kp,D.b⟩
theorem zw(D:Def K mg "are_cards" iH oR f fd)(B:Blt mg)(U31:nu P w K mg base 3):xV P w K mg base 4:=by
 refine D.ok zr (by walk_at "l") fun _ _ _ _ _ _ _ _ hr h=>?_;exact⟨km K,(ak (aw (nv (aD iY rfl B.isinstance Ma (ac (pv 0) (ac (je (v:=.ty "list") rfl B.list NZ rfl) ae))) (lM (aD (mG rfl) rfl B.all SL (bZ (bK (sc:=(am iH)) (NX:=oR) (N:=["card","cards"]) (ix:=[none,some 1]) rfl (by walk_at "c") (bU (pv 0)) (by intros;exact(pgC 0 ["card","cards"])) (by intros;exact bV) (by intros;exact(aj U31 (rmD hr) (ac (pv 0) (ac (pv 1) ae))))) ae)))))),y8 h⟩
theorem xv(D:Def K mg "least_held" jI lB f fd)(B:Blt mg):xW P w K mg base 1:=by
 refine D.ok ph (by walk_at "l") fun _ _ _ _ _ _ _ _ hr h=>?_;exact⟨jv K,(ah (cy K7 rfl (bU (pv 2)) (pgS 3 ph) (ak (bj (aW cn (aZ cA (pv 0) (pv 3) (fun _ _=>rfl)) (pv 1) (ba _)) (ak (aw (pv 3))) aU)))
  (ak (aw dg))),xc h⟩
theorem zx(D:Def K mg "_law_cell" kH uW f fd)(B:Blt mg):xX P w K mg base 1:=by
 refine D.ok jJ (by walk_at "l") fun _ _ _ _ _ _ _ _ hr h=>?_;exact⟨kf K,(ah (bj (aW FY (pv 1) (aD aV rfl B.len L7 (ac (pv 0) ae)) (ba _)) (ak (aw (aZ bh (pv 0) (pv 1) (fun _ _=>rfl)))) aU)
  (ah (psS 2 jJ (au bG (au gL (pv 1) ai) ai))
  (ah (bj (aW qy (aD aV rfl B.len L7 (ac (pv 0) ae)) ai (ba _)) (ak (psS 2 jJ (au bG (au gL (aZ bh (pv 0) (au bX (au gL (pv 1) ai) (aD aV rfl B.len L7 (ac (pv 0) ae))) (fun _ _=>rfl)) ai) (au gL (pv 1) ai)))) aU)
  (ah (psS 2 jJ (au bX (au gL (pv 2) (pv 2)) ai))
  (ak (aw (au bX (au gL (au bG (pv 2) (pv 1)) (au bG (pv 2) ai)) ai))))))),yG h⟩
theorem vB(D:Def K mg "_law_product" ig vm f fd)(B:Blt mg):Ch P w K mg base 1:=by
 refine D.ok gk (by walk_at "l") fun _ _ _ _ _ _ _ _ hr h=>?_;exact⟨gN K,(ah (psS 1 gk ai)
  (ah (cy K7 rfl (dw rfl B.range (ac (pv 0) ae)) (pgS 2 gk) (ak (psS 1 gk (au gL (pv 1) (au bG (pv 2) ai)))))
  (ak (aw (pv 1))))),t9 h⟩
theorem xw(D:Def K mg "_law_count" jK uX f fd)(B:Blt mg)(U7:Ch P w K mg base 1):Ci P w K mg base 2:=by
 refine D.ok iT (by walk_at "l") fun _ _ _ _ _ _ _ _ hr h=>?_;exact⟨jp K,(ah (psS 2 iT (aj U7 (rmD hr) (ac (pv 0) ae)))
  (ah (cy K7 rfl (bU (au kQ (pv 1) (bf (aY (au dE (pv 0) (aD (kK rfl) rfl B.sum Rl (ac (pv 1) ae))) ae)))) (pgS 3 iT) (ak (psS 2 iT (au fm (pv 2) (aj U7 (rmD hr) (ac (pv 3) ae))))))
  (ak (aw (pv 2))))),w9 h⟩
theorem zy(D:Def K mg "_law_pack" kI uT f fd)(B:Blt mg)(U27:xX P w K mg base 1)(U17:Ci P w K mg base 2):Cj P w K mg base 3:=by
 refine D.ok fC (by walk_at "l") fun _ _ _ _ _ _ _ _ hr h=>?_;exact⟨kl K,(ah (psS 3 fC (au bX (aj U27 (rmD hr) (ac (pv 0) (ac (pv 1) ae))) ai))
  (ah (bj (aW cn (au bX (au fm (aj U27 (rmD hr) (ac (pv 0) (ac (pv 1) ae))) ai) ai) ai (ba _)) (ak (psS 3 fC (au bG ai (au bX (au fm (aj U27 (rmD hr) (ac (pv 0) (ac (pv 1) ae))) ai) ai)))) aU)
  (ah (psS 4 fC (bf ae))
  (ah (cy K7 rfl (dw rfl B.range (aY (au bG ai (au bX (aj U27 (rmD hr) (ac (pv 0) (aY (au bG (pv 1) ai) ae))) ai)) ae)) (pgS 5 fC) (ak (bc (tH MQ Ou Ov kJ (pv 4) (aY (au bX (aj U27 (rmD hr) (ac (pv 0) (aY (au bG (au bG (pv 1) ai) (pv 5)) ae))) (au bG (aD (wp rfl) rfl B.min boot_min (af ai (aY (au dE (pv 3) (aD (kK rfl) rfl B.sum Rl (ac (pv 4) ae))) ae))) ai)) ae)))))
  (ah (rV K7 (aW qy (aj U17 (rmD hr) (ac (pv 3) (ac (pv 4) ae))) (pv 2) (ba _)) (ah (bj (aW qy (aD (pO rfl) rfl B.max SM (ac (pv 4) ae)) (au dE (pv 3) (aD (kK rfl) rfl B.sum Rl (ac (pv 4) ae))) (ba _)) (ak (lO (au dE (aD (pO rfl) rfl B.max SM (ac (pv 4) ae)) ai) (pD (pv 4) (tH MQ Qu PySem.F.type_list_index EC (pv 4) (ax (aD (pO rfl) rfl B.max SM (ac (pv 4) ae)) ae)) lP))) aU)
  (ak (psS 3 fC (au dE (pv 3) ai)))))
  (ak (aw (aS (ac (pv 3) (ac (pv 4) ae)))))))))),yS h⟩
theorem vC(D:Def K mg "_law_no_hand" ii nn f fd)(B:Blt mg):Ck P w K mg base 1:=by
 refine D.ok mV (by walk_at "l") fun _ _ _ _ _ _ _ _ hr h=>?_;exact⟨hU K,(ah (psS 2 mV (au bX (au fm (pv 0) ai) (au yb ai ai)))
  (ak (aw (aZ bh (bf (ac (pv 1) (iB (tw pG ai) (aY (au bG (pv 1) (pv 2)) (af dg (af cu (af aH (aE (aS (af ai ae)) (gs (bf (af ai ae)) (aY (au dE (au dE ai ai) (pv 2)) ae)))))))))) (au bX (pv 0) ai) (fun _ _=>rfl))))),uL h⟩
theorem sZ(D:Def K mg "_law_no_group" gm nn f fd)(B:Blt mg):Cl P w K mg base 1:=by
 refine D.ok mC (by walk_at "l") fun _ _ _ _ _ _ _ _ hr h=>?_;exact⟨gf K,(ah (psS 2 mC (bf (gs (bf (af ai ae)) (aE (aS (ac (pv 1) ae)) (aE (aS (af ai (af ai ae))) (aE (aS (af ai (af ai ae))) (aE (aS (iB (tw pG ai) ae)) (aE (aS (af cu ae)) (af dg (af ai (aE (aS (af ai (af aH ae))) (af aH (aE (aS (aY (au dE (pv 1) ai) (ac (pv 1) ae))) ae)))))))))))))
  (ak (aw (aZ bh (pv 2) (au bX (pv 0) ai) (fun _ _=>rfl))))),sS h⟩
theorem rB(D:Def K mg "_law_no_saying" fP uS f fd)(B:Blt mg):Cm P w K mg base 1:=by
 refine D.ok cH (by walk_at "l") fun _ _ _ _ _ _ _ _ hr h=>?_;exact⟨fO K,(ah (psS 3 cH (aS (af aH (af ai ae))))
  (ah (cy K7 rfl (dw rfl B.range (af ai ae)) (pgS 4 cH) (ak (psS 3 cH (aS (af aH (ac (pv 3) ae))))))
  (ah (psS 5 cH (bf (aE (aS (af aH (aY (au bG (pv 2) ai) (af ai ae)))) (aE (aS (af aH (af ai (ac (pv 1) ae)))) (aE (aS (af aH (ac (pv 2) ae))) (gs (bf (af aH (af ai ae))) (af aH (af dg (aE (aS (af aH ae)) (ac (pv 3) ae))))))))))
  (ah (psS 5 cH (au kQ (pv 5) (bf (aE (aS (af aH (ac (pv 2) (aE (aS (af aH (af ai ae))) ae)))) (aE (aS (af aH (gs (bf (af ai ae)) (aE (aS (af aH (af ai ae))) ae)))) (aE (aS (af aH (aE (aS (af aH (af ai ae))) ae))) (aE (aS (af aH (aE (aS (af aH (af ai ae))) ae))) ae)))))))
  (ak (aw (aZ bh (pv 5) (au bX (pv 0) ai) (fun _ _=>rfl)))))))),rq h⟩
theorem xy(D:Def K mg "_law_heard" jL zm f fd)(B:Blt mg){G:GQ}(T:cE P w K mg G)(m_ValueError:mg "ValueError"=none)(FX_Table_saw:gu P w K mg base 4 G.Table "saw" ja (jy K G))(FX_Table_show:gu P w K mg base 5 G.Table "show" lm (iP K G))(FX_Table_truths:gu P w K mg base 40 G.Table "truths" gh (cZ K G))(FX_Table_view:gu P w K mg base 4 G.Table "view" h9 (iL K G))(FX_Table_word:gu P w K mg base 41 G.Table "word" hZ (iQ K G)):Cn P w K mg base G 42:=by
 refine D.ok fT (by walk_at "l") fun _ _ _ _ _ _ _ _ hr h=>?_;exact⟨jC K G,(ah (psS 5 fT (bf ae))
  (ah (Hc (D:=G.CardError) rfl rfl rfl (fun _=>rfl) rfl T.m_CardError fT.nd rfl rfl (fun E pn xe hx=>(ak (bj (aW cn (pv 1) ai (ba _)) (ak (bc (jY FX_Table_word (rmD hr) hx T.cl_Table (pv 0) (ac (pv 2) (ac (pv 3) ae))))) (ak (bj (aW cn (pv 1) ai (ba _)) (ak (bc (jY FX_Table_show (rmD hr) hx T.cl_Table (pv 0) (ac (pv 2) (ac (pv 3) (ac (pv 4) ae)))))) (ak (bj (aW cn (pv 1) ai (ba _)) (ak (bc (jY FX_Table_view (rmD hr) hx T.cl_Table (pv 0) (ac (pv 2) ae)))) (ak (bj (aW cn (pv 1) ai (ba _)) (ak (bc (jY FX_Table_saw (rmD hr) hx T.cl_Table (pv 0) (ac (pv 2) (ac (pv 3) ae))))) (ak (bc (jY FX_Table_truths (rmD hr) hx T.cl_Table (pv 0) (ac (pv 2) ae))))))))))))) (fun a C oe pn hc hm=>(ah (psS 7 fT (aD (oM hm hc) rfl B.isinstance Ma (ac (pv 6) (aE (aS (ac (dR (v:=.ref G.NoPack) rfl T.m_NoPack rfl) (ac (dR (v:=.ref G.NoRow) rfl T.m_NoRow rfl) (ac (dR (v:=.ref G.TooMany) rfl T.m_TooMany rfl) ae)))) ae))))
  (ak (psS 5 fT (bf (ax (aD (oM hm hc) rfl B.isinstance Ma (ac (pv 6) (ac (dR (v:=.ref G.NoHand) rfl T.m_NoHand rfl) ae))) (ax (aD (oM hm hc) rfl B.isinstance Ma (ac (pv 6) (ac (dR (v:=.ref G.NoSaying) rfl T.m_NoSaying rfl) ae))) (ax (aD (oM hm hc) rfl B.isinstance Ma (ac (pv 6) (ac (je (v:=.ty "ValueError") rfl m_ValueError uA rfl) ae))) (ac (pv 7) ae))))))))))
  (ak (aw (pv 5))))),xp T.ok h⟩
theorem xz(D:Def K mg "_law_wrong" jM zn f fd)(B:Blt mg)(U4:Cl P w K mg base 1)(U6:Ck P w K mg base 1)(U1:Cm P w K mg base 1):Co P w K mg base 2:=by
 refine D.ok bF (by walk_at "l") fun _ _ _ _ _ _ _ _ hr h=>?_;exact⟨jA K,(ah (psS 4 bF (au fm (pv 0) ai))
  (ah (psS 5 bF (aj U6 (rmD hr) (ac (pv 4) (ac (pv 2) ae))))
  (ah (psS 6 bF (aZ bh (bf (ac (pv 1) (iB (tw pG ai) (af dg (af cu (af aH (gs (bf (af ai ae)) (aY (au bG (pv 1) (au bX (pv 4) (au yb ai ai))) ae)))))))) (au bX (au fm (pv 4) ai) ai) (fun _ _=>rfl)))
  (ah (psS 7 bF (aZ bh (bf (af dg (aE (aS ae) (af ai (af aH (Fe G8 ae)))))) (au bX (au fm (pv 4) ai) ai) (fun _ _=>rfl)))
  (ah (psS 8 bF (aZ bh (bf (ac (pv 3) (iB (tw pG ai) (af dg (af cu (af aH (aY (au bG (pv 3) (au bX (pv 4) (au yb ai ai))) ae))))))) (au bX (au fm (pv 4) ai) ai) (fun _ _=>rfl)))
  (ah (psS 9 bF (aS (af aH (af ai ae))))
  (ah (psS 10 bF (bf (aE (aS (af ai (ax (aj U4 (rmD hr) (ac (pv 4) (ac (pv 2) ae))) (ac (pv 9) (af dg (af ai ae)))))) (aE (aS (af ai (aE (aS (af ai ae)) (ax (aj U1 (rmD hr) (ac (pv 4) (ac (pv 1) (ac (pv 2) ae)))) (af dg (af ai ae)))))) ae))))
  (ah (psS 10 bF (au kQ (pv 10) (bf (aE (aS (af ai (ax (aj U4 (rmD hr) (ac (pv 4) (ac (pv 2) ae))) (ax (aj U1 (rmD hr) (aY (au fm (pv 4) ai) (ac (pv 1) (ac (pv 2) ae)))) (af dg (af ai ae)))))) ae))))
  (ah (psS 10 bF (au kQ (pv 10) (bf (aE (aS (af ai (ac (pv 5) (af ai (gs (bf ae) (af ai ae)))))) (aE (aS (af ai (af ai (aP (aZ bh (bf (aY (au bG (pv 2) ai) (iB (tw pG ai) (af dg (af cu ae))))) (au bX (pv 4) ai) (fun _ _=>rfl)) (gs (bf ae) (af ai ae)))))) ae)))))
  (ah (psS 10 bF (au kQ (pv 10) (bf (aE (aS (af ai (af ai (af ai (aP (aZ bh (bf (ac (pv 7) (gs (bf (ac (pv 6) ae)) ae))) (au bX (pv 4) ai) (fun _ _=>rfl)) (af ai ae)))))) (aE (aS (aY (au bG ai (au bX (pv 4) ai)) (ac (pv 5) (af ai (af dg (af ai ae)))))) ae)))))
  (ah (psS 10 bF (au kQ (pv 10) (bf (aP (aZ bh (bf (aE (aS (af ai (af ai (ac (pv 8) (af dg (af ai ae)))))) (aE (aS (af ai (ax (aj U1 (rmD hr) (aY (au fm (pv 4) ai) (ac (pv 1) (ac (pv 2) ae)))) (af dg (af dg (af ai ae)))))) ae))) (au bX (pv 4) ai) (fun _ _=>rfl)) ae))))
  (ak (aw (aZ bh (pv 10) (au bX (pv 0) ai) (fun _ _=>rfl))))))))))))))),xn h⟩
theorem xB(D:Def K mg "_law_stand" gG sW f fd)(B:Blt mg){G:GQ}(T:cE P w K mg G)(U26:Cr P w K mg base G 4)(U12:FQ P w K mg base G 4):Cp P w K mg base G 5:=by
 refine D.ok xr (by walk_at "l") fun _ _ _ _ _ _ _ _ hr h=>?_;exact⟨jB K G,(ak (aw (FL (sc:=(am gG)) (NX:=sW) (N:=B0) (ix:=[none,some 0,some 2]) (own:="_law_hand") rfl (by refine⟨rfl,?_,rfl,fun _ _=>rfl,fun _=>rfl,?_,?_,?_,rfl,?_⟩<;>decide+kernel) (dw rfl B.range (ac (pv 1) ae)) (by intros;exact(vE (i:=0) (show(B0:List Str).Nodup by decide+kernel) rfl (Oj rfl) (hf:=.inl Jp))) (by intros;exact bV) (by intros;exact(aS (ax (dc U12 (rmD hr) T.cl_Table (pv 1) (ac (pv 0) ae)) (bZ (bK (sc:=_) (hsc:=rfl) (NX:=B0) (N:=Gn) (ix:=[none,some 0,some 1]) rfl (by walk_at "e") (dw rfl B.range (ac (pv 2) ae)) (by intros;exact(pgC 0 Gn)) (by intros;exact bV) (by intros;exact(dc U26 (rmD hr) T.cl_Table (pv 2) (ac (pv 1) (ac (pv 0) ae))))) ae))))))),xo h⟩
theorem Jq(D:Def K mg "law" xY qZ f fd)(B:Blt mg){G:GQ}(T:cE P w K mg G)(U11:FnI P w K mg base 6 G.Table lC (fS K G))(U26:Cr P w K mg base G 4)(U14:FR P w K mg base G 5)(U18:FS P w K mg base G 41)(U27:xX P w K mg base 1)(U20:Cn P w K mg base G 42)(U23:Cj P w K mg base 3)(U19:Cp P w K mg base G 5)(U16:Co P w K mg base 2)(U33:B5 P w K mg base 5):bg P w K mg base CX0 43 f fd qZ (tN K):=by
 refine D.fn.ok fD (by walk_at "l") fun _ _ _ _ _ _ _ _ hr h=>?_;have hux:=hr.units64;exact⟨xP K G,(ah (lO (aj U23 (rmD hr) (ac (pv 0) (af ai (af ai ae)))) (dZ rfl (aX (pgS 1 fD) (aX (pgS 2 fD) cW))))
  (ah (psS 3 fD (aD aV rfl B.len L7 (ac (pv 2) ae)))
  (ah (psS 4 fD (aD aV rfl B.len L7 (ax (aj U33 (rmD hr) (ac (pv 1) (ac (pv 2) ae))) ae)))
  (ah (psS 5 fD (Fi U11 (rmD hr) T.m_Table (ac (pv 1) (ac (pv 2) ae))))
  (ah (bj (aW cn (au bX (aj U27 (rmD hr) (ac (pv 0) (af ai ae))) ai) ai (ba _)) (ak (bc (dc U18 (rmD hr) T.cl_Table (pv 5) (aE (aS (af ai ae)) (aE (aS (af aH (aY (au dE (pv 3) ai) ae))) ae))))) (ak (bc (dc U14 (rmD hr) T.cl_Table (pv 5) (aY (au dE (pv 3) ai) (ac (pv 3) (ax (ee (wX rfl) rfl B.list NZ (ax (ee wW rfl B.range SR (ac (pv 1) ae)) ae)) ae)))))))
  (ah (psS 6 fD (aj U19 (rmD hr) (ac (pv 5) (ac (pv 3) (ac (pv 4) ae)))))
  (ah (cy K7 rfl (dw rfl B.range (af ai ae)) (pgS 7 fD) (ah (lO (aj U16 (rmD hr) (ax (aj U27 (rmD hr) (ac (pv 0) (aY (au bG ai (pv 7)) ae))) (ac (pv 1) (ac (pv 3) (ac (pv 4) ae))))) (dZ rfl (aX (pgS 8 fD) (aX (pgS 9 fD) (aX (pgS 10 fD) (aX (pgS 11 fD) (aX (pgS 12 fD) cW)))))))
  (ah (bj (aW (zi hux) (aj U20 (rmD hr) (ac (pv 5) (ac (pv 8) (ac (pv 9) (ac (pv 10) (ac (pv 11) ae)))))) (bf (rO (jP cn (pv 12) ai (ba _)) (rO (jP cn (pv 12) ai (ba _)) (af cu (af cu ae))))) (ba _)) (ak (aw cu)) aU)
  (ak (bj (aW (zi hux) (aj U19 (rmD hr) (ac (pv 5) (ac (pv 3) (ac (pv 4) ae)))) (pv 6) (ba _)) (ak (aw cu)) aU)))))
  (ak (aw (nv (jP (Fv hux) (aj U20 (rmD hr) (ac (pv 5) (af ai (aE (aS (af ai ae)) (aE (aS (af aH (af ai ae))) (af dg ae)))))) (bf ae) (ba _)) (lM (jP cn (aD aV rfl B.len L7 (ax (dc U26 (rmD hr) T.cl_Table (pv 5) (af ai (af ai ae))) ae)) (au bG (aD aV rfl B.len L7 (aP (aZ bh (aZ cA (aZ bh (pv 6) ai (fun _ _=>rfl)) ai (fun _ _=>rfl)) ai (fun _ _=>rfl)) ae)) ai) (ba _))))))))))))),Jj h⟩
theorem xC{G:GQ}(D:yX K G.Table "Table.__init__" gH lC f fd)(B:Blt mg)(T:cE P w K mg G)(U33:B5 P w K mg base 5)(U15:Ca P w K mg base 2):FnI P w K mg base 6 G.Table lC (fS K G):=by
 refine D.ok xt (by walk_at "l") fun _ _ _ _ _ _ _ _ hr h=>?_;exact⟨jw K G,(ah (nC (pv 0) (aj U33 (rmD hr) (ac (pv 1) (ac (pv 2) ae))) rfl)
  (ah (nC (pv 0) (pv 1) rfl)
  (ah (nC (pv 0) (ee qP rfl B.list NZ (ac (pv 2) ae)) rfl)
  (ah (nC (pv 0) (aD aV rfl B.len L7 (ac (pv 2) ae)) rfl)
  (ah (nC (pv 0) (bK (sc:=(am gH)) (NX:=lC) (N:=["hand","self"]) (ix:=[none,some 0]) rfl (by walk_at "c") (dw rfl B.range (aA (aR (pv 0) rfl) ae)) (by intros;exact(pgC 0 ["hand","self"])) (by intros;exact bV) (by intros;exact(aj U15 (rmD hr) (aA (aR (pv 1) rfl) (ac (pv 0) ae))))) rfl)
  (ak (nC (pv 0) (bf ae) rfl))))))),xf T.ct h⟩
theorem xD{G:GQ}(D:dQ K G.Table "view" "Table.view" gI h9 f fd)(B:Blt mg)(T:cE P w K mg G)(U31:nu P w K mg base 3)(U2:kr P w K mg base 1):FQ P w K mg base G 4:=by
 refine D.ok iU (by walk_at "l") fun _ _ _ _ _ _ _ _ hr h=>?_;exact⟨gz K G,(ah (bc (aj U2 (rmD hr) (ax (aj U31 (rmD hr) (ac (pv 1) (aA (aR (pv 0) rfl) ae))) (af aH ae))))
  (ak (aw (ee qP rfl B.list NZ (aP (aZ bh (aR (pv 0) rfl) (pv 1) (fun _ _=>rfl)) ae))))),oX T.ct h⟩
theorem wl{G:GQ}{f:Addr}{fd:KD}(D:dQ K G.Table "view" "Table.view" gI h9 f fd)(B:Blt mg)(T:cE P w K mg G)(U31:nu P w K mg base 3)(U2:kr P w K mg base 1)(FX_refuse_unless:FnX P w K mg base 1 "refuse_unless" jb (be K G)):gu P w K mg base 4 G.Table "view" h9 (iL K G):=by
 have Z0:bg P w K mg base CX0 4 f fd h9 (dU K G):=by
  refine D.fn.ok iU (fun vs H Q E h=>vU h) (fun cdv A outer s H vs Q E hr h=>?_);have hu:=hr.units0;have hux:=hr.units64;exact⟨gz K G,(ah (bc (aj U2 (rmD hr) (ax (aj U31 (rmD hr) (ac (pv 1) (aA (aR (pv 0) rfl) ae))) (af aH ae))))
  (ak (aw (ee qP rfl B.list NZ (aP (aZ bh (aR (pv 0) rfl) (pv 1) (fun _ _=>rfl)) ae))))),oX T.ct h⟩
 have Z1:bg P w K mg base (CX1 P w) 4 f fd h9 (gT K G):=by
  refine D.fnX iU (fun vs H Q E h=>uE h) (fun cdv A outer s H vs Q E hr h=>?_);have hu:=hr.units0;have hux:=hr.units64;exact⟨gW K G E,(ah (bc (i9 FX_refuse_unless (rmD hr) mQ (ax (aj U31 (rmD hr) (ac (pv 1) (aA (aR (pv 0) rfl) ae))) (af aH ae))))
  gS),vY T.ct h⟩
 have Z2:bg P w K mg base (CX1 P w) 4 f fd h9 (gU K G):=by
  refine D.fnX iU (fun vs H Q E h=>uF h) (fun cdv A outer s H vs Q E hr h=>?_);have hu:=hr.units0;have hux:=hr.units64;exact⟨o0 K G E,gS,xj T.ct h⟩
 exact⟨f,fd,bg.or Z0.up (bg.or Z1 Z2),D.mt,D.b⟩
theorem xE{G:GQ}(D:dQ K G.Table "word" "Table.word" gJ hZ f fd)(B:Blt mg)(T:cE P w K mg G)(U10:wj P w K mg base G 3)(U8:Cs P w K mg base G 40)(U22:zp P w K mg base 3)(U2:kr P w K mg base 1):FS P w K mg base G 41:=by
 refine D.ok iV (by walk_at "l") fun _ _ _ _ _ _ _ _ hr h=>?_;exact⟨gA K G,(ah (bc (aj U2 (rmD hr) (ax (aj U22 (rmD hr) (ac (pv 1) (aA (aR (pv 0) rfl) ae))) (af aH ae))))
  (ak (aw (dc U10 (rmD hr) T.cl_Table (pv 0) (ac (pv 1) (ax (dc U8 (rmD hr) T.cl_Table (pv 0) (ac (pv 2) ae)) ae)))))),oY T.ct h⟩
theorem wm{G:GQ}{f:Addr}{fd:KD}(D:dQ K G.Table "word" "Table.word" gJ hZ f fd)(B:Blt mg)(T:cE P w K mg G)(U10:wj P w K mg base G 3)(U8:Cs P w K mg base G 40)(U22:zp P w K mg base 3)(U2:kr P w K mg base 1)(FX_Table_truths:gu P w K mg base 40 G.Table "truths" gh (cZ K G))(FX_refuse_unless:FnX P w K mg base 1 "refuse_unless" jb (be K G)):gu P w K mg base 41 G.Table "word" hZ (iQ K G):=by
 have Z0:bg P w K mg base CX0 41 f fd hZ (dW K G):=by
  refine D.fn.ok iV (fun vs H Q E h=>vW h) (fun cdv A outer s H vs Q E hr h=>?_);have hu:=hr.units0;have hux:=hr.units64;exact⟨gA K G,(ah (bc (aj U2 (rmD hr) (ax (aj U22 (rmD hr) (ac (pv 1) (aA (aR (pv 0) rfl) ae))) (af aH ae))))
  (ak (aw (dc U10 (rmD hr) T.cl_Table (pv 0) (ac (pv 1) (ax (dc U8 (rmD hr) T.cl_Table (pv 0) (ac (pv 2) ae)) ae)))))),oY T.ct h⟩
 have Z1:bg P w K mg base (CX1 P w) 41 f fd hZ (g0 K G):=by
  refine D.fnX iV (fun vs H Q E h=>uJ h) (fun cdv A outer s H vs Q E hr h=>?_);have hu:=hr.units0;have hux:=hr.units64;exact⟨hJ K G E,(ah (bc (i9 FX_refuse_unless (rmD hr) mQ (ax (aj U22 (rmD hr) (ac (pv 1) (aA (aR (pv 0) rfl) ae))) (af aH ae))))
  (ak (aw (dc U10 (rmD hr) T.cl_Table (pv 0) (ac (pv 1) (ax (jY FX_Table_truths (rmD hr) mQ T.cl_Table (pv 0) (ac (pv 2) ae)) ae)))))),v7 T.ct h⟩
 have Z2:bg P w K mg base (CX1 P w) 41 f fd hZ (g9 K G):=by
  refine D.fnX iV (fun vs H Q E h=>uK h) (fun cdv A outer s H vs Q E hr h=>?_);have hu:=hr.units0;have hux:=hr.units64;exact⟨pc K G E,gS,xm T.ct h⟩
 exact⟨f,fd,bg.or Z0.up (bg.or Z1 Z2),D.mt,D.b⟩
theorem xF{G:GQ}(D:dQ K G.Table "show" "Table.show" dN lm f fd)(B:Blt mg)(T:cE P w K mg G)(m_set:mg "set"=none)(U10:wj P w K mg base G 3)(U21:xV P w K mg base 4)(U31:nu P w K mg base 3)(U13:xW P w K mg base 1)(U2:kr P w K mg base 1):FR P w K mg base G 5:=by
 refine D.ok dY (by walk_at "l") fun _ _ _ _ _ _ _ _ hr h=>?_;exact⟨gB K G,(ah (bc (aj U2 (rmD hr) (ax (aj U31 (rmD hr) (ac (pv 1) (aA (aR (pv 0) rfl) ae))) (af aH ae))))
  (ah (bc (aj U2 (rmD hr) (ax (aj U31 (rmD hr) (ac (pv 2) (aY (au bG (aR (pv 0) rfl) ai) ae))) (af aH ae))))
  (ah (bc (aj U2 (rmD hr) (ax (aj U21 (rmD hr) (ac (pv 3) (aA (aR (pv 0) rfl) ae))) (af aH ae))))
  (ah (ny (i:=4) dY.nd rfl (Oj rfl) (uP rfl B.sorted m_set (ac (pv 3) ae)))
  (ak (aw (dc U10 (rmD hr) T.cl_Table (pv 0) (aE (aS (ac (pv 1) ae)) (bZ (bK (sc:=(am dN)) (NX:=BZ) (N:=lB) (ix:=[none,some 2,some 4]) rfl (by walk_at "c") (bU (aR (pv 0) rfl)) (by intros;exact(pgC 0 lB)) (by intros;exact bV) (by intros;exact(aj U13 (rmD hr) (ac (pv 0) (ac (pv 1) (ac (pv 2) ae)))))) ae))))))))),oZ T.ct h⟩
theorem wn{G:GQ}{f:Addr}{fd:KD}(D:dQ K G.Table "show" "Table.show" dN lm f fd)(B:Blt mg)(T:cE P w K mg G)(m_set:mg "set"=none)(U10:wj P w K mg base G 3)(U21:xV P w K mg base 4)(U31:nu P w K mg base 3)(U13:xW P w K mg base 1)(U2:kr P w K mg base 1)(FX_refuse_unless:FnX P w K mg base 1 "refuse_unless" jb (be K G)):gu P w K mg base 5 G.Table "show" lm (iP K G):=by
 have Z0:bg P w K mg base CX0 5 f fd lm (dX K G):=by
  refine D.fn.ok dY (fun vs H Q E h=>vX h) (fun cdv A outer s H vs Q E hr h=>?_);have hu:=hr.units0;have hux:=hr.units64;exact⟨gB K G,(ah (bc (aj U2 (rmD hr) (ax (aj U31 (rmD hr) (ac (pv 1) (aA (aR (pv 0) rfl) ae))) (af aH ae))))
  (ah (bc (aj U2 (rmD hr) (ax (aj U31 (rmD hr) (ac (pv 2) (aY (au bG (aR (pv 0) rfl) ai) ae))) (af aH ae))))
  (ah (bc (aj U2 (rmD hr) (ax (aj U21 (rmD hr) (ac (pv 3) (aA (aR (pv 0) rfl) ae))) (af aH ae))))
  (ah (ny (i:=4) dY.nd rfl (Oj rfl) (uP rfl B.sorted m_set (ac (pv 3) ae)))
  (ak (aw (dc U10 (rmD hr) T.cl_Table (pv 0) (aE (aS (ac (pv 1) ae)) (bZ (bK (sc:=(am dN)) (NX:=BZ) (N:=lB) (ix:=[none,some 2,some 4]) rfl (by walk_at "c") (bU (aR (pv 0) rfl)) (by intros;exact(pgC 0 lB)) (by intros;exact bV) (by intros;exact(aj U13 (rmD hr) (ac (pv 0) (ac (pv 1) (ac (pv 2) ae)))))) ae))))))))),oZ T.ct h⟩
 have Z1:bg P w K mg base (CX1 P w) 5 f fd lm (gX K G):=by
  refine D.fnX dY (fun vs H Q E h=>uG h) (fun cdv A outer s H vs Q E hr h=>?_);have hu:=hr.units0;have hux:=hr.units64;exact⟨gZ K G E,(ah (bc (i9 FX_refuse_unless (rmD hr) mQ (ax (aj U31 (rmD hr) (ac (pv 1) (aA (aR (pv 0) rfl) ae))) (af aH ae))))
  (ah (bc (i9 FX_refuse_unless (rmD hr) mQ (ax (aj U31 (rmD hr) (ac (pv 2) (aY (au bG (aR (pv 0) rfl) ai) ae))) (af aH ae))))
  (ah (bc (i9 FX_refuse_unless (rmD hr) mQ (ax (aj U21 (rmD hr) (ac (pv 3) (aA (aR (pv 0) rfl) ae))) (af aH ae))))
  gS))),v6 T.ct h⟩
 have Z2:bg P w K mg base (CX1 P w) 5 f fd lm (gY K G):=by
  refine D.fnX dY (fun vs H Q E h=>uH h) (fun cdv A outer s H vs Q E hr h=>?_);have hu:=hr.units0;have hux:=hr.units64;exact⟨pb K G E,gS,xl T.ct h⟩
 exact⟨f,fd,bg.or Z0.up (bg.or Z1 Z2),D.mt,D.b⟩
theorem vD{G:GQ}(D:dQ K G.Table "truths" "Table.truths" fE gh f fd)(B:Blt mg)(T:cE P w K mg G)(U24:xR P w K mg base 6)(U25:Cq P w K mg base 39):Cs P w K mg base G 40:=by
 refine D.ok gn (by walk_at "l") fun _ _ _ _ _ _ _ _ hr h=>?_;exact⟨fA K G,(ah (bj (cL (cK (aj U24 (rmD hr) (aA (aR (pv 0) rfl) (aA (aR (pv 0) rfl) (ac (pv 1) ae)))))) (ak jO) aU)
  (ak (aw (aj U25 (rmD hr) (aA (aR (pv 0) rfl) (aA (aR (pv 0) rfl) (ac (pv 1) ae))))))),mS T.ct h⟩
theorem tj{G:GQ}{f:Addr}{fd:KD}(D:dQ K G.Table "truths" "Table.truths" fE gh f fd)(B:Blt mg)(T:cE P w K mg G)(U24:xR P w K mg base 6)(U25:Cq P w K mg base 39):gu P w K mg base 40 G.Table "truths" gh (cZ K G):=by
 have Z0:bg P w K mg base CX0 40 f fd gh (cY K G):=by
  refine D.fn.ok gn (fun vs H Q E h=>sx h) (fun cdv A outer s H vs Q E hr h=>?_);have hu:=hr.units0;have hux:=hr.units64;exact⟨fA K G,(ah (bj (cL (cK (aj U24 (rmD hr) (aA (aR (pv 0) rfl) (aA (aR (pv 0) rfl) (ac (pv 1) ae)))))) (ak jO) aU)
  (ak (aw (aj U25 (rmD hr) (aA (aR (pv 0) rfl) (aA (aR (pv 0) rfl) (ac (pv 1) ae))))))),mS T.ct h⟩
 have Z1:bg P w K mg base (CX1 P w) 40 f fd gh (fL K G):=by
  refine D.fnX gn (fun vs H Q E h=>rl h) (fun cdv A outer s H vs Q E hr h=>?_);have hu:=hr.units0;have hux:=hr.units64;exact⟨mq K G E,gS,sH T.ct h⟩
 have Z2:bg P w K mg base (CX1 P w) 40 f fd gh (fM K G):=by
  refine D.fnX gn (fun vs H Q E h=>rn h) (fun cdv A outer s H vs Q E hr h=>?_);have hu:=hr.units0;have hux:=hr.units64;exact⟨gd K G E,(ah (bj (cL (cK (aj U24 (rmD hr) (aA (aR (pv 0) rfl) (aA (aR (pv 0) rfl) (ac (pv 1) ae)))))) (ak (yU rfl T.ex_NoSaying rfl T.m_NoSaying DP (af aH ae))) aU)
  gS),uI T.ct h⟩
 exact⟨f,fd,bg.or Z0.up (bg.or Z1 Z2),D.mt,D.b⟩
theorem zz{G:GQ}(D:dQ K G.Table "saw" "Table.saw" fh ja f fd)(B:Blt mg)(T:cE P w K mg G)(U30:wg P w K mg base 1)(U31:nu P w K mg base 3)(U2:kr P w K mg base 1):Cr P w K mg base G 4:=by
 refine D.ok jN (by walk_at "l") fun _ _ _ _ _ _ _ _ hr h=>?_;exact⟨iD K G,(ah (bc (aj U2 (rmD hr) (ax (aj U31 (rmD hr) (ac (pv 1) (aA (aR (pv 0) rfl) ae))) (af aH ae))))
  (ah (bc (aj U2 (rmD hr) (ax (aj U31 (rmD hr) (ac (pv 2) (ax (aD aV rfl B.len L7 (aA (aR (pv 0) rfl) ae)) ae))) (af aH ae))))
  (ak (aw (au kQ (bf (ax (aj U30 (rmD hr) (aP (aZ bh (aR (pv 0) rfl) (pv 2) (fun _ _=>rfl)) (ac (pv 1) ae))) ae)) (bK (sc:=(am fh)) (NX:=ja) (N:=qV) (ix:=[none,none,some 2,some 1]) rfl (by walk_at "c") (bU (aR (pv 0) rfl)) (by intros;exact(dZ rfl (aX (pgC 0 qV) (aX (pgC 1 qV) cW)))) (by intros;exact(qB (aW wy (pv 3) (pv 0) rfl))) (by intros;exact(aZ bh (pv 1) (pv 2) (fun _ _=>rfl))))))))),qk T.ct h⟩
theorem xG{G:GQ}{f:Addr}{fd:KD}(D:dQ K G.Table "saw" "Table.saw" fh ja f fd)(B:Blt mg)(T:cE P w K mg G)(U30:wg P w K mg base 1)(U31:nu P w K mg base 3)(U2:kr P w K mg base 1)(FX_refuse_unless:FnX P w K mg base 1 "refuse_unless" jb (be K G)):gu P w K mg base 4 G.Table "saw" ja (jy K G):=by
 have Z0:bg P w K mg base CX0 4 f fd ja (dL K G):=by
  refine D.fn.ok jN (fun vs H Q E h=>xh h) (fun cdv A outer s H vs Q E hr h=>?_);have hu:=hr.units0;have hux:=hr.units64;exact⟨iD K G,(ah (bc (aj U2 (rmD hr) (ax (aj U31 (rmD hr) (ac (pv 1) (aA (aR (pv 0) rfl) ae))) (af aH ae))))
  (ah (bc (aj U2 (rmD hr) (ax (aj U31 (rmD hr) (ac (pv 2) (ax (aD aV rfl B.len L7 (aA (aR (pv 0) rfl) ae)) ae))) (af aH ae))))
  (ak (aw (au kQ (bf (ax (aj U30 (rmD hr) (aP (aZ bh (aR (pv 0) rfl) (pv 2) (fun _ _=>rfl)) (ac (pv 1) ae))) ae)) (bK (sc:=(am fh)) (NX:=ja) (N:=qV) (ix:=[none,none,some 2,some 1]) rfl (by walk_at "c") (bU (aR (pv 0) rfl)) (by intros;exact(dZ rfl (aX (pgC 0 qV) (aX (pgC 1 qV) cW)))) (by intros;exact(qB (aW wy (pv 3) (pv 0) rfl))) (by intros;exact(aZ bh (pv 1) (pv 2) (fun _ _=>rfl))))))))),qk T.ct h⟩
 have Z1:bg P w K mg base (CX1 P w) 4 f fd ja (iM K G):=by
  refine D.fnX jN (fun vs H Q E h=>vZ h) (fun cdv A outer s H vs Q E hr h=>?_);have hu:=hr.units0;have hux:=hr.units64;exact⟨iO K G E,(ah (bc (i9 FX_refuse_unless (rmD hr) mQ (ax (aj U31 (rmD hr) (ac (pv 1) (aA (aR (pv 0) rfl) ae))) (af aH ae))))
  (ah (bc (i9 FX_refuse_unless (rmD hr) mQ (ax (aj U31 (rmD hr) (ac (pv 2) (ax (aD aV rfl B.len L7 (aA (aR (pv 0) rfl) ae)) ae))) (af aH ae))))
  gS)),xk T.ct h⟩
 have Z2:bg P w K mg base (CX1 P w) 4 f fd ja (iN K G):=by
  refine D.fnX jN (fun vs H Q E h=>v5 h) (fun cdv A outer s H vs Q E hr h=>?_);have hu:=hr.units0;have hux:=hr.units64;exact⟨qm K G E,gS,zd T.ct h⟩
 exact⟨f,fd,bg.or Z0.up (bg.or Z1 Z2),D.mt,D.b⟩
theorem wo{G:GQ}(D:dQ K G.Table "learn" "Table.learn" iW uU f fd)(B:Blt mg)(T:cE P w K mg G)(U42:Cb P w K mg base 2):wj P w K mg base G 3:=by
 refine D.ok nQ (by walk_at "l") fun _ _ _ _ _ _ _ _ hr h=>?_;exact⟨iK K G,(ah (cy K7 rfl (ya (pv 1)) (pgS 3 nQ) (ak (lO (aj U42 (rmD hr) (aP (aZ bh (aR (pv 0) rfl) (pv 3) (fun _ _=>rfl)) (ac (pv 2) ae))) (pD (aR (pv 0) rfl) (pv 3) lP))))
  (ah (bc (tH MQ Ou Ov kJ (aR (pv 0) rfl) (aE (aS (ac (pv 1) (ac (pv 2) ae))) ae)))
  (ak (aw (ee qP rfl B.list NZ (ac (pv 2) ae)))))),vV T.ct h⟩
theorem JT(B:Blt mg){G:GQ}{f1:Addr}{fd1:KD}(V76:Def K mg "is_whole" lD rc f1 fd1){f2:Addr}{fd2:KD}(V75:Def K mg "is_within" ku qU f2 fd2){f3:Addr}{fd3:KD}(V78:Def K mg "is_below" lG qT f3 fd3){f4:Addr}{fd4:KD}(V69:Def K mg "are_hands" kG uZ f4 fd4){f5:Addr}{fd5:KD}(V84:Def K mg "is_pack" kT gC f5 fd5){f6:Addr}{fd6:KD}(V81:Def K mg "how_many" lH gC f6 fd6){f7:Addr}{fd7:KD}(V82:Def K mg "choices" mU vi f7 fd7){f8:Addr}{fd8:KD}(V80:Def K mg "deals_of" lL gC f8 fd8){f9:Addr}{fd9:KD}(V50:Def K mg "with_one_more" gi vj f9 fd9){f10:Addr}{fd10:KD}(V77:Def K mg "cards_of" jF oQ f10 fd10){f11:Addr}{fd11:KD}(V71:Def K mg "is_saying" iG nr f11 fd11){f12:Addr}{fd12:KD}(V83:Def K mg "is_word" kU nr f12 fd12){f13:Addr}{fd13:KD}(V91:Def K mg "fits" vx qS f13 fd13){f14:Addr}{fd14:KD}(V79:Def K mg "parts_of" jG vq f14 fd14){f15:Addr}{fd15:KD}(V56:Def K mg "parts_of_all" ib vn f15 fd15){f16:Addr}{fd16:KD}(V62:Def K mg "first_view" gE oS f16 fd16){f17:Addr}{fd17:KD}(V89:Def K mg "split" re qX f17 fd17){f18:Addr}{fd18:KD}(V47:Def K mg "least_with_same" dm ["marks"] f18 fd18){f19:Addr}{fd19:KD}(V85:Def K mg "joined" mz vk f19 fd19){f20:Addr}{fd20:KD}(V90:Def K mg "link" vy uY f20 fd20){f21:Addr}{fd21:KD}(V86:Def K mg "end_of" oU vb f21 fd21){f22:Addr}{fd22:KD}(V72:Def K mg "truths_of" dy qW f22 fd22){f23:Addr}{fd23:KD}(V93:Def K mg "both" qq jD f23 fd23){f24:Addr}{fd24:KD}(V87:Def K mg "either" mB jD f24 fd24){f25:Addr}{fd25:KD}(V88:Def K mg "known" nP va f25 fd25){f26:Addr}{fd26:KD}(V52:Def K mg "known_to_all" ie vf f26 fd26){f27:Addr}{fd27:KD}(V92:Def K mg "seen" qr oT f27 fd27){f28:Addr}{fd28:KD}(V49:Def K mg "refuse_unless" eW jb f28 fd28){f29:Addr}{fd29:KD}(V68:Def K mg "are_cards" iH oR f29 fd29){f30:Addr}{fd30:KD}(V60:Def K mg "least_held" jI lB f30 fd30){f31:Addr}{fd31:KD}(V74:Def K mg "_law_cell" kH uW f31 fd31){f32:Addr}{fd32:KD}(V54:Def K mg "_law_product" ig vm f32 fd32){f33:Addr}{fd33:KD}(V64:Def K mg "_law_count" jK uX f33 fd33){f34:Addr}{fd34:KD}(V70:Def K mg "_law_pack" kI uT f34 fd34){f35:Addr}{fd35:KD}(V53:Def K mg "_law_no_hand" ii nn f35 fd35){f36:Addr}{fd36:KD}(V51:Def K mg "_law_no_group" gm nn f36 fd36){f37:Addr}{fd37:KD}(V48:Def K mg "_law_no_saying" fP uS f37 fd37){f38:Addr}{fd38:KD}(V67:Def K mg "_law_heard" jL zm f38 fd38){f39:Addr}{fd39:KD}(V63:Def K mg "_law_wrong" jM zn f39 fd39){f40:Addr}{fd40:KD}(V65:Def K mg "_law_stand" gG sW f40 fd40){f41:Addr}{fd41:KD}(V94:Def K mg "law" xY qZ f41 fd41){f42:Addr}{fd42:KD}(V58:yX K G.Table "Table.__init__" gH lC f42 fd42){f43:Addr}{fd43:KD}(V59:dQ K G.Table "view" "Table.view" gI h9 f43 fd43){f44:Addr}{fd44:KD}(V66:dQ K G.Table "word" "Table.word" gJ hZ f44 fd44){f45:Addr}{fd45:KD}(V61:dQ K G.Table "show" "Table.show" dN lm f45 fd45){f46:Addr}{fd46:KD}(V55:dQ K G.Table "truths" "Table.truths" fE gh f46 fd46){f47:Addr}{fd47:KD}(V73:dQ K G.Table "saw" "Table.saw" fh ja f47 fd47){f48:Addr}{fd48:KD}(V57:dQ K G.Table "learn" "Table.learn" iW uU f48 fd48)(T:cE P w K mg G){t_MOST_CARDS:Tok}(m_MOST_CARDS:mg "MOST_CARDS"=some (.int 12 t_MOST_CARDS)){t_MOST_HANDS:Tok}(m_MOST_HANDS:mg "MOST_HANDS"=some (.int 5 t_MOST_HANDS)){t_MOST_DEALS:Tok}(m_MOST_DEALS:mg "MOST_DEALS"=some (.int 2000 t_MOST_DEALS)){t_MOST_WORDS:Tok}(m_MOST_WORDS:mg "MOST_WORDS"=some (.int 30 t_MOST_WORDS))(m_set:mg "set"=none)(m_ValueError:mg "ValueError"=none):bg P w K mg base CX0 43 f41 fd41 qZ (tN K):=by
 have U35:FN P w K mg base 1:=Cv V82 B;have U29:B4 P w K mg base 1:=Ad V76 B;have U28:zo P w K mg base 2:=zt V75 B U29;have U37:FM P w K mg base 3:=Cu V84 B m_MOST_CARDS m_MOST_HANDS U28;have U34:FO P w K mg base 4:=Af V81 B U35 U37;have U3:FP P w K mg base 1:=sX V50 B;have U33:B5 P w K mg base 5:=Ag V80 B m_MOST_DEALS U34 U3;have U30:wg P w K mg base 1:=Ah V77 B;have U0:xS P w K mg base 1:=qt V47 B;have U15:Ca P w K mg base 2:=xu V62 B U30 U0;have U11:FnI P w K mg base 6 G.Table lC (fS K G):=xC V58 B T U33 U15;have U31:nu P w K mg base 3:=Ae V78 B U28;have U2:kr P w K mg base 1:=sY V49 B;have U26:Cr P w K mg base G 4:=zz V73 B T U30 U31 U2;have U42:Cb P w K mg base 2:=FU V89 B U0;have U10:wj P w K mg base G 3:=wo V57 B T U42;have U21:xV P w K mg base 4:=zw V68 B U31;have U13:xW P w K mg base 1:=xv V60 B;have U14:FR P w K mg base G 5:=xF V61 B T m_set U10 U21 U31 U13 U2;have U22:zp P w K mg base 3:=zu V69 B U28;have U44:B8 P w K mg base 4:=HX V91 B U22 U31;have U36:B6 P w K mg base 5:=Cw V83 B T U44;have U32:B9 P w K mg base 1:=Ai V79 B T;have U9:B7 P w K mg base 2:=vz V56 B U32;have U24:xR P w K mg base 6:=zv V71 B m_MOST_WORDS U29 U36 U9;have U46:xU P w K mg base 1:=HZ V93 B;have U40:Ce P w K mg base 1:=Eg V87 B;have U39:xT P w K mg base 1:=Ef V86 B;have U43:Cc P w K mg base 2:=HY V90 B U39;have U38:Cd P w K mg base 3:=Ee V85 B U39 U43;have U41:vt P w K mg base 1:=FV V88 B;have U5:Cf P w K mg base 2:=vA V52 B U46 U41;have U45:Cg P w K mg base 2:=Ia V92 B U41;have U25:Cq P w K mg base 39:=qu V72 B U46 U30 U40 U38 U41 U5 U45 35;have U8:Cs P w K mg base G 40:=vD V55 B T U24 U25;have U18:FS P w K mg base G 41:=xE V66 B T U10 U8 U22 U2;have U27:xX P w K mg base 1:=zx V74 B;have U12:FQ P w K mg base G 4:=xD V59 B T U31 U2;have FX_refuse_unless:FnX P w K mg base 1 "refuse_unless" jb (be K G):=rA V49 B T;have FX_Table_saw:gu P w K mg base 4 G.Table "saw" ja (jy K G):=xG V73 B T U30 U31 U2 FX_refuse_unless;have FX_Table_show:gu P w K mg base 5 G.Table "show" lm (iP K G):=wn V61 B T m_set U10 U21 U31 U13 U2 FX_refuse_unless;have FX_Table_truths:gu P w K mg base 40 G.Table "truths" gh (cZ K G):=tj V55 B T U24 U25;have FX_Table_view:gu P w K mg base 4 G.Table "view" h9 (iL K G):=wl V59 B T U31 U2 FX_refuse_unless;have FX_Table_word:gu P w K mg base 41 G.Table "word" hZ (iQ K G):=wm V66 B T U10 U8 U22 U2 FX_Table_truths FX_refuse_unless;have U20:Cn P w K mg base G 42:=xy V67 B T m_ValueError FX_Table_saw FX_Table_show FX_Table_truths FX_Table_view FX_Table_word;have U7:Ch P w K mg base 1:=vB V54 B;have U17:Ci P w K mg base 2:=xw V64 B U7;have U23:Cj P w K mg base 3:=zy V70 B U27 U17;have U19:Cp P w K mg base G 5:=xB V65 B T U26 U12;have U4:Cl P w K mg base 1:=sZ V51 B;have U6:Ck P w K mg base 1:=vC V53 B;have U1:Cm P w K mg base 1:=rB V48 B;have U16:Co P w K mg base 2:=xz V63 B U4 U6 U1;exact Jq V94 B T U11 U26 U14 U18 U27 U20 U23 U19 U16 U33
end
@[elab_as_elim] theorem ofLen1 {α:Type} {P:List α->Prop} (us:List α) (hl:us.length=1) (h:∀a0:α,P [a0]):P us:=match us,hl with | [a0],_=>h a0
@[elab_as_elim] theorem ofLen2 {α:Type} {P:List α->Prop} (us:List α) (hl:us.length=2) (h:∀a0 a1:α,P [a0,a1]):P us:=match us,hl with | [a0,a1],_=>h a0 a1
@[elab_as_elim] theorem ofLen3 {α:Type} {P:List α->Prop} (us:List α) (hl:us.length=3) (h:∀a0 a1 a2:α,P [a0,a1,a2]):P us:=match us,hl with | [a0,a1,a2],_=>h a0 a1 a2
@[elab_as_elim] theorem ofLen4 {α:Type} {P:List α->Prop} (us:List α) (hl:us.length=4) (h:∀a0 a1 a2 a3:α,P [a0,a1,a2,a3]):P us:=match us,hl with | [a0,a1,a2,a3],_=>h a0 a1 a2 a3
@[elab_as_elim] theorem ofLen5 {α:Type} {P:List α->Prop} (us:List α) (hl:us.length=5) (h:∀a0 a1 a2 a3 a4:α,P [a0,a1,a2,a3,a4]):P us:=match us,hl with | [a0,a1,a2,a3,a4],_=>h a0 a1 a2 a3 a4
local macro_rules | `(tactic| walk_at "b1")=>`(tactic| exact fun _ _ _ _ _ _ us hl=>ofLen1 us hl fun _=>rfl)
local macro_rules | `(tactic| walk_at "b2")=>`(tactic| exact fun _ _ _ _ _ _ us hl=>ofLen2 us hl fun _ _=>rfl)
local macro_rules | `(tactic| walk_at "b3")=>`(tactic| exact fun _ _ _ _ _ _ us hl=>ofLen3 us hl fun _ _ _=>rfl)
local macro_rules | `(tactic| walk_at "b4")=>`(tactic| exact fun _ _ _ _ _ _ us hl=>ofLen4 us hl fun _ _ _ _=>rfl)
local macro_rules | `(tactic| walk_at "b5")=>`(tactic| exact fun _ _ _ _ _ _ us hl=>ofLen5 us hl fun _ _ _ _ _=>rfl)
theorem all_mk{l:W.OpenLaw}{w:World}{K:Fg}{h:Heap}{mg:Str->Option Value}{fa:Addr}(X:K.In h)(G:h.Ns KW mg)(hfa:mg "law"=some (.ref fa))
  {t_MOST_CARDS:Tok}  {t_MOST_HANDS:Tok}  {t_MOST_DEALS:Tok}  {t_MOST_WORDS:Tok}    {aF fm1 fm2 fm3 fm4 fm5 fm6 fm7 fm8:Addr} {tk1 tk2 tk3 tk4 tk5 tk6 tk7 tk8 tu1 tu2 tu3 tu4 tu5 tu6 tu7 tu8 tu9 tu10 tu11 tu12 tu13 tu14:Tok} {epF tn1 tn2 tn3 tn4 tn5 tn6 tn7 tn8:Nat} {to1 to2 to3 to4 to5 to6 to7 to8:Option Addr} {ts1 ts2 ts3 ts4 ts5 ts6 ts7 ts8:Array (Option Value)} {aT:Addr} {er1 er2 er3 er4 er5 er6:Addr} {erc4 erc6:Value} {erd4 erd6:Option Addr} {ercd4 ercd6:ClassData} {ersl4 ersl6:Array (Option Value)}
  (q1:DfA K "is_whole" lD)
  (q2:DfA K "is_within" ku)
  (q3:DfA K "is_below" lG)
  (q4:DfA K "are_hands" kG)
  (q5:DfA K "is_pack" kT)
  (q6:DfA K "how_many" lH)
  (q7:DfA K "choices" mU)
  (q8:DfA K "deals_of" lL)
  (q9:DfA K "with_one_more" gi)
  (q10:DfA K "cards_of" jF)
  (q11:DfA K "is_saying" iG)
  (q12:DfA K "is_word" kU)
  (q13:DfA K "fits" vx)
  (q14:DfA K "parts_of" jG)
  (q15:DfA K "parts_of_all" ib)
  (q16:DfA K "first_view" gE)
  (q17:DfA K "split" re)
  (q18:DfA K "least_with_same" dm)
  (q19:DfA K "joined" mz)
  (q20:DfA K "link" vy)
  (q21:DfA K "end_of" oU)
  (q22:DfA K "truths_of" dy)
  (q23:DfA K "both" qq)
  (q24:DfA K "either" mB)
  (q25:DfA K "known" nP)
  (q26:DfA K "known_to_all" ie)
  (q27:DfA K "seen" qr)
  (q28:DfA K "refuse_unless" eW)
  (q29:DfA K "are_cards" iH)
  (q30:DfA K "least_held" jI)
  (q31:DfA K "_law_cell" kH)
  (q32:DfA K "_law_product" ig)
  (q33:DfA K "_law_count" jK)
  (q34:DfA K "_law_pack" kI)
  (q35:DfA K "_law_no_hand" ii)
  (q36:DfA K "_law_no_group" gm)
  (q37:DfA K "_law_no_saying" fP)
  (q38:DfA K "_law_heard" jL)
  (q39:DfA K "_law_wrong" jM)
  (q40:DfA K "_law_stand" gG)
  (q41:DfA K "law" xY)
  (q42:MtA K aT "__init__" "Table.__init__" gH)
  (q43:MtA K aT "view" "Table.view" gI)
  (q44:MtA K aT "word" "Table.word" gJ)
  (q45:MtA K aT "show" "Table.show" dN)
  (q46:MtA K aT "truths" "Table.truths" fE)
  (q47:MtA K aT "saw" "Table.saw" fh)
  (q48:MtA K aT "learn" "Table.learn" iW)
  (y1:LZ K KW "MOST_CARDS"=some (some (.int 12 t_MOST_CARDS)))
  (y2:LZ K KW "MOST_HANDS"=some (some (.int 5 t_MOST_HANDS)))
  (y3:LZ K KW "MOST_DEALS"=some (some (.int 2000 t_MOST_DEALS)))
  (y4:LZ K KW "MOST_WORDS"=some (some (.int 30 t_MOST_WORDS)))
  (y5:LZ K KW "set"=some none)
  (y6:LZ K KW "ValueError"=some none)
  (x1:LZ K KW "FORMS"=some (some (.ref aF)))
  (x2:K.lookup aF=some ⟨.type "dict",none,.dict #[⟨Ly w.params "holds",.str "holds" tk1,.ref fm1⟩,⟨Ly w.params "not",.str "not" tk2,.ref fm2⟩,⟨Ly w.params "and",.str "and" tk3,.ref fm3⟩,⟨Ly w.params "or",.str "or" tk4,.ref fm4⟩,⟨Ly w.params "knows",.str "knows" tk5,.ref fm5⟩,⟨Ly w.params "all",.str "all" tk6,.ref fm6⟩,⟨Ly w.params "common",.str "common" tk7,.ref fm7⟩,⟨Ly w.params "sees",.str "sees" tk8,.ref fm8⟩] epF,#[]⟩)
  (x3:K.lookup fm1=some ⟨.type "tuple",to1,.seq #[.str "holder" tu1,.str "card" tu2] tn1,ts1⟩)
  (x4:K.lookup fm2=some ⟨.type "tuple",to2,.seq #[.str "saying" tu3] tn2,ts2⟩)
  (x5:K.lookup fm3=some ⟨.type "tuple",to3,.seq #[.str "saying" tu4,.str "saying" tu5] tn3,ts3⟩)
  (x6:K.lookup fm4=some ⟨.type "tuple",to4,.seq #[.str "saying" tu6,.str "saying" tu7] tn4,ts4⟩)
  (x7:K.lookup fm5=some ⟨.type "tuple",to5,.seq #[.str "hand" tu8,.str "saying" tu9] tn5,ts5⟩)
  (x8:K.lookup fm6=some ⟨.type "tuple",to6,.seq #[.str "hands" tu10,.str "saying" tu11] tn6,ts6⟩)
  (x9:K.lookup fm7=some ⟨.type "tuple",to7,.seq #[.str "hands" tu12,.str "saying" tu13] tn7,ts7⟩)
  (x10:K.lookup fm8=some ⟨.type "tuple",to8,.seq #[.str "hand" tu14] tn8,ts8⟩)
  (x11:(aF==Mb)=false)
  (x12:LZ K KW "Table"=some (some (.ref aT)))
  (x13:W.plainGet K aT Ti=true)
  (x14:W.hasDictIn K aT=true)
  (x15:W.plainOver K aT=true)
  (x16:Na K (.ref aT) "__setattr__"=some (some (.builtin "object.__setattr__")))
  (x17:W.makesIn K aT=true)
  (x18:W.keepIn K (.ref aT)=true)
  (x19:Na K (.ref aT) "dealt"=some none)
  (x20:Na K (.ref aT) "cards"=some none)
  (x21:Na K (.ref aT) "sizes"=some none)
  (x22:Na K (.ref aT) "hands"=some none)
  (x23:Na K (.ref aT) "views"=some none)
  (x24:Na K (.ref aT) "deeds"=some none)
  (x25:LZ K KW "CardError"=some (some (.ref er1)))
  (x26:LZ K KW "NoPack"=some (some (.ref er2)))
  (x27:LZ K KW "TooMany"=some (some (.ref er3)))
  (x28:LZ K KW "NoHand"=some (some (.ref er4)))
  (x29:LZ K KW "NoRow"=some (some (.ref er5)))
  (x30:LZ K KW "NoSaying"=some (some (.ref er6)))
  (x31:W.excIn K er4 [.type "ValueError",.type "Exception",.type "BaseException",.type "object"] "ValueError.__new__"=true)
  (x32:W.exmOne K (.ref er4) (.ref er1)=some true)
  (x33:Na K (.ref er4) "__getattribute__"=some (some (.builtin "BaseException.__getattribute__")))
  (x34:Na K (.ref er4) "__getattr__"=some none)
  (x35:Na K (.ref er4) "__class__"=some (some (.builtin "object.__class__")))
  (x36:Th K er4 (.type "object")=some true)
  (x37:Th K er4 (.type "BaseException")=some true)
  (x38:K.lookup er4=some ⟨erc4,erd4,.cls ercd4,ersl4⟩)
  (x39:Qq K (.ref er4) (.ref er4)=some true)
  (x40:Qq K (.ref er4) (.ref er6)=some false)
  (x41:Qq K (.ref er4) (.type "ValueError")=some true)
  (x42:W.kitAny K (.ref er4) [.ref er2,.ref er5,.ref er3]=some false)
  (x43:W.excIn K er6 [.type "ValueError",.type "Exception",.type "BaseException",.type "object"] "ValueError.__new__"=true)
  (x44:W.exmOne K (.ref er6) (.ref er1)=some true)
  (x45:Na K (.ref er6) "__getattribute__"=some (some (.builtin "BaseException.__getattribute__")))
  (x46:Na K (.ref er6) "__getattr__"=some none)
  (x47:Na K (.ref er6) "__class__"=some (some (.builtin "object.__class__")))
  (x48:Th K er6 (.type "object")=some true)
  (x49:Th K er6 (.type "BaseException")=some true)
  (x50:K.lookup er6=some ⟨erc6,erd6,.cls ercd6,ersl6⟩)
  (x51:Qq K (.ref er6) (.ref er4)=some false)
  (x52:Qq K (.ref er6) (.ref er6)=some true)
  (x53:Qq K (.ref er6) (.type "ValueError")=some true)
  (x54:W.kitAny K (.ref er6) [.ref er2,.ref er5,.ref er3]=some false)
  (z1:LZ K KW "len"=some none) (z2:LZ K KW "range"=some none) (z3:LZ K KW "tuple"=some none) (z4:LZ K KW "list"=some none) (z5:LZ K KW "int"=some none) (z6:LZ K KW "bool"=some none) (z7:LZ K KW "str"=some none) (z8:LZ K KW "dict"=some none) (z9:LZ K KW "sum"=some none) (z10:LZ K KW "all"=some none) (z11:LZ K KW "min"=some none) (z12:LZ K KW "max"=some none) (z13:LZ K KW "sorted"=some none) (z14:LZ K KW "enumerate"=some none) (z15:LZ K KW "zip"=some none) (z16:LZ K KW "isinstance"=some none):
  ∃fd:KD,(∀(s:Shared)(v:Value),BindsTo s fd ⟨[v],[]⟩ [("_law_script",v)])/\∀base:Heap,K.In base->base.Ns KW mg->bg l.prog w K mg base CX0 43 fa fd qZ (tN K):=by
 have B:Blt mg:=⟨LD X G z1,LD X G z2,LD X G z3,LD X G z4,LD X G z5,LD X G z6,LD X G z7,LD X G z8,LD X G z9,LD X G z10,LD X G z11,LD X G z12,LD X G z13,LD X G z14,LD X G z15,LD X G z16⟩;obtain⟨_,_,D1⟩:=q1.df (ps:=rc) X G (by walk_at "b1");obtain⟨_,_,D2⟩:=q2.df (ps:=qU) X G (by walk_at "b3");obtain⟨_,_,D3⟩:=q3.df (ps:=qT) X G (by walk_at "b2");obtain⟨_,_,D4⟩:=q4.df (ps:=uZ) X G (by walk_at "b2");obtain⟨_,_,D5⟩:=q5.df (ps:=gC) X G (by walk_at "b2");obtain⟨_,_,D6⟩:=q6.df (ps:=gC) X G (by walk_at "b2");obtain⟨_,_,D7⟩:=q7.df (ps:=vi) X G (by walk_at "b2");obtain⟨_,_,D8⟩:=q8.df (ps:=gC) X G (by walk_at "b2");obtain⟨_,_,D9⟩:=q9.df (ps:=vj) X G (by walk_at "b2");obtain⟨_,_,D10⟩:=q10.df (ps:=oQ) X G (by walk_at "b2");obtain⟨_,_,D11⟩:=q11.df (ps:=nr) X G (by walk_at "b3");obtain⟨_,_,D12⟩:=q12.df (ps:=nr) X G (by walk_at "b3");obtain⟨_,_,D13⟩:=q13.df (ps:=qS) X G (by walk_at "b4");obtain⟨_,_,D14⟩:=q14.df (ps:=vq) X G (by walk_at "b1");obtain⟨_,_,D15⟩:=q15.df (ps:=vn) X G (by walk_at "b1");obtain⟨_,_,D16⟩:=q16.df (ps:=oS) X G (by walk_at "b2");obtain⟨_,_,D17⟩:=q17.df (ps:=qX) X G (by walk_at "b2");obtain⟨_,_,D18⟩:=q18.df (ps:=["marks"]) X G (by walk_at "b1");obtain⟨_,_,D19⟩:=q19.df (ps:=vk) X G (by walk_at "b2");obtain⟨_,_,D20⟩:=q20.df (ps:=uY) X G (by walk_at "b3");obtain⟨_,_,D21⟩:=q21.df (ps:=vb) X G (by walk_at "b2");obtain⟨_,_,D22⟩:=q22.df (ps:=qW) X G (by walk_at "b3");obtain⟨_,_,D23⟩:=q23.df (ps:=jD) X G (by walk_at "b2");obtain⟨_,_,D24⟩:=q24.df (ps:=jD) X G (by walk_at "b2");obtain⟨_,_,D25⟩:=q25.df (ps:=va) X G (by walk_at "b2");obtain⟨_,_,D26⟩:=q26.df (ps:=vf) X G (by walk_at "b2");obtain⟨_,_,D27⟩:=q27.df (ps:=oT) X G (by walk_at "b2");obtain⟨_,_,D28⟩:=q28.df (ps:=jb) X G (by walk_at "b2");obtain⟨_,_,D29⟩:=q29.df (ps:=oR) X G (by walk_at "b2");obtain⟨_,_,D30⟩:=q30.df (ps:=lB) X G (by walk_at "b3");obtain⟨_,_,D31⟩:=q31.df (ps:=uW) X G (by walk_at "b2");obtain⟨_,_,D32⟩:=q32.df (ps:=vm) X G (by walk_at "b1");obtain⟨_,_,D33⟩:=q33.df (ps:=uX) X G (by walk_at "b2");obtain⟨_,_,D34⟩:=q34.df (ps:=uT) X G (by walk_at "b3");obtain⟨_,_,D35⟩:=q35.df (ps:=nn) X G (by walk_at "b2");obtain⟨_,_,D36⟩:=q36.df (ps:=nn) X G (by walk_at "b2");obtain⟨_,_,D37⟩:=q37.df (ps:=uS) X G (by walk_at "b3");obtain⟨_,_,D38⟩:=q38.df (ps:=zm) X G (by walk_at "b5");obtain⟨_,_,D39⟩:=q39.df (ps:=zn) X G (by walk_at "b4");obtain⟨_,_,D40⟩:=q40.df (ps:=sW) X G (by walk_at "b3");obtain⟨fd,D41,hb⟩:=q41.law X G (by walk_at "b1") hfa fun _ _ _ _ _ _ _ _=>.of_eq rfl;obtain⟨_,_,D42⟩:=q42.di (ps:=lC) x17 x18 (by walk_at "b3");obtain⟨_,_,D43⟩:=q43.df (ps:=h9) (by walk_at "b2");obtain⟨_,_,D44⟩:=q44.df (ps:=hZ) (by walk_at "b3");obtain⟨_,_,D45⟩:=q45.df (ps:=lm) (by walk_at "b4");obtain⟨_,_,D46⟩:=q46.df (ps:=gh) (by walk_at "b2");obtain⟨_,_,D47⟩:=q47.df (ps:=ja) (by walk_at "b3");obtain⟨_,_,D48⟩:=q48.df (ps:=uU) (by walk_at "b3");refine⟨fd,hb,fun base _ _=>?_⟩;have T:cE l.prog w K mg _:=Fk (Fj (G9 (aC:=0) x11 (NY X G x1) x2 x3 x4 x5 x6 x7 x8 x9 x10) (NY X G x12) x13 x14 x15 x16 x19 x20 x21 x22 x23 x24) (NY X G x25) (NY X G x26) (NY X G x27) (NY X G x28) (NY X G x29) (NY X G x30) x31 x43 (AE x32 x33 x34 x35 x36 x37 x38 x39 x40 x41 x42) (AE x44 x45 x46 x47 x48 x49 x50 x51 x52 x53 x54);exact JT B D1 D2 D3 D4 D5 D6 D7 D8 D9 D10 D11 D12 D13 D14 D15 D16 D17 D18 D19 D20 D21 D22 D23 D24 D25 D26 D27 D28 D29 D30 D31 D32 D33 D34 D35 D36 D37 D38 D39 D40 D41 D42 D43 D44 D45 D46 D47 D48 T (NY X G y1) (NY X G y2) (NY X G y3) (NY X G y4) (LD X G y5) (LD X G y6)
end Kc_k35
local macro_rules | `(tactic| walk_at "q1")=>`(tactic| exact ⟨_,by k_is,_,_,_,_,_,_,_,_,_,by k_is,by k_is,by k_is⟩)
local macro_rules | `(tactic| walk_at "q2")=>`(tactic| exact ⟨_,by k_is,by k_is,_,_,_,_,_,_,_,_,_,by k_is,by k_is,by k_is⟩)
noncomputable def PySem.W.Fast.tw337807264858319634 : PySem.Program := PySem.Challenge.pw_knowcards_k35_deeds_refused
theorem PySem.W.Fast.te337807264858319634 : PySem.Challenge.pw_knowcards_k35_deeds_refused = PySem.W.Fast.tw337807264858319634 := rfl
noncomputable def PySem.W.Fast.tw15561399215424061281 : PySem.Params → PySem.W.Frag := fun _ => []
theorem PySem.W.Fast.te15561399215424061281 : (fun _ => [] : PySem.Params → PySem.W.Frag) = PySem.W.Fast.tw15561399215424061281 := rfl
namespace PySem.W.Fast
noncomputable def tw15912832429073703964:Program:=PySem.Challenge.pw_knowcards_k35_deeds_refused
theorem te15912832429073703964:PySem.Challenge.pw_knowcards_k35_deeds_refused=tw15912832429073703964:=rfl
noncomputable def tw16773442926574877258:Params->Obj:=fun _=>default
theorem te16773442926574877258:(fun _=>default:Params->Obj)=tw16773442926574877258:=rfl
noncomputable def tw12759536316152096433:Params->Obj:=fun _=>default
theorem te12759536316152096433:(fun _=>default:Params->Obj)=tw12759536316152096433:=rfl
noncomputable def tw10876128997654612765:Params->Obj:=fun _=>default
theorem te10876128997654612765:(fun _=>default:Params->Obj)=tw10876128997654612765:=rfl
noncomputable def tw14756016138119275677:Params->Obj:=fun _=>default
theorem te14756016138119275677:(fun _=>default:Params->Obj)=tw14756016138119275677:=rfl
noncomputable def tw7570399701145553205:Params->Obj:=fun _=>default
theorem te7570399701145553205:(fun _=>default:Params->Obj)=tw7570399701145553205:=rfl
noncomputable def tw5726446207002338865:Params->Obj:=fun _=>default
theorem te5726446207002338865:(fun _=>default:Params->Obj)=tw5726446207002338865:=rfl
noncomputable def tw1571678574001639135:Params->Obj:=fun _=>default
theorem te1571678574001639135:(fun _=>default:Params->Obj)=tw1571678574001639135:=rfl
noncomputable def tw12847273687447146442:Params->Obj:=fun _=>default
theorem te12847273687447146442:(fun _=>default:Params->Obj)=tw12847273687447146442:=rfl
noncomputable def tw12786666616677206673:Params->Obj:=fun _=>default
theorem te12786666616677206673:(fun _=>default:Params->Obj)=tw12786666616677206673:=rfl
noncomputable def tw4963267759182053292:Params->Obj:=fun _=>default
theorem te4963267759182053292:(fun _=>default:Params->Obj)=tw4963267759182053292:=rfl
noncomputable def tw14070756026006737254:Params->Obj:=fun _=>default
theorem te14070756026006737254:(fun _=>default:Params->Obj)=tw14070756026006737254:=rfl
noncomputable def tw1270672850458231477:Params->Obj:=fun _=>default
theorem te1270672850458231477:(fun _=>default:Params->Obj)=tw1270672850458231477:=rfl
noncomputable def tw9930639440124872777:Params->Obj:=fun _=>default
theorem te9930639440124872777:(fun _=>default:Params->Obj)=tw9930639440124872777:=rfl
noncomputable def tw11996432127425617723:Params->Obj:=fun _=>default
theorem te11996432127425617723:(fun _=>default:Params->Obj)=tw11996432127425617723:=rfl
noncomputable def tw12625572124200311088:Params->Obj:=fun _=>default
theorem te12625572124200311088:(fun _=>default:Params->Obj)=tw12625572124200311088:=rfl
noncomputable def tw1444784925867894943:Params->Obj:=fun _=>default
theorem te1444784925867894943:(fun _=>default:Params->Obj)=tw1444784925867894943:=rfl
noncomputable def tw595700039034884461:Params->Obj:=fun _=>default
theorem te595700039034884461:(fun _=>default:Params->Obj)=tw595700039034884461:=rfl
noncomputable def tw5332915933402758589:Params->Obj:=fun _=>default
theorem te5332915933402758589:(fun _=>default:Params->Obj)=tw5332915933402758589:=rfl
noncomputable def tw12324371083895758035:Params->Obj:=fun _=>default
theorem te12324371083895758035:(fun _=>default:Params->Obj)=tw12324371083895758035:=rfl
noncomputable def tw11586397682229987895:Params->Obj:=fun _=>default
theorem te11586397682229987895:(fun _=>default:Params->Obj)=tw11586397682229987895:=rfl
noncomputable def tw9152151486933593199:Params->Obj:=fun _=>default
theorem te9152151486933593199:(fun _=>default:Params->Obj)=tw9152151486933593199:=rfl
noncomputable def tw3372838851600347998:Params->Obj:=fun _=>default
theorem te3372838851600347998:(fun _=>default:Params->Obj)=tw3372838851600347998:=rfl
noncomputable def tw11358241358129382246:Params->Obj:=fun _=>default
theorem te11358241358129382246:(fun _=>default:Params->Obj)=tw11358241358129382246:=rfl
noncomputable def tw16985332137098333486:Params->Obj:=fun _=>default
theorem te16985332137098333486:(fun _=>default:Params->Obj)=tw16985332137098333486:=rfl
noncomputable def tw8518916982739695275:Params->Obj:=fun _=>default
theorem te8518916982739695275:(fun _=>default:Params->Obj)=tw8518916982739695275:=rfl
noncomputable def tw17186781222588695867:Params->Obj:=fun _=>default
theorem te17186781222588695867:(fun _=>default:Params->Obj)=tw17186781222588695867:=rfl
noncomputable def tw1649540968431585505:Params->Obj:=fun _=>default
theorem te1649540968431585505:(fun _=>default:Params->Obj)=tw1649540968431585505:=rfl
noncomputable def tw10505282776037192118:Params->Obj:=fun _=>default
theorem te10505282776037192118:(fun _=>default:Params->Obj)=tw10505282776037192118:=rfl
noncomputable def tw15806930282486675232:Params->Obj:=fun _=>default
theorem te15806930282486675232:(fun _=>default:Params->Obj)=tw15806930282486675232:=rfl
noncomputable def tw12233111270880026415:Params->Obj:=fun _=>default
theorem te12233111270880026415:(fun _=>default:Params->Obj)=tw12233111270880026415:=rfl
noncomputable def tw14316648544400464883:Params->Obj:=fun _=>default
theorem te14316648544400464883:(fun _=>default:Params->Obj)=tw14316648544400464883:=rfl
noncomputable def tw4712582904086360428:Params->Obj:=fun _=>default
theorem te4712582904086360428:(fun _=>default:Params->Obj)=tw4712582904086360428:=rfl
noncomputable def tw738046549504112330:Params->Obj:=fun _=>default
theorem te738046549504112330:(fun _=>default:Params->Obj)=tw738046549504112330:=rfl
noncomputable def tw11036581034809670612:Params->Obj:=fun _=>default
theorem te11036581034809670612:(fun _=>default:Params->Obj)=tw11036581034809670612:=rfl
noncomputable def tw751243998398043013:Params->Obj:=fun _=>default
theorem te751243998398043013:(fun _=>default:Params->Obj)=tw751243998398043013:=rfl
noncomputable def tw10948739617407772569:Params->Obj:=fun _=>default
theorem te10948739617407772569:(fun _=>default:Params->Obj)=tw10948739617407772569:=rfl
noncomputable def tw13168279219371251364:Params->Obj:=fun _=>default
theorem te13168279219371251364:(fun _=>default:Params->Obj)=tw13168279219371251364:=rfl
noncomputable def tw6730924627390618151:Params->Obj:=fun _=>default
theorem te6730924627390618151:(fun _=>default:Params->Obj)=tw6730924627390618151:=rfl
noncomputable def tw9301585197706812622:Params->Obj:=fun _=>default
theorem te9301585197706812622:(fun _=>default:Params->Obj)=tw9301585197706812622:=rfl
noncomputable def tw10863853729777353818:Params->Obj:=fun _=>default
theorem te10863853729777353818:(fun _=>default:Params->Obj)=tw10863853729777353818:=rfl
noncomputable def tw11059362621093178718:Params->Obj:=fun _=>default
theorem te11059362621093178718:(fun _=>default:Params->Obj)=tw11059362621093178718:=rfl
noncomputable def tw17683265792995977269:Params->Obj:=fun _=>default
theorem te17683265792995977269:(fun _=>default:Params->Obj)=tw17683265792995977269:=rfl
noncomputable def tw12909456655543465097:Params->Obj:=fun _=>default
theorem te12909456655543465097:(fun _=>default:Params->Obj)=tw12909456655543465097:=rfl
noncomputable def tw8431754045964136490:Params->Obj:=fun _=>default
theorem te8431754045964136490:(fun _=>default:Params->Obj)=tw8431754045964136490:=rfl
noncomputable def tw3705853245049103157:Params->Obj:=fun _=>default
theorem te3705853245049103157:(fun _=>default:Params->Obj)=tw3705853245049103157:=rfl
noncomputable def tw7373032329892249016:Params->Obj:=fun _=>default
theorem te7373032329892249016:(fun _=>default:Params->Obj)=tw7373032329892249016:=rfl
noncomputable def tw18113264197680918351:Params->Obj:=fun _=>default
theorem te18113264197680918351:(fun _=>default:Params->Obj)=tw18113264197680918351:=rfl
noncomputable def tw14386146949124614863:Params->Obj:=fun _=>default
theorem te14386146949124614863:(fun _=>default:Params->Obj)=tw14386146949124614863:=rfl
noncomputable def tw6086502222926098502:Params->Obj:=fun _=>default
theorem te6086502222926098502:(fun _=>default:Params->Obj)=tw6086502222926098502:=rfl
noncomputable def tw2850954874191370442:Params->Obj:=fun _=>default
theorem te2850954874191370442:(fun _=>default:Params->Obj)=tw2850954874191370442:=rfl
noncomputable def tw16536136326828255415:Params->Obj:=fun _=>default
theorem te16536136326828255415:(fun _=>default:Params->Obj)=tw16536136326828255415:=rfl
noncomputable def tw5710385047176675814:Params->Obj:=fun _=>default
theorem te5710385047176675814:(fun _=>default:Params->Obj)=tw5710385047176675814:=rfl
noncomputable def tw1186980691028180635:Params->Obj:=fun _=>default
theorem te1186980691028180635:(fun _=>default:Params->Obj)=tw1186980691028180635:=rfl
noncomputable def tw12072591898999178165:Params->Obj:=fun _=>default
theorem te12072591898999178165:(fun _=>default:Params->Obj)=tw12072591898999178165:=rfl
noncomputable def tw577017172166714557:Params->Obj:=fun _=>default
theorem te577017172166714557:(fun _=>default:Params->Obj)=tw577017172166714557:=rfl
noncomputable def tw15411750638785621526:Params->Obj:=fun _=>default
theorem te15411750638785621526:(fun _=>default:Params->Obj)=tw15411750638785621526:=rfl
noncomputable def tw2821462609490527693:Params->Obj:=fun _=>default
theorem te2821462609490527693:(fun _=>default:Params->Obj)=tw2821462609490527693:=rfl
noncomputable def tw8310369438585716678:Params->Obj:=fun _=>default
theorem te8310369438585716678:(fun _=>default:Params->Obj)=tw8310369438585716678:=rfl
noncomputable def tw15716513152586505213:Params->Obj:=fun _=>default
theorem te15716513152586505213:(fun _=>default:Params->Obj)=tw15716513152586505213:=rfl
noncomputable def tw15879505735319963067:Params->Obj:=fun _=>default
theorem te15879505735319963067:(fun _=>default:Params->Obj)=tw15879505735319963067:=rfl
noncomputable def tw11814897126691961547:Params->Obj:=fun _=>default
theorem te11814897126691961547:(fun _=>default:Params->Obj)=tw11814897126691961547:=rfl
noncomputable def tw12348334526572993518:Params->Obj:=fun _=>default
theorem te12348334526572993518:(fun _=>default:Params->Obj)=tw12348334526572993518:=rfl
noncomputable def tw2424239854197157068:Params->Obj:=fun _=>default
theorem te2424239854197157068:(fun _=>default:Params->Obj)=tw2424239854197157068:=rfl
noncomputable def tw2565583824820330476:Params->Obj:=fun _=>default
theorem te2565583824820330476:(fun _=>default:Params->Obj)=tw2565583824820330476:=rfl
noncomputable def tw12978714753595299329:Params->Obj:=fun _=>default
theorem te12978714753595299329:(fun _=>default:Params->Obj)=tw12978714753595299329:=rfl
noncomputable def tw3885653741118461917:Params->Obj:=fun _=>default
theorem te3885653741118461917:(fun _=>default:Params->Obj)=tw3885653741118461917:=rfl
noncomputable def tw16040813214184068300:Params->Obj:=fun _=>default
theorem te16040813214184068300:(fun _=>default:Params->Obj)=tw16040813214184068300:=rfl
noncomputable def tw14221157310544693048:Params->Obj:=fun _=>default
theorem te14221157310544693048:(fun _=>default:Params->Obj)=tw14221157310544693048:=rfl
noncomputable def tw11296578401869157969:Params->Obj:=fun _=>default
theorem te11296578401869157969:(fun _=>default:Params->Obj)=tw11296578401869157969:=rfl
noncomputable def tw3973271746681347885:Params->Obj:=fun _=>default
theorem te3973271746681347885:(fun _=>default:Params->Obj)=tw3973271746681347885:=rfl
noncomputable def tw3929411033858248210:Params->Obj:=fun _=>default
theorem te3929411033858248210:(fun _=>default:Params->Obj)=tw3929411033858248210:=rfl
end PySem.W.Fast
open PySem PySem.W PyProof.Rows
set_option maxRecDepth 100000 in
set_option maxHeartbeats 0 in
theorem PySem.Challenge.cw_knowcards_k35_deeds_refused_holds : PySem.Challenge.rw_knowcards_k35_deeds_refused.Holds := by
 w_on;o_law;k_head;(case hw=>w_witness2)
 k_fill
 refine L2.EA (l:=PySem.Challenge.rw_knowcards_k35_deeds_refused) (k:=43) (x:="_law_script") rfl rfl ⟨rfl,by decide,by decide⟩ (fun w h Y=>PySem.W.kIn_of Y) ?F
 case F=>
  intro w mg fa h KX G hmg;refine' Kc_k35.all_mk KX G hmg ?q1 ?q2 ?q3 ?q4 ?q5 ?q6 ?q7 ?q8 ?q9 ?q10 ?q11 ?q12 ?q13 ?q14 ?q15 ?q16 ?q17 ?q18 ?q19 ?q20 ?q21 ?q22 ?q23 ?q24 ?q25 ?q26 ?q27 ?q28 ?q29 ?q30 ?q31 ?q32 ?q33 ?q34 ?q35 ?q36 ?q37 ?q38 ?q39 ?q40 ?q41 ?q42 ?q43 ?q44 ?q45 ?q46 ?q47 ?q48 ?y1 ?y2 ?y3 ?y4 ?y5 ?y6 ?x1 ?x2 ?x3 ?x4 ?x5 ?x6 ?x7 ?x8 ?x9 ?x10 ?x11 ?x12 ?x13 ?x14 ?x15 ?x16 ?x17 ?x18 ?x19 ?x20 ?x21 ?x22 ?x23 ?x24 ?x25 ?x26 ?x27 ?x28 ?x29 ?x30 ?x31 ?x32 ?x33 ?x34 ?x35 ?x36 ?x37 ?x38 ?x39 ?x40 ?x41 ?x42 ?x43 ?x44 ?x45 ?x46 ?x47 ?x48 ?x49 ?x50 ?x51 ?x52 ?x53 ?x54 ?z1 ?z2 ?z3 ?z4 ?z5 ?z6 ?z7 ?z8 ?z9 ?z10 ?z11 ?z12 ?z13 ?z14 ?z15 ?z16
  (case q1=>walk_at "q1")
  (case q2=>walk_at "q1")
  (case q3=>walk_at "q1")
  (case q4=>walk_at "q1")
  (case q5=>walk_at "q1")
  (case q6=>walk_at "q1")
  (case q7=>walk_at "q1")
  (case q8=>walk_at "q1")
  (case q9=>walk_at "q1")
  (case q10=>walk_at "q1")
  (case q11=>walk_at "q1")
  (case q12=>walk_at "q1")
  (case q13=>walk_at "q1")
  (case q14=>walk_at "q1")
  (case q15=>walk_at "q1")
  (case q16=>walk_at "q1")
  (case q17=>walk_at "q1")
  (case q18=>walk_at "q1")
  (case q19=>walk_at "q1")
  (case q20=>walk_at "q1")
  (case q21=>walk_at "q1")
  (case q22=>walk_at "q1")
  (case q23=>walk_at "q1")
  (case q24=>walk_at "q1")
  (case q25=>walk_at "q1")
  (case q26=>walk_at "q1")
  (case q27=>walk_at "q1")
  (case q28=>walk_at "q1")
  (case q29=>walk_at "q1")
  (case q30=>walk_at "q1")
  (case q31=>walk_at "q1")
  (case q32=>walk_at "q1")
  (case q33=>walk_at "q1")
  (case q34=>walk_at "q1")
  (case q35=>walk_at "q1")
  (case q36=>walk_at "q1")
  (case q37=>walk_at "q1")
  (case q38=>walk_at "q1")
  (case q39=>walk_at "q1")
  (case q40=>walk_at "q1")
  (case q41=>walk_at "q1")
  (case y1=>k_is)
  (case y2=>k_is)
  (case y3=>k_is)
  (case y4=>k_is)
  (case y5=>k_is)
  (case y6=>k_is)
  (case x1=>k_is)
  (case x2=>k_is)
  (case x3=>k_is)
  (case x4=>k_is)
  (case x5=>k_is)
  (case x6=>k_is)
  (case x7=>k_is)
  (case x8=>k_is)
  (case x9=>k_is)
  (case x10=>k_is)
  (case x11=>rfl)
  (case x12=>k_is)
  (case x13=>k_is)
  (case x14=>k_is)
  (case x15=>k_is)
  (case x16=>k_is)
  (case x17=>k_is)
  (case x18=>k_is)
  (case x19=>k_is)
  (case x20=>k_is)
  (case x21=>k_is)
  (case x22=>k_is)
  (case x23=>k_is)
  (case x24=>k_is)
  (case x25=>k_is)
  (case x26=>k_is)
  (case x27=>k_is)
  (case x28=>k_is)
  (case x29=>k_is)
  (case x30=>k_is)
  (case x31=>first|kernel_rfl|rfl|decide+kernel)
  (case x32=>first|kernel_rfl|rfl|decide+kernel)
  (case x33=>k_is)
  (case x34=>k_is)
  (case x35=>k_is)
  (case x36=>k_is)
  (case x37=>k_is)
  (case x38=>k_is)
  (case x39=>first|kernel_rfl|rfl|decide+kernel)
  (case x40=>first|kernel_rfl|rfl|decide+kernel)
  (case x41=>first|kernel_rfl|rfl|decide+kernel)
  (case x42=>first|kernel_rfl|rfl|decide+kernel)
  (case x43=>first|kernel_rfl|rfl|decide+kernel)
  (case x44=>first|kernel_rfl|rfl|decide+kernel)
  (case x45=>k_is)
  (case x46=>k_is)
  (case x47=>k_is)
  (case x48=>k_is)
  (case x49=>k_is)
  (case x50=>k_is)
  (case x51=>first|kernel_rfl|rfl|decide+kernel)
  (case x52=>first|kernel_rfl|rfl|decide+kernel)
  (case x53=>first|kernel_rfl|rfl|decide+kernel)
  (case x54=>first|kernel_rfl|rfl|decide+kernel)
  (case q42=>walk_at "q2")
  (case q43=>walk_at "q2")
  (case q44=>walk_at "q2")
  (case q45=>walk_at "q2")
  (case q46=>walk_at "q2")
  (case q47=>walk_at "q2")
  (case q48=>walk_at "q2")
  (case z1=>k_is);(case z2=>k_is);(case z3=>k_is);(case z4=>k_is);(case z5=>k_is);(case z6=>k_is);(case z7=>k_is);(case z8=>k_is);(case z9=>k_is);(case z10=>k_is);(case z11=>k_is);(case z12=>k_is);(case z13=>k_is);(case z14=>k_is);(case z15=>k_is);(case z16=>k_is)
