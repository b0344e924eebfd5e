import PyProof.Rows.All
import Wide.All
import OpenK.AllK
import Wide.FinOn
import Lean
import PyProof.EqAt
import PyProof.EqKinds
import PyProof.TupleCall
import PyProof.NeKinds
import PyProof.SumWalkG
import PyProof.ConsumeWalk
import KE.IntBitsLaws
import PyProof.ZipIter
import KE.KTryMore
import PyProof.ExcArgsOwn
import KE.KDictLaws
import KE.KEqDict
import PyProof.Rows.EqDataRows
import PyProof.SetScanFacts
import PyProof.SetKind
import PyProof.Rows.SetFrom
import KE.KDictSum
import PyProof.ListMulRoad
import PyProof.Rows.CallKwBuiltin
import PyProof.Rows.SeqMore
import PyProof.WalkInts
import KE.KMinBuiltin
import KE.KRevSl
import PyProof.Rows.SortShell
import PyProof.DictWalks
import PyProof.ListRange
import KE.KItemsList
import PyProof.Rows.Range3
import PyProof.TupleOfGen
import PyProof.TupleOfSeq
import PySem.Challenge.RW_knowcards_k40_turns_told
set_option Elab.async false
set_option linter.all false
set_option maxRecDepth 100000
set_option maxHeartbeats 4000000
set_option compiler.extract_closed false
open Array renaming append_assoc → Q3, forIn_toList → M1, getD → QL, getElem?_eq_getElem → LK, getElem?_eq_none → N0, getElem?_toList → Mz, length_toList → Kj, toList_push → Pl
open Bool renaming and_eq_true → K5, and_false → OD, beq_eq_decide_eq → Oa, eq_iff_iff → MY, false_and → OB, false_eq_true → KW, false_ne_true → JQ, not_eq_true → RV, not_true → Nq, true_and → N2
open Classical renaming not_forall → QJ, not_imp → Pk, propDecidable → KG
open False renaming elim → LG
open ForInStep renaming yield → M0
open Int renaming emod_lt_of_pos → Md, emod_nonneg → My, le_antisymm → SC, natCast_ediv → R5, natCast_mul → P4, toNat_natCast → Ng, toNat_of_nonneg → QZ, zero_add → PD
open List renaming Perm → Ld, all_cons → MX, all_eq_true → N6, all_map → Om, any_cons → N1, any_eq_false → Rl, append_assoc → Pf, append_nil → LH, cons_append → RZ, countP_cons → RY, count_append → Ph, count_cons → SB, drop_eq_getElem_cons → Pm, ext_getElem? → Lu, filterMap_cons → Nu, filter_append → ND, filter_cons → LU, filter_cons_of_neg → K6, filter_cons_of_pos → KQ, find?_cons → Kl, findIdx?_eq_none_iff → Nx, findIdx?_eq_some_iff_getElem → L9, flatMap_append → OA, flatMap_cons → Pi, flatten_cons → NR, foldl → Sl, foldl_append → Rt, foldl_cons → Sm, forIn_cons → Nw, forIn_nil → NJ, getD_eq_getElem?_getD → JN, getElem?_append_left → Me, getElem?_append_right → MB, getElem?_eq_getElem → JD, getElem?_eq_none → J5, getElem?_eq_some_iff → JG, getElem?_map → JS, getElem?_of_mem → QI, getElem?_range → K3, getElem?_set → MF, getElem?_set_ne → Qz, getElem?_set_self → P9, getElem?_take_of_lt → Pw, getElem?_toArray → Qu, getElem?_zip_eq_some → MH, getElem_mem → MQ, getElem_range → OV, idxOf_append → Rq, idxOf_cons → Sv, idxOf_lt_length_of_mem → OT, length_append → JX, length_cons → Kd, length_drop → RQ, length_eq_zero_iff → MV, length_eraseIdx_of_lt → O9, length_filter_le → Oc, length_map → JB, length_nil → Sw, length_pos_iff → Oz, length_range → Kz, length_set → LI, length_singleton → Qk, length_take → Ly, length_zip → M5, lookup → M7, lookup_cons → KC, map_append → JY, map_congr_left → L7, map_cons → JZ, map_map → Mv, map_nil → Ni, map_set → Ri, mem_append → Ka, mem_append_left → Li, mem_append_right → Kh, mem_cons → JH, mem_cons_of_mem → JO, mem_cons_self → JI, mem_filter → L5, mem_filterMap → ON, mem_flatMap → R3, mem_iff_getElem → Ov, mem_iff_getElem? → Od, mem_map → KR, mem_map_of_mem → QY, mem_of_getElem? → JK, mem_range → K1, mem_singleton → JE, nodup_append → Rv, nodup_cons → Mg, not_mem_nil → KL, of_mem_zip → PV, pairwise_append → Ou, pairwise_cons → OW, pairwise_iff_getElem → MI, pairwise_lt_range → NZ, pairwise_singleton → PM, range → JT, range_succ → LJ, range_succ_eq_map → Qe, replicate → Km, replicate_succ → MT, replicate_succ' → Nn, set_cons_succ → LS, set_cons_zero → LR, size_toArray → JU, sum_append → Ll, sum_cons → J9, sum_nil → Nk, take_add_one → Ls, take_append_drop → Nj, take_length → Ki, take_of_length_le → Na, zipIdx_cons → RW, zipIdx_nil → Sr, zip_cons_cons → Ln, zip_nil_left → LY
open List.cons renaming injEq → P0
open Nat renaming add_assoc → O5, add_le_add_right → QH, add_mul → RK, eq_of_mul_eq_mul_right → O6, eq_zero_or_pos → NC, le_add_right → Lz, le_of_ble_eq_true → LM, le_of_eq → MM, le_of_lt → KJ, le_of_not_lt → Py, le_refl → JF, le_succ → L8, le_trans → Kc, lt_irrefl → Lv, lt_of_le_of_lt → MZ, lt_of_lt_of_le → J2, lt_or_eq_of_le → NF, lt_or_ge → Rj, lt_succ_of_lt → Le, lt_succ_self → Lp, lt_trichotomy → Pj, min_self → Mu, mod_lt → SD, mul_assoc → LB, mul_comm → LP, mul_left_comm → Mm, mul_pos → RI, ne_of_gt → LA, ne_of_lt → Kg, not_le → Ox, not_lt → Po, not_lt_zero → M4, one_mul → RJ, sub_self → Ot, succ_le_succ → R8, succ_pos → Rh, zero_le → Ks
open Ne renaming symm → Lg
open Option renaming isSome_iff_exists → Pu, isSome_map → Ru, isSome_some → Rf, map_eq_some_iff → Qg, map_some → Oo
open Option.some renaming inj → JR
open Or renaming inl → Ql, inr → Ms
open PyProof.Rows renaming Subscript_ → Si, boot_all → Sa, boot_isinstance → Lo, boot_list → L6, boot_max → Sb, boot_range → Sf, boot_sum → QM, boot_tuple → NN, callWith_builtin1 → Oh, callWith_type1 → Lc, slot_tuple_getitem → MU, subscriptTail → QP, subscriptTail_builtinR → Qc
open PyProof.Rows.F renaming entry_set_update_loop → PN, plain_set_update_loop → NQ
open PySem renaming DictEntry → Q5, FuncData → JV, GenState → Qy, IntMulOk → Mp, IsTupleKey → Sz, NameKind → Kt, PassesOwn → Kr, PlainAttrs → Sk, SetTable → J3, Within → Pt, assignEach → Of, atKey_none_of_get → NV, attributeBase → MW, backToKw → N4, behindInMarks → O1, beq_builtin_none → PF, binaryOp → MA, bootBuiltins → Ny, boot_len → KA, builtinLookup_eq_fast → Nl, builtinsNs → Sd, callSpecialIfBoundUnlessNone? → Nc, callType_new → Re, callWith → RP, call_meets → NI, cellsFrom → PX, checkBuiltinCall → R9, closureFor → Ol, codeAny_builtin → Lx, codeAny_compStart_list → Qd, codeAny_mono → MN, codeAny_of_tree → P5, compEnvC → N5, compPost → RS, compareOp → Lk, concat_meets → Ra, dictSetDefault → OG, eqBool → Rg, eqIsQuiet → P3, eqIsQuiet_byValue → Rr, exec_Assign_Name_used → Qm, fastBuiltinMro → Qn, fits_of_scanBound → Ry, foldedSetIterable → Nf, getMethod → OO, intBits_le_64 → O0, intBits_le_64 → QX, intBits_mul_le → Qq, isInstance → SA, isSubtype_stop → NK, isSubtype_tuple_tuple → Ob, isSubtype_type → Qt, keywordEach → M8, letOwnedTupleGo → Og, mainGlobals → Kb, mem_of_lookup → Kn, newFunctionEnv → OE, newTuple → RU, noFill_tuple_add → Px, pickOrder → NH, plainId_quiet → Mo, rangeSize_one → QN, reduceHash → Sx, relayAll → OI, scanBound → NG, seqIndex_neg → Rb, seqIndex_of → RF, seq_tuple_add → QO, setEntries → Pq, sizeLine → JP, sizeLine_eq → JJ, small_one → SE, starEach → J4, storedH_new → RL, subscripted → Qb, swapsWith → OM, sysModules → LF, typeIs_int → Sj, typeLookup → QB, typeLookup_type → Ow, updateSeq → OX, wpAny_Call_Name_kw → Mb, wpAny_Call_method_late → NY, wpAny_Dict_empty → R7, wpAny_List_spliced → Q9, wpAny_Name → Se, wpAny_Tuple_spliced → QS, wpAny_askSetting → PH, wpAny_assign_Name → Pc, wpAny_attempt → MD, wpAny_bind → Jz, wpAny_call → Sh, wpAny_callSpecial?_slot → KD, wpAny_callSpecialIfBoundUnlessNone?_slot → Mi, wpAny_call_entry → Ko, wpAny_comprehension_free → MP, wpAny_execs_cons → RN, wpAny_execs_nil → Oe, wpAny_field → KO, wpAny_fieldsOf → OJ, wpAny_forIn_list → N8, wpAny_getItem_of → R6, wpAny_handled → QQ, wpAny_holding → K4, wpAny_isInstance → LQ, wpAny_ite_split → P6, wpAny_letGo → Qf, wpAny_load → QA, wpAny_mono → Lj, wpAny_newObj_type → Ky, wpAny_newTuple → Qp, wpAny_of_eq → OL, wpAny_onRaise → O4, wpAny_passesOwn → Mx, wpAny_pure → JC, wpAny_pyHash_int → RM, wpAny_pyIter_enum → Rp, wpAny_pyIter_list → Nd, wpAny_pyIter_slot → RA, wpAny_pyIter_tuple → Q4, wpAny_pyIter_zip → PB, wpAny_ret_mkInt → Oq, wpAny_rule → Ma, wpAny_runValue → Qs, wpAny_seqItems → K2, wpAny_setField → Mq, wpAny_setField_rec → Mc, wpAny_setState_of → Lf, wpAny_specialOf → Lm, wpAny_standAt → OZ, wpAny_storeSet_of → Rx, wpAny_throw → RG, wpAny_truthy_bool → LX, wpAny_tupleItemsOf → OU, wpAny_typeOf → Oi, wpAny_updateSeq → M6, wpAny_updateSeq_pair → On
open PySem.Around renaming under → Q7, under_plainId → Lb
open PySem.Builtin.Int renaming intBits → KB
open PySem.Builtin.List renaming listExtendWith → KY, listItems → Qh, listLengthHint → Mw, listSameRef → MS, listTooLong → MO, listUpdate → PQ
open PySem.Builtin.Range renaming rangeSize → NO, small → Q0
open PySem.Builtin.Slice renaming sliceAdjust → Nv, sliceApplied → O2, slicePlaces → MG
open PySem.Builtin.SmallTypes renaming nextOf → Kq, ownedTupleHandOut → NB, ownedTupleIsFree → Kv
open PySem.Builtin.Tuple renaming tupleExact → LO, tupleHashOf → Lr, tupleItemsOf → O3
open PySem.Calls renaming Name_function_global → OY, callWith_builtin → M9, evalArgs_plain → Oj, spliced_cons → OP, spliced_nil → Pe
open PySem.Code renaming isFrame → Q8
open PySem.F renaming args_object_init_2 → QF, args_object_init_3 → QG, args_tuple_add_2 → NA, args_tuple_iterator_next_1 → OF, args_zip_next_1 → NT, called_tuple → Qw, entry_extend_loop → Pr, entry_tuple_add → NP, entry_tuple_iterator_next → OR, entry_zip_new → Su, entry_zip_next → N7, newCall_zip_2 → Ss, plainAttrs_list → Kw, plain_extend_loop → LL, plain_list_iadd → PP, plain_list_iadd → RB, plain_set_new → Qr, plain_tuple_new → RC, slot_NoneType_hash → ME, slot_bool_hash → Nb, slot_dict_getitem → Pn, slot_dict_setdefault → OH, slot_int_rmul → Sn, slot_list_append → KZ, slot_list_index → PL, slot_set_iter → Qv, slot_tuple_add → NW, slot_tuple_count → PC, slot_tuple_eq → Os, slot_tuple_hash → NU, slot_tuple_iterator_next → MC, slot_zip_next → Mh, typeCall_zip_2 → RX, type_list_append → K0
open PySem.Heap renaming ExtBut → Nt, SameBut → J0, get?_push_of_some → JA, get?_push_size → JM, get?_update_other → Lq, get?_update_self → KH, lt_size → JL, size_push → Kk, size_update → PJ
open PySem.Heap.SameBut renaming refl → Rz, update → KI
open PySem.NameKind renaming cell → Np, free → Lh
open PySem.Obj renaming cls_mapFields → Pg, data_mapDictKeys → QK, data_mapFields → Mt, isFreed_of_fields → N9, mapFields → O8, mapSeq → La, putSet → Pp
open PySem.Paired renaming length → Kf
open PySem.PassesOwn renaming never → J6
open PySem.PyData renaming canLayAll0 → LZ, depthAll → Mj, eqv → NL, eqvAll → Pa, int → NM, keyHash → KS
open PySem.SeqAt renaming EqAt → Ke, shaped → MR
open PySem.SeqAt.EqAt renaming bool_bool → QE, bool_int → QU, bool_none → QD, int_bool → QW, int_int → Rc, int_none → QV, int_str → Q1, none_bool → QC, none_int → QT, same → PY, str_int → Q2
open PySem.SetTable renaming below → J7, grown → ML
open PySem.SetTable.below renaming go → Mn
open PySem.SetTable.probe renaming go → Rw
open PySem.Shared renaming TypeIs → O7, heap → RH
open PySem.Str renaming empty → SF, ofString → LN
open PySem.Value renaming bool → KP, builtin → QR, float → RE, int → MJ, isInt → P8, isInt_shape → Rk, none → K8, ref → J8, str → PR, type → K9
open PySem.W renaming callWith_K → OQ, cellsFrom_some → Qa, codeIn → Qj, emptyDict → LD, findIn → LV, findIn → OK, fnOf → Nz, handedIn → RO, hasDictIn → Pd, instObj → Mf, isFn → Q6, keepIn → Nh, kia_one → Lw, kitMeta → PZ, kitOne → Ku, kitx_dict → Ro, kitx_list → Rn, lookIn → OC, makesIn → Sg, methodCall_KW → Qi, methodObj → Pb, mg_none_of → K7, mg_of → Qx, nsIn → LW, plainGet → N3, plainGet_of → Oy, plainOver → Rm, takerIn → PU
open PySem.W.WData renaming int → NS, layable → Qo, layableAll → Pz, list → OS, weight → Nm, weightAll → PK
open PySem.Walks renaming list → So
open Sum renaming inl → Ml, inr → LC
open Sum.inl renaming inj → RD
open Sum.inr renaming inj → Nr
open True renaming intro → Mr
noncomputable abbrev Fg:=PySem.W.Frag
section
namespace L2
open PySem PySem.Spec PyProof.Rows
noncomputable abbrev Key:=Sum Int Str
noncomputable def pQ:Key->Value->Bool
 | .inl k,v=>P8 k v
 | .inr x,v=>Value.isStrOf x v
noncomputable def Jj(w:World):Key->Int
 | .inl k=>hashInt k
 | .inr x=>hashStr w x
theorem cT:∀{k:Key} {v:Value},pQ k v=true->(∃i t,k=Ml i/\v=MJ i t)\/(∃x t,k=LC x/\v=PR x t)
 | .inl i,v,h=>by
  obtain⟨t,e⟩:=Rk (k:=i) (v:=v) h;exact .inl ⟨i,t,rfl,e⟩
 | .inr x,v,h=>by
  obtain⟨t,e⟩:=Value.isStrOf_shape (x:=x) (v:=v) h;exact .inr ⟨x,t,rfl,e⟩
theorem Cc(i:Int)(t:Tok):pQ (.inl i) (.int i t)=true:=by simp[pQ,P8]
theorem Cd(x:Str)(t:Tok):pQ (.inr x) (.str x t)=true:=by simp[pQ,Value.isStrOf]
theorem Hk(a b:Int):decide ((Ml a:Key)=Ml b)=(a==b):=by
 by_cases e:a=b
 ·subst e;simp
 ·have h:¬(Ml a:Key)=Ml b:=fun q=>e (RD q)
  rw[decide_eq_false h];exact(beq_eq_false_iff_ne.mpr e).symm
theorem Hl(a b:Str):decide ((LC a:Key)=LC b)=decide (a=b):=by
 by_cases e:a=b
 ·subst e;simp
 ·have h:¬(LC a:Key)=LC b:=fun q=>e (Nr q)
  rw[decide_eq_false h,decide_eq_false e]
theorem Hn(a:Int)(b:Str):decide ((Ml a:Key)=LC b)=false:=decide_eq_false (fun q=>nomatch q)
theorem Ho(a:Str)(b:Int):decide ((LC a:Key)=Ml b)=false:=decide_eq_false (fun q=>nomatch q)
noncomputable def hZ(prog:Program)(w:World):PySem.KeyKind prog w Key where
 is:=pQ
 hash:=Jj w
 inj:=fun v a b ha hb=>by
  rcases cT ha with⟨i,t,rfl,rfl⟩|⟨x,t,rfl,rfl⟩
  ·rcases cT hb with⟨j,u,rfl,e⟩|⟨y,u,rfl,e⟩
   ·injection e with e1 _;rw[e1]
   ·exact nomatch e
  ·rcases cT hb with⟨j,u,rfl,e⟩|⟨y,u,rfl,e⟩
   ·exact nomatch e
   ·injection e with e1 _;rw[e1]
 byValue:=fun k v h=>by
  rcases cT h with⟨i,t,rfl,rfl⟩|⟨x,t,rfl,rfl⟩<;>rfl
 pyHash:=fun hv h=>by
  rcases cT hv with⟨i,t,rfl,rfl⟩|⟨x,t,rfl,rfl⟩
  ·exact RM h
  ·exact wpAny_pyHash_str h
 eqBool:=fun hu hv h=>by
  rcases cT hu with⟨i,t,rfl,rfl⟩|⟨x,t,rfl,rfl⟩
  ·rcases cT hv with⟨j,u,rfl,rfl⟩|⟨y,u,rfl,rfl⟩
   ·rw[Hk]at h;exact wpAny_eqBool_int h
   ·rw[Hn]at h;exact Q1 i t y u _ _ _ _ h
  ·rcases cT hv with⟨j,u,rfl,rfl⟩|⟨y,u,rfl,rfl⟩
   ·rw[Ho]at h;exact Q2 x t j u _ _ _ _ h
   ·rw[Hl]at h;exact wpAny_eqBool_str h
 «strs»:=fun k x t v h=>by
  rcases cT h with⟨i,u,rfl,e⟩|⟨y,u,rfl,e⟩
  ·exact nomatch e
  ·injection e with e1 _
   subst e1;cases v<;>rfl
theorem zf(prog:Program)(w:World)(i:Int)(t:Tok):(hZ prog w).is (.inl i) (.int i t)=true:=Cc i t
theorem bx(prog:Program)(w:World)(x:Str)(t:Tok):(hZ prog w).is (.inr x) (.str x t)=true:=Cd x t
end L2
namespace L2
open PySem PySem.Spec PyProof.Rows
inductive V where
 |non|bl (b:Bool)|int (i:Int)|str (x:Str)|byt (b:Array UInt8)|flt (b:UInt64)|ref (a:Addr)|ty (n:String)
 deriving DecidableEq
noncomputable def aO:V->Value->Prop
 | .non,u=>u=K8
 | .bl b,u=>u=KP b
 | .int i,u=>∃t,u=MJ i t
 | .str x,u=>∃t,u=PR x t
 | .byt b,u=>∃t,u=Value.bytes b t
 | .flt b,u=>∃t,u=RE b t
 | .ref a,u=>u=J8 a
 | .ty n,u=>u=K9 n
noncomputable abbrev aL:List V->List Value->Prop:=Paired aO
theorem aL.length{xs:List V}{us:List Value}(r:aL xs us):xs.length=us.length:=Kf r
theorem aL.get:∀{xs:List V} {us:List Value} {i:Nat} {x:V},aL xs us->xs[i]?=some x->∃u,us[i]?=some u/\aO x u
 |_,_,_,_,.nil,e=>by simp at e
 |_,_,0,_,.cons r _,e=>by simp at e;subst e;exact⟨_,rfl,r⟩
 |_,_,i+1,x,.cons _ t,e=>by
  obtain⟨u,h1,h2⟩:=aL.get (i:=i) (x:=x) t (by simpa using e);exact⟨u,by simpa using h1,h2⟩
theorem aL.set{x:V}{u:Value}(r:aO x u):∀{xs:List V} {us:List Value} (i:Nat),aL xs us->aL (xs.set i x) (us.set i u)
 |_,_,_,.nil=>.nil
 |_,_,0,.cons _ t=>.cons r t
 |_,_,i+1,.cons q t=>.cons q (aL.set r i t)
theorem aL.append:∀{xs ys:List V} {us ws:List Value},aL xs us->aL ys ws->aL (xs++ys) (us++ws)
 |_,_,_,_,.nil,s=>s
 |_,_,_,_,.cons r t,s=>.cons r (aL.append t s)
theorem aL.take:∀{xs:List V} {us:List Value} (n:Nat),aL xs us->aL (xs.take n) (us.take n)
 |_,_,0,_=>.nil
 |_,_,_+1,.nil=>.nil
 |_,_,n+1,.cons r t=>.cons r (aL.take n t)
theorem aL.drop:∀{xs:List V} {us:List Value} (n:Nat),aL xs us->aL (xs.drop n) (us.drop n)
 |_,_,0,r=>r
 |_,_,_+1,.nil=>.nil
 |_,_,n+1,.cons _ t=>aL.drop n t
noncomputable def gh:Option V->Option Value->Prop
 |some v,some u=>aO v u
 |none,none=>True
 |_,_=>False
noncomputable def KV{κ:Type}:List (κ×V)->List (κ×Value)->Prop:=Paired fun(p:κ×V)(q:κ×Value)=>p.1=q.1/\aO p.2 q.2
noncomputable def kV:Key->V
 | .inl i=>.int i
 | .inr x=>.str x
inductive HO where
 |lst (xs:List V)
 |tup (xs:List V)
 |dK (kvs:List (Key×V))|dT (kvs:List (List Key×V))
 |set (S:Int->Bool) (n:Nat)
 |ins (C dx:Addr) (fs:List (Str×V))
 |own (x:Addr)
 |xd (fs:List (Str×V))
 |met (f x:Addr)
 |rng (lo hi:Int)
 |frz (o:Obj) (u:HO)
 |tbl (ps:Array Value)
 |ext (φ:Heap->Prop)
noncomputable abbrev Hp:=Addr->Option HO
noncomputable def upd(H:Hp)(a:Addr)(o:HO):Hp:=fun b=>if b=a then some o else H b
theorem az{H:Hp}{a:Addr}{o:HO}:upd H a o a=some o:=by unfold upd;rw[if_pos rfl]
theorem aR{H:Hp}{a b:Addr}{o:HO}(h:b≠a):upd H a o b=H b:=by unfold upd;rw[if_neg h]
theorem wY{H:Hp}{a b:Addr}{o u:HO}(h:H a=some o)(h':H b=some u)(d:o≠u):a≠b:=by
 intro e;subst e;rw[h]at h';exact d (JR h')
theorem aY{H:Hp}{a b:Addr}{o:HO}(h:H a=some o)(h':H b=none):a≠b:=by
 intro e;subst e;rw[h]at h';cases h'
noncomputable def d6(h:Heap)(a:Addr)(items:Array Value):Prop:=∃o,h.get? a=some o/\o.cls=.type "tuple"/\(∃n,o.data=.seq items n)/\o.dict=none
theorem d6.lt{h:Heap}{a:Addr}{items:Array Value}(x:d6 h a items):a<h.objs.size:=let⟨_,e,_⟩:=x;JL e
theorem d6.tup{h:Heap}{a:Addr}{items:Array Value}(x:d6 h a items):IsTup h a items:=let⟨o,e,c,d,_⟩:=x;⟨o,e,c,d⟩
theorem d6.new(h:Heap)(items:Array Value):d6 (h.push { cls:=.type "tuple",data:=.seq items }) h.objs.size items:=⟨_,JM _ rfl,rfl,⟨_,rfl⟩,rfl⟩
section
variable(P:Program)(w:World)
noncomputable def bI(H:Hp)(h:Heap)(a:Addr):HO->Prop
 | .lst xs=>xs.length<=JP/\∃(its:List Value)(n:Nat),aL xs its/\h.get? a=some { cls:=.type "list",data:=.seq its.toArray n }
 | .tup xs=>xs.length<=JP/\∃its:List Value,aL xs its/\d6 h a its.toArray
 | .dK kvs=>kvs.length<=JP/\(a==LF)=false/\∃vs,KV kvs vs/\h.DictOf (hZ P w) a vs
 | .dT kvs=>kvs.length<=JP/\(a==LF)=false/\∃xs:List (List Key×Addr×Value),
   Paired (fun(p:List Key×V)(q:List Key×Addr×Value)=>p.1=q.1/\H q.2.1=some (.tup (p.1.map kV))/\aO p.2 q.2.2) kvs xs/\
   ∃o es ep,h.get? a=some o/\o.ExactDict/\o.data=.dict es ep/\es.toList=xs.map (entryOfKey (tupleKind (hZ P w)))/\(xs.map (·.1)).Nodup
 | .set S n=>h.SetOf (intKind P w) a S n
 | .ins C dx fs=>H dx=some (.own a)/\fs.length<=1000/\dx≠a/\h.get? a=some (Mf C dx)/\
   ∃mA,h.Ns1 dx mA/\(∀f,gh (fs.lookup f) (mA f))/\Pt mA (fs.map (·.1))
 | .own _=>∃o,h.get? a=some o
 | .xd fs=>∃mA,h.Ns1 a mA/\∀f,gh (fs.lookup f) (mA f)
 | .rng lo hi=>∃t u v,h.get? a=some { cls:=.type "range",data:=.fields #[.int lo t,.int hi u,.int 1 v] }
 | .frz o u=>h.get? a=some o/\bI H h a u
 | .tbl ps=>h.get? a=some { cls:=.none,data:=.fields ps }
 | .met f x=>h.get? a=some (Pb (.ref f) (.ref x))
 | .ext φ=>φ h/\(∃o,h.get? a=some o)/\∀h1 h2:Heap,φ h1->(∀o,h1.get? a=some o->h2.get? a=some o)->φ h2
noncomputable def HOk(H:Hp)(h:Heap):Prop:=∀a o,H a=some o->bI P w H h a o
end
section
variable{P:Program}{w:World}{H H':Hp}{h h':Heap}{a:Addr}{o:HO}
theorem bI.lt(x:bI P w H h a o):a<h.objs.size:=by
 cases o with
 |lst xs=>obtain⟨_,_,_,_,e⟩:=x;exact JL e
 |tup xs=>obtain⟨_,_,_,p⟩:=x;exact p.lt
 |dK kvs=>obtain⟨_,_,_,_,o,_,_,e,_⟩:=x;exact JL e
 |dT kvs=>obtain⟨_,_,_,_,o,_,_,e,_⟩:=x;exact JL e
 |set S n=>obtain⟨o,_,_,_,e,_⟩:=x;exact JL e
 |ins C dx fs=>obtain⟨_,_,_,e,_⟩:=x;exact JL e
 |own y=>obtain⟨_,e⟩:=x;exact JL e
 |xd fs=>obtain⟨_,⟨_,_,_,e,_⟩,_⟩:=x;exact JL e
 |rng lo hi=>obtain⟨_,_,_,e⟩:=x;exact JL e
 |frz ob u=>obtain⟨e,_⟩:=x;exact JL e
 |tbl ps=>exact JL (show h.get? a=some _ from x)
 |met f y=>exact JL (show h.get? a=some _ from x)
 |ext φ=>obtain⟨_,⟨_,e⟩,_⟩:=x;exact JL e
theorem Paired.mapP{α β:Type}{F G:α->β->Prop}:∀{l₁:List α} {l₂:List β},Paired F l₁ l₂->(∀a b,F a b->G a b)->Paired G l₁ l₂
 |_,_,.nil,_=>.nil
 |_,_,.cons r t,f=>.cons (f _ _ r) (Paired.mapP t f)
theorem bI.stay(x:bI P w H h a o)(k:∀b u,(b=a\/H b=some (.own a))->h.get? b=some u->h'.get? b=some u)
  (ho:∀b,H b=some (.own a)->H' b=some (.own a)) (ht:∀b xs,H b=some (.tup xs)->H' b=some (.tup xs)):bI P w H' h' a o:=by
 induction o with
 |lst xs=>obtain⟨z,its,n,r,e⟩:=x;exact⟨z,its,n,r,k _ _ (.inl rfl) e⟩
 |tup xs=>obtain⟨z,its,r,ob,e,c⟩:=x;exact⟨z,its,r,ob,k _ _ (.inl rfl) e,c⟩
 |dK kvs=>obtain⟨z,y,vs,r,ob,es,ep,e,c⟩:=x;exact⟨z,y,vs,r,ob,es,ep,k _ _ (.inl rfl) e,c⟩
 |dT kvs=>
  obtain⟨z,y,xs,r,ob,es,ep,e,c⟩:=x;exact⟨z,y,xs,Paired.mapP r fun p q z=>⟨z.1,ht _ _ z.2.1,z.2.2⟩,ob,es,ep,k _ _ (.inl rfl) e,c⟩
 |set S n=>obtain⟨ob,es,ep,t,e,c⟩:=x;exact⟨ob,es,ep,t,k _ _ (.inl rfl) e,c⟩
 |ins C dx fs=>
  obtain⟨d,z,ne,e,mA,⟨od,es,ep,e2,c⟩,r⟩:=x;exact⟨ho _ d,z,ne,k _ _ (.inl rfl) e,mA,⟨od,es,ep,k _ _ (.inr d) e2,c⟩,r⟩
 |own y=>obtain⟨ob,e⟩:=x;exact⟨ob,k _ _ (.inl rfl) e⟩
 |xd fs=>obtain⟨mA,⟨od,es,ep,e,c⟩,r⟩:=x;exact⟨mA,⟨od,es,ep,k _ _ (.inl rfl) e,c⟩,r⟩
 |rng lo hi=>obtain⟨t,u,v,e⟩:=x;exact⟨t,u,v,k _ _ (.inl rfl) e⟩
 |frz ob u ih=>obtain⟨e,q⟩:=x;exact⟨k _ _ (.inl rfl) e,ih q⟩
 |tbl ps=>
  have e:h.get? a=some { cls:=.none,data:=.fields ps }:=x;show h'.get? a=some { cls:=.none,data:=.fields ps };exact k a _ (.inl rfl) e
 |met f y=>
  have e:h.get? a=some (Pb (.ref f) (.ref y)):=x;show h'.get? a=some (Pb (.ref f) (.ref y));exact k a _ (.inl rfl) e
 |ext φ=>obtain⟨p,⟨o,e⟩,st⟩:=x;exact⟨st _ _ p fun o q=>k _ _ (.inl rfl) q,⟨o,k _ _ (.inl rfl) e⟩,st⟩
theorem HOk.lt(x:HOk P w H h)(e:H a=some o):a<h.objs.size:=(x a o e).lt
theorem HOk.fresh(x:HOk P w H h)(e:h.objs.size<=a):H a=none:=by
 cases q:H a with
 |none=>rfl
 |some u=>exact absurd (J2 (x.lt q) e) (Lv _)
theorem HOk.kept(x:HOk P w H h)(k:∀b u,h.get? b=some u->h'.get? b=some u):HOk P w H h':=fun a o e=>
 (x a o e).stay (fun b u _ q=>k b u q) (fun _ q=>q) fun _ _ q=>q
theorem HOk.laid(x:HOk P w H h)(k:∀b u,h.get? b=some u->h'.get? b=some u)(hp:h.objs.size<=a)(new:bI P w (upd H a o) h' a o):HOk P w (upd H a o) h':=fun b u e=>by
 have hn:=x.fresh hp;by_cases hb:b=a
 ·subst hb;rw[az]at e;cases e;exact new
 ·rw[aR hb]at e
  exact(x b u e).stay (fun c v _ q=>k c v q) (fun c q=>by rw[aR (aY q hn)];exact q) fun c xs q=>by rw[aR (aY q hn)];exact q
end
noncomputable def Rd(H:Hp)(a:Addr)(u:HO):Prop:=H a=some u\/∃o,H a=some (.frz o u)
theorem Rd.of{H:Hp}{a:Addr}{u:HO}(h:H a=some u):Rd H a u:=.inl h
theorem Rd.ok{P:Program}{w:World}{H:Hp}{h:Heap}{a:Addr}{u:HO}(r:Rd H a u)(x:HOk P w H h):bI P w H h a u:=by
 rcases r with r|⟨o,r⟩
 ·exact x a u r
 ·obtain⟨_,q⟩:=x a _ r
  exact q
noncomputable def Mut:Option HO->Prop
 |some (.lst _)=>True
 |some (.dK _)=>True
 |some (.dT _)=>True
 |some (.set _ _)=>True
 |some (.ins _ _ _)=>True
 |some (.ext _)=>True
 |_=>False
section
variable{P:Program}{w:World}{H:Hp}{h h':Heap}{x e:Addr}{o':HO}
theorem HOk.write(ok:HOk P w H h)(mu:Mut (H x))(he:e=x\/H e=some (.own x))(k:∀b u,b≠e->h.get? b=some u->h'.get? b=some u)(heo:∃u,h'.get? e=some u)
  (new:bI P w (upd H x o') h' x o'):HOk P w (upd H x o') h':=fun b u q=>by
 have nown:∀c y,H c=some (.own y)->c≠x:=fun c y r z=>by subst z;rw[r]at mu;exact mu
 have ntup:∀c xs,H c=some (.tup xs)->c≠x:=fun c xs r z=>by subst z;rw[r]at mu;exact mu
 by_cases hb:b=x
 ·subst hb;rw[az]at q;cases q;exact new
 ·rw[aR hb]at q
  by_cases hbe:b=e
  ·have q':H b=some (.own x):=by
    rcases he with z|z
    ·exact absurd (hbe.trans z) hb
    ·rw[hbe];exact z
   rw[q]at q';cases q';obtain⟨v,hv⟩:=heo;exact⟨v,by rw[hbe];exact hv⟩
  ·refine(ok b u q).stay (fun c v hc r=>k c v ?_ r) (fun c r=>by rw[aR (nown c b r)];exact r) fun c xs r=>by rw[aR (ntup c xs r)];exact r
   rcases hc with rfl|hc
   ·exact hbe
   ·rintro rfl
    rcases he with z|z
    ·exact nown c b hc z
    ·rw[hc]at z;cases z;exact hb rfl
end
structure Un(fs ex:List Addr)(H H':Hp)(h h':Heap):Prop where
 keep:∀b o,h.get? b=some o->H b=none->b∉fs->b∉ex->h'.get? b=some o
 slot:∀b o,h.get? b=some o->H b=none->b∈fs->b∉ex->∃sl,h'.get? b=some { o with slots:=sl }
 free:∀b o,h.get? b=some o->H b=none->b∉ex->H' b=none
 there:∀b o,h.get? b=some o->b∉ex->∃o',h'.get? b=some o'
 tups:∀b xs,H b=some (.tup xs)->H' b=some (.tup xs)
 frzs:∀b o u,H b=some (.frz o u)->H' b=some (.frz o u)
 tbls:∀b ps,H b=some (.tbl ps)->∃more,H' b=some (.tbl (ps++more))
section
variable{fs fs' ex ex':List Addr}{H H1 H2:Hp}{h h1 h2 h':Heap}{a x e:Addr}{o:HO}
theorem Un.any(u:Un fs ex H H1 h h1){b:Addr}{ob:Obj}(q:h.get? b=some ob)(n:H b=none)(hx:b∉ex):∃sl,h1.get? b=some { ob with slots:=sl }:=by
 by_cases hb:b∈fs
 ·exact u.slot b ob q n hb hx
 ·exact⟨ob.slots,u.keep b ob q n hb hx⟩
theorem Un.trans(a:Un fs ex H H1 h h1)(b:Un fs ex H1 H2 h1 h2):Un fs ex H H2 h h2 where
 keep:=fun c ob q n hc hx=>b.keep c ob (a.keep c ob q n hc hx) (a.free c ob q n hx) hc hx
 slot:=fun c ob q n hc hx=>by
  obtain⟨sl,e1⟩:=a.slot c ob q n hc hx;obtain⟨sl',e2⟩:=b.slot c _ e1 (a.free c ob q n hx) hc hx;exact⟨sl',e2⟩
 free:=fun c ob q n hx=>by
  obtain⟨o',e1⟩:=a.there c ob q hx;exact b.free c o' e1 (a.free c ob q n hx) hx
 there:=fun c ob q hx=>by
  obtain⟨o',e1⟩:=a.there c ob q hx;exact b.there c o' e1 hx
 tups:=fun c xs q=>b.tups c xs (a.tups c xs q)
 frzs:=fun c ob xs q=>b.frzs c ob xs (a.frzs c ob xs q)
 tbls:=fun c ps q=>by
  obtain⟨m1,e1⟩:=a.tbls c ps q;obtain⟨m2,e2⟩:=b.tbls c _ e1;exact⟨m1++m2,by rw[e2,Q3]⟩
theorem Un.kept(k:∀b u,h.get? b=some u->h'.get? b=some u):Un fs ex H H h h':=
 ⟨fun b ob q _ _ _=>k b ob q,fun b ob q _ _ _=>⟨ob.slots,k b ob q⟩,fun _ _ _ n _=>n,fun b ob q _=>⟨ob,k b ob q⟩,fun _ _ q=>q,fun _ _ _ q=>q,fun _ ps q=>⟨#[],by rw[q];simp⟩⟩
theorem Un.refl:Un fs ex H H h h:=Un.kept fun _ _ q=>q
theorem Un.laid(k:∀b u,h.get? b=some u->h'.get? b=some u)(hp:h.objs.size<=a)(hn:H a=none):Un fs ex H (upd H a o) h h' where
 keep:=fun b u q _ _ _=>k b u q
 slot:=fun b u q _ _ _=>⟨u.slots,k b u q⟩
 free:=fun b u q n _=>by rw[aR (Kg (J2 (JL q) hp))];exact n
 there:=fun b u q _=>⟨u,k b u q⟩
 tups:=fun b xs q=>by rw[aR (aY q hn)];exact q
 frzs:=fun b u xs q=>by rw[aR (aY q hn)];exact q
 tbls:=fun b ps q=>⟨#[],by rw[aR (aY q hn),q];simp⟩
theorem Un.write(mu:Mut (H x))(he:e=x\/H e=some (.own x))(k:∀b u,b≠e->h.get? b=some u->h'.get? b=some u)(heo:∃u,h'.get? e=some u):Un fs ex H (upd H x o) h h':=by
 have hx:∀b,H b=none->b≠x:=fun b n z=>by subst z;rw[n]at mu;exact mu
 have hb:∀b,H b=none->b≠e:=fun b n z=>by
  subst z;rcases he with r|r
  ·exact hx b n r
  ·rw[n]at r;cases r
 have hm:∀b u,H b=some u->¬Mut (some u)->b≠x:=fun b u q nm z=>by subst z;rw[q]at mu;exact nm mu
 refine⟨fun b u q n _ _=>k b u (hb b n) q,fun b u q n _ _=>⟨u.slots,k b u (hb b n) q⟩,fun b u q n _=>by rw[aR (hx b n)];exact n,fun b u q _=>?_,
  fun b xs q=>by rw[aR (hm b _ q fun z=>z)];exact q,fun b u xs q=>by rw[aR (hm b _ q fun z=>z)];exact q,fun b ps q=>⟨#[],by rw[aR (hm b _ q fun z=>z),q];simp⟩⟩
 by_cases hbe:b=e
 ·subst hbe;exact heo
 ·exact⟨u,k b u hbe q⟩
end
noncomputable def trk(h:Heap)(H:Hp):List Addr:=(JT h.objs.size).filter fun a=>(H a).isSome
noncomputable def m7(h:Heap)(H:Hp):Heap:=PySem.W.hideAll h (trk h H)
theorem Ce(h:Heap)(H:Hp):(m7 h H).objs.size=h.objs.size:=PySem.W.hideAll_size _ _
theorem DQ{h:Heap}{H:Hp}{b:Addr}{o:Obj}(e:h.get? b=some o)(n:H b=none):(m7 h H).get? b=some o:=
 PySem.W.hideAll_get _ e fun hm=>by
  have q:(H b).isSome=true:=(L5.mp hm).2;rw[n]at q;simp at q
theorem F7{h:Heap}{H:Hp}{b:Addr}{o:Obj}(e:(m7 h H).get? b=some o):h.get? b=some o/\H b=none:=by
 have e':h.get? b=some o:=PySem.W.of_hideAll (trk h H) e;refine⟨e',?_⟩;cases q:H b with
 |none=>rfl
 |some x=>
  have hm:b∈trk h H:=L5.mpr ⟨K1.mpr (JL e'),by simp[q]⟩;have z:(m7 h H).get? b=none:=PySem.W.hideAll_none (trk h H) hm;rw[z]at e;cases e
noncomputable def F8(g h:Heap)(L:Addr):List (Addr×Obj):=(JT h.objs.size).filterMap fun a=>if a=L\/(g.get? a).isSome=true then none else(h.get? a).map fun o=>(a,o)
noncomputable def cP(g h:Heap)(L d:Addr):List (Addr×Obj):=(F8 g h L).filter fun p=>decide (p.1≠d)
end L2
namespace L2
open PySem PySem.Spec PyProof.Rows
structure Mod(K:Fg)(mg:Str->Option Value)(base:Heap):Prop where
 kin:K.In base
 glob:base.Ns Kb mg
 blt:∃mb,base.Ns Sd mb/\∀x:Str,x≠"__name__"->mb x=Ny x
 nolimit:base.NoLimit
set_option genInjectivity false in
structure Cx where
 prog:Program
 w:World
 K:Fg
 mg:Str->Option Value
 base:Heap
 A:Around
 N:List Str
 s₀:Shared
 H₀:Hp
 env:Env
 outer:List Env
 stack:List Env
 ex:List Addr
 fn:Str->Bool
 calm:Bool
 pn:List (Addr×Obj)
 xe:Value->Shared->Prop
noncomputable def frs(l:List Env):List Addr:=l.filterMap (·.frame)
noncomputable abbrev Cx.fs(X:Cx):List Addr:=frs X.outer
noncomputable def Vis(sc:Scope)(x:Str):Prop:=sc.names.lookup x=some .local\/sc.names.lookup x=some .cell\/sc.names.lookup x=some .free
noncomputable def Loc(sc:Scope)(x:Str):Prop:=sc.names.lookup x=some .local\/sc.names.lookup x=some .cell
noncomputable def DR(env:Env)(h:Heap)(m:Str->Option Value)(x:Str)(u:Value):Prop:=
 (env.kindOf x=some .local/\m x=some u)\/((env.kindOf x=some .cell\/env.kindOf x=some .free)/\∃c,env.cells.lookup x=some c/\h.IsCell c (some u))
structure Cx.Ok(X:Cx):Prop where
 mod:Mod X.K X.mg X.base
 kind:X.env.scope.kind=.function
 glob:X.env.globals=Kb
 blt:X.env.builtins=Sd
 above:X.s₀.heap.objs.size<=X.env.locals
 inj:∀x y c,X.env.cells.lookup x=some c->X.env.cells.lookup y=some c->x=y
 has:∀x,(X.env.kindOf x=some .cell\/X.env.kindOf x=some .free)->∃c,X.env.cells.lookup x=some c
 cab:∀x c,X.fn x=true->X.env.cells.lookup x=some c->X.s₀.heap.objs.size<=c
 hd:X.calm=true->X.A.handled=none
 frames:X.A.frames=some X.stack
 stk:X.stack=X.outer\/(X.stack=X.env::X.outer/\X.env.frame=some X.env.locals)
 exf:∀b∈X.ex,b≠X.env.locals/\∀x c,X.env.cells.lookup x=some c->c≠b
 bs:∀b o,X.base.get? b=some o->X.s₀.heap.get? b=some o/\X.H₀ b=none
 bsz:X.base.objs.size<=X.s₀.heap.objs.size
 noex:∀b o,X.base.get? b=some o->b∉X.ex
 exfs:∀b∈X.ex,b∉X.fs
 funs:X.s₀.heap.FunFrames X.base X.outer
 frf:∀b∈X.fs,X.H₀ b=none
structure Inv(X:Cx)(pins:List (Addr×Obj))(σ:List (Option V))(H:Hp)(s:Shared):Prop where
 ok:X.Ok
 os:s.os=X.s₀.os
 bare:AllBare s.gens
 base:Un X.fs X.ex X.H₀ H X.s₀.heap s.heap
 loc:∃m,s.heap.Ns X.env.locals m/\∀(i:Nat)(x:Str)(v:V),X.N[i]?=some x->σ[i]?=some (some v)->Vis X.env.scope x->∃u,aO v u/\DR X.env s.heap m x u
 cell:∀x c,X.env.cells.lookup x=some c->∃v,s.heap.IsCell c v
 free:H X.env.locals=none
 freeC:∀x c,X.env.cells.lookup x=some c->H c=none
 pin:∀p∈X.pn++pins,s.heap.get? p.1=some p.2/\H p.1=none/\p.1≠X.env.locals/\p.1∉X.fs/\∀v,p.2.data≠.cell v
 hok:HOk X.prog X.w H s.heap
 len:σ.length=X.N.length
section
variable{X:Cx}{pins:List (Addr×Obj)}{σ:List (Option V)}{H H':Hp}{s:Shared}{h':Heap}
theorem Cx.Ok.nofr(ok:X.Ok){b:Addr}{o:Obj}(e:X.base.get? b=some o):b∉X.fs:=fun hb=>by
 have:=(ok.funs.mem hb).1;rw[e]at this;cases this
theorem Inv.bs(I:Inv X pins σ H s):∀b o,X.base.get? b=some o->s.heap.get? b=some o/\H b=none:=fun b o e=>
 ⟨I.base.keep b o (I.ok.bs b o e).1 (I.ok.bs b o e).2 (I.ok.nofr e) (I.ok.noex b o e),I.base.free b o (I.ok.bs b o e).1 (I.ok.bs b o e).2 (I.ok.noex b o e)⟩
theorem Inv.bk(I:Inv X pins σ H s):∀b o,X.base.get? b=some o->s.heap.get? b=some o:=fun b o e=>(I.bs b o e).1
theorem Inv.mod(I:Inv X pins σ H s):Mod X.K X.mg X.base:=I.ok.mod
theorem Inv.kIn(I:Inv X pins σ H s):X.K.In s.heap:=I.ok.mod.kin.keeps I.bk
theorem Inv.nolimit(I:Inv X pins σ H s):s.heap.NoLimit:=I.ok.mod.nolimit.keeps I.bk
theorem Inv.lt(I:Inv X pins σ H s):X.env.locals<s.heap.objs.size:=let⟨_,hn,_⟩:=I.loc;hn.lt
theorem Inv.sz(I:Inv X pins σ H s):X.s₀.heap.objs.size<=s.heap.objs.size:=Kc I.ok.above (KJ I.lt)
theorem Inv.nofs(I:Inv X pins σ H s){a:Addr}(h:s.heap.objs.size<=a):a∉X.fs:=fun hb=>by
 obtain⟨_,o,ho,_⟩:=I.ok.funs.mem hb;exact absurd (J2 (JL ho) (Kc I.sz h)) (Lv _)
theorem Inv.cne(I:Inv X pins σ H s):∀x c,X.env.cells.lookup x=some c->c≠X.env.locals:=fun x c e z=>by
 obtain⟨v,o,ho,hd⟩:=I.cell x c e;obtain⟨m,⟨o',es,ep,ho',hd',_⟩,_⟩:=I.loc;rw[z,ho']at ho;cases ho;rw[hd']at hd;cases hd
theorem Inv.funs(I:Inv X pins σ H s):s.heap.FunFrames X.base X.outer:=by
 have all:∀(l:List Env),(∀b∈frs l,b∈X.fs)->X.s₀.heap.FunFrames X.base l->s.heap.FunFrames X.base l:=by
  intro l
  induction l with
  |nil=>intro _ _;trivial
  |cons env r ih=>
   intro hs hl;obtain⟨hk,⟨L,o,hf,hn,ho,hd⟩,hr⟩:=hl;have hL:L∈X.fs:=hs L (by unfold frs;rw[Nu,hf];exact JI);obtain⟨sl,e⟩:=I.base.slot L o ho (I.ok.frf L hL) hL fun z=>I.ok.exfs L z hL;exact⟨hk,⟨L,_,hf,hn,e,hd⟩,ih (fun b hb=>hs b (by unfold frs;rw[Nu,hf];exact JO _ hb)) hr⟩
 exact all X.outer (fun _ hb=>hb) I.ok.funs
theorem Inv.stack(I:Inv X pins σ H s):s.heap.FunFrames X.base X.stack:=by
 rcases I.ok.stk with e|⟨e,hf⟩
 ·rw[e];exact I.funs
 ·rw[e]
  obtain⟨m,hn,_⟩:=I.loc;refine .cons (by rw[I.ok.kind];decide) hf hn ?_ I.funs;exact Heap.get?_none_of_le (Kc I.ok.bsz I.ok.above)
theorem Inv.stkSub(I:Inv X pins σ H s):∀b∈frs X.stack,b∈X.env.locals::X.fs:=fun b hb=>by
 rcases I.ok.stk with e|⟨e,hf⟩
 ·rw[e]at hb;exact JO _ hb
 ·rw[e]at hb
  unfold frs at hb;rw[Nu,hf]at hb;exact hb
theorem Inv.stkFree(I:Inv X pins σ H s):∀b∈frs X.stack,H b=none:=fun b hb=>by
 rcases JH.mp (I.stkSub b hb)with e|hb
 ·rw[e];exact I.free
 ·obtain⟨_,o,ho,_⟩:=I.ok.funs.mem hb
  exact I.base.free b o ho (I.ok.frf b hb) fun z=>I.ok.exfs b z hb
theorem Inv.step{g':Array Qy}{t':Nat}{d':Drawn}{ch:List Addr}(I:Inv X pins σ H s)
  (hch:∀b∈ch,(b∈X.ex\/X.s₀.heap.objs.size<=b)/\b≠X.env.locals/\(∀x c,X.env.cells.lookup x=some c->c≠b)/\∀p∈X.pn++pins,p.1≠b)
  (keep:∀b o,b≠X.env.locals->b∉X.fs->b∉ch->s.heap.get? b=some o->H b=none->h'.get? b=some o)
  (slot:∀b o,b≠X.env.locals->b∈X.fs->b∉ch->s.heap.get? b=some o->H b=none->∃sl,h'.get? b=some { o with slots:=sl }) (free:∀b o,b∉ch->s.heap.get? b=some o->H b=none->H' b=none)
  (there:∀b o,b∉ch->s.heap.get? b=some o->∃o',h'.get? b=some o')
  (tups:∀b xs,H b=some (.tup xs)->H' b=some (.tup xs)) (frzs:∀b o u,H b=some (.frz o u)->H' b=some (.frz o u)) (tbls:∀b ps,H b=some (.tbl ps)->∃more,H' b=some (.tbl (ps++more)))
  (ns:∀m,s.heap.Ns X.env.locals m->h'.Ns X.env.locals m) (hok:HOk X.prog X.w H' h') (hg:AllBare g'):
  Inv X pins σ H' { s with heap:=h',gens:=g',drawn:=d',toks:=t' }:=by
 have neL:∀b o,X.s₀.heap.get? b=some o->b≠X.env.locals:=fun b o e=>Kg (J2 (JL e) I.ok.above);have neC:∀b o,X.s₀.heap.get? b=some o->b∉X.ex->b∉ch:=fun b o e hx hb=>by
  rcases(hch b hb).1 with z|z
  ·exact hx z
  ·exact absurd (J2 (JL e) z) (Lv _)
 have cellK:∀x c,X.env.cells.lookup x=some c->∀v,s.heap.IsCell c v->h'.IsCell c v:=fun x c e v ⟨o,ho,hd⟩=>by
  have nch:c∉ch:=fun z=>(hch c z).2.2.1 x c e rfl;by_cases hc:c∈X.fs
  ·obtain⟨sl,q⟩:=slot c o (I.cne x c e) hc nch ho (I.freeC x c e)
   exact⟨_,q,hd⟩
  ·exact⟨o,keep c o (I.cne x c e) hc nch ho (I.freeC x c e),hd⟩
 refine⟨I.ok,I.os,hg,⟨fun b o e n hb hx=>?_,fun b o e n hb hx=>?_,fun b o e n hx=>?_,fun b o e hx=>?_,fun b xs e=>tups b xs (I.base.tups b xs e),fun b o xs e=>frzs b o xs (I.base.frzs b o xs e),fun b ps e=>?_⟩,?_,fun x c e=>?_,?_,fun x c e=>?_,fun p hp=>?_,hok,I.len⟩
 ·exact keep b o (neL b o e) hb (neC b o e hx) (I.base.keep b o e n hb hx) (I.base.free b o e n hx)
 ·obtain⟨sl,e1⟩:=I.base.slot b o e n hb hx
  obtain⟨sl',e2⟩:=slot b _ (neL b o e) hb (neC b o e hx) e1 (I.base.free b o e n hx);exact⟨sl',e2⟩
 ·obtain⟨o',e1⟩:=I.base.there b o e hx
  exact free b o' (neC b o e hx) e1 (I.base.free b o e n hx)
 ·obtain⟨o',e1⟩:=I.base.there b o e hx
  exact there b o' (neC b o e hx) e1
 ·obtain⟨m1,e1⟩:=I.base.tbls b ps e
  obtain⟨m2,e2⟩:=tbls b _ e1;exact⟨m1++m2,by rw[e2,Q3]⟩
 ·obtain⟨m,hn,hl⟩:=I.loc
  refine⟨m,ns m hn,fun i x v e1 e2 e3=>?_⟩;obtain⟨u,r,l⟩:=hl i x v e1 e2 e3;refine⟨u,r,?_⟩;rcases l with l|⟨k,c,e,z⟩
  ·exact .inl l
  ·exact .inr ⟨k,c,e,cellK x c e _ z⟩
 ·obtain⟨v,z⟩:=I.cell x c e
  exact⟨v,cellK x c e v z⟩
 ·obtain⟨m,⟨o,_,_,ho,_⟩,_⟩:=I.loc
  exact free _ o (fun z=>(hch _ z).2.1 rfl) ho I.free
 ·obtain⟨v,o,ho,hd⟩:=I.cell x c e
  exact free c o (fun z=>(hch c z).2.2.1 x c e rfl) ho (I.freeC x c e)
 ·obtain⟨e,n,ne,nf,d⟩:=I.pin p hp
  have nch:p.1∉ch:=fun z=>(hch p.1 z).2.2.2 p hp rfl;exact⟨keep p.1 p.2 ne nf nch e n,free p.1 p.2 nch e n,ne,nf,d⟩
theorem Inv.un{t':Nat}(I:Inv X pins σ H s)(u:Un X.fs [] H H' s.heap h')(hok:HOk X.prog X.w H' h'):Inv X pins σ H' { s with heap:=h',toks:=t' }:=by
 obtain⟨m,⟨o,es,ep,ho,r⟩,_⟩:=id I.loc;obtain⟨sl,hL⟩:=u.any ho I.free (by simp);exact I.step (g':=s.gens) (d':=s.drawn) (ch:=[]) (fun _ z=>nomatch z) (fun b o _ hb _ e n=>u.keep b o e n hb (by simp)) (fun b o _ hb _ e n=>u.slot b o e n hb (by simp)) (fun b o _ e n=>u.free b o e n (by simp)) (fun b o _ e=>u.there b o e (by simp)) u.tups u.frzs u.tbls (fun m' hm=>by
  obtain⟨o',es',ep',ho',r'⟩:=hm;rw[ho]at ho';cases ho';exact⟨_,es',ep',hL,r'⟩) hok I.bare
theorem Inv.call{g':Array Qy}{t':Nat}{d':Drawn}{ch:List Addr}(I:Inv X pins σ H s)(u:Un (frs X.stack) ch H H' s.heap h')(hok:HOk X.prog X.w H' h')(hg:AllBare g')
  (hch:∀b∈ch,(b∈X.ex\/X.s₀.heap.objs.size<=b)/\b≠X.env.locals/\(∀x c,X.env.cells.lookup x=some c->c≠b)/\∀p∈X.pn++pins,p.1≠b):
  Inv X pins σ H' { s with heap:=h',gens:=g',drawn:=d',toks:=t' }:=by
 obtain⟨m,⟨o,es,ep,ho,r⟩,_⟩:=id I.loc;obtain⟨sl,hL⟩:=u.any ho I.free fun z=>(hch _ z).2.1 rfl;exact I.step (ch:=ch) hch (fun b o hL hb hc e n=>u.keep b o e n (fun z=>(JH.mp (I.stkSub b z)).elim hL hb) hc) (fun b o _ _ hc e n=>u.any e n hc) (fun b o hc e n=>u.free b o e n hc) (fun b o hc e=>u.there b o e hc) u.tups u.frzs u.tbls (fun m' hm=>by
  obtain⟨o',es',ep',ho',r'⟩:=hm;rw[ho]at ho';cases ho';exact⟨_,es',ep',hL,r'⟩) hok hg
theorem Inv.turned{t':Nat}{it:Addr}(I:Inv X pins σ H s)(k:∀b o,b≠it->s.heap.get? b=some o->h'.get? b=some o)(hn:H it=none)(hL:it≠X.env.locals)
  (h1:it∈X.ex\/X.s₀.heap.objs.size<=it) (h2:∀x c,X.env.cells.lookup x=some c->c≠it) (h3:∀p∈X.pn++pins,p.1≠it):Inv X pins σ H { s with heap:=h',toks:=t' }:=by
 have nit:∀b u,H b=some u->b≠it:=fun b u e z=>by rw[z,hn]at e;cases e
 refine I.step (g':=s.gens) (d':=s.drawn) (ch:=[it]) (fun b hb=>?_) (fun b o _ _ hc e _=>k b o (fun z=>hc (by simp[z])) e) (fun b o _ _ hc e _=>⟨o.slots,k b o (fun z=>hc (by simp[z])) e⟩) (fun _ _ _ _ n=>n)
  (fun b o hc e=>⟨o,k b o (fun z=>hc (by simp[z])) e⟩) (fun _ _ e=>e) (fun _ _ _ e=>e) (fun b ps e=>⟨#[],by rw[e];simp⟩) (fun m hm=>?_) (fun b u e=>?_) I.bare
 ·have e:b=it:=by simpa using hb
  subst e;exact⟨h1,hL,h2,h3⟩
 ·obtain⟨o,es,ep,ho,r⟩:=hm
  exact⟨o,es,ep,k _ o (Lg hL) ho,r⟩
 ·refine(I.hok b u e).stay (fun c v hc q=>k c v ?_ q) (fun _ q=>q) fun _ _ q=>q
  rcases hc with z|z
  ·rw[z];exact nit b u e
  ·exact nit c _ z
theorem Inv.tok(I:Inv X pins σ H s)(t:Nat):Inv X pins σ H { s with toks:=t }:=I.un (h':=s.heap) (t':=t) Un.refl I.hok
theorem Inv.kept{t':Nat}(I:Inv X pins σ H s)(k:∀b u,s.heap.get? b=some u->h'.get? b=some u):Inv X pins σ H { s with heap:=h',toks:=t' }:=I.un (Un.kept k) (I.hok.kept k)
theorem Inv.laid{a:Addr}{o:HO}{t':Nat}(I:Inv X pins σ H s)(k:∀b u,s.heap.get? b=some u->h'.get? b=some u)(hp:s.heap.objs.size<=a)(new:bI X.prog X.w (upd H a o) h' a o):
  Inv X pins σ (upd H a o) { s with heap:=h',toks:=t' }:=I.un (Un.laid k hp (I.hok.fresh hp)) (I.hok.laid k hp new)
theorem Inv.write{x e:Addr}{o:HO}{t':Nat}(I:Inv X pins σ H s)(mu:Mut (H x))(he:e=x\/H e=some (.own x))(k:∀b u,b≠e->s.heap.get? b=some u->h'.get? b=some u)(heo:∃u,h'.get? e=some u)
  (new:bI X.prog X.w (upd H x o) h' x o):Inv X pins σ (upd H x o) { s with heap:=h',toks:=t' }:=I.un (Un.write mu he k heo) (I.hok.write mu he k heo new)
theorem Inv.pins_of{pins':List (Addr×Obj)}(I:Inv X pins σ H s)(h:∀p∈pins',s.heap.get? p.1=some p.2/\H p.1=none/\p.1≠X.env.locals/\p.1∉X.fs/\∀v,p.2.data≠.cell v):Inv X pins' σ H s:=
 ⟨I.ok,I.os,I.bare,I.base,I.loc,I.cell,I.free,I.freeC,fun p hp=>(Ka.mp hp).elim (fun z=>I.pin p (Li _ z)) (h p),I.hok,I.len⟩
theorem xo{N:List Str}(hN:N.Nodup){i j:Nat}{x:Str}(a:N[i]?=some x)(b:N[j]?=some x):i=j:=by
 obtain⟨h1,e1⟩:=JG.mp a;obtain⟨h2,e2⟩:=JG.mp b;exact(List.getElem_inj hN).mp (e1.trans e2.symm)
theorem oE{M:Model}{A:Around}{E:Value->Shared->Prop}{i:Nat}{x:Str}{v:V}{u:Value}{Q:Unit->Shared->Prop}(I:Inv X pins σ H s)(hN:X.N.Nodup)(hi:X.N[i]?=some x)(hx:Loc X.env.scope x)(r:aO v u)
  (h:∀s',Inv X pins (σ.set i (some v)) H s'->(∃a,J0 a s.heap s'.heap/\(a=X.env.locals\/X.env.cells.lookup x=some a))->Q () s') (hf:X.fn x=true\/X.env.scope.names.lookup x=some .local:=by first|exact .inl rfl|exact .inr rfl|assumption):wpAny M A (storeName X.env x u) Q E s:=by
 obtain⟨m,hn,hl⟩:=id I.loc;have hcls:(X.env.scope.kind== .class||(X.env.scope.kind== .module&&X.env.locals != X.env.globals))=false:=by rw[I.ok.kind];rfl
 have hiσ:i<σ.length:=by rw[I.len];exact(JG.mp hi).1
 have cne:=I.cne;have tracked:∀{a:Addr} {h':Heap},(∃o,s.heap.get? a=some o/\H a=none)->J0 a s.heap h'->HOk X.prog X.w H h':=fun{a h'} ha hs b ob e=>by
  obtain⟨_,_,hfree⟩:=ha;refine(I.hok b ob e).stay (fun c w' hc q=>(hs.2 c ?_).trans q) (fun _ q=>q) fun _ _ q=>q;rintro rfl;rcases hc with rfl|hc
  ·rw[hfree]at e;cases e
  ·rw[hfree]at hc;cases hc
 rcases hx with hk|hk
 ·refine wpAny_storeName_local hk hn (fun h' hn' hs=>?_) hcls
  obtain⟨oL,_,_,hoL,_⟩:=id hn;refine h _ ⟨I.ok,I.os,I.bare,⟨fun b o e n hb hx=>?_,fun b o e n hb hx=>?_,I.base.free,fun b o e hx=>?_,I.base.tups,I.base.frzs,I.base.tbls⟩,⟨_,hn',fun j y v' e1 e2 e3=>?_⟩,fun y c e=>?_,I.free,I.freeC,fun p hp=>?_,tracked ⟨oL,hoL,I.free⟩ hs,by simpa using I.len⟩ ⟨_,hs,.inl rfl⟩
  ·exact(hs.2 b (Kg (J2 (JL e) I.ok.above))).trans (I.base.keep b o e n hb hx)
  ·obtain⟨sl,e1⟩:=I.base.slot b o e n hb hx
   exact⟨sl,(hs.2 b (Kg (J2 (JL e) I.ok.above))).trans e1⟩
  ·obtain⟨o',e1⟩:=I.base.there b o e hx
   exact⟨o',(hs.2 b (Kg (J2 (JL e) I.ok.above))).trans e1⟩
  ·by_cases hj:j=i
   ·subst hj
    rw[hi]at e1;cases e1;rw[P9 hiσ]at e2;cases e2;exact⟨u,r,.inl ⟨hk,by simp⟩⟩
   ·rw[Qz (Lg hj)]at e2
    obtain⟨u',r',q⟩:=hl j y v' e1 e2 e3;refine⟨u',r',?_⟩;rcases q with⟨k,e⟩|⟨k,c,e,z⟩
    ·refine .inl ⟨k,?_⟩
     have:y≠x:=fun e=>hj (xo hN e1 (e▸hi));simp[this,e]
    ·exact .inr ⟨k,c,e,z.sameBut hs (cne y c e)⟩
  ·obtain⟨w',z⟩:=I.cell y c e
   exact⟨w',z.sameBut hs (cne y c e)⟩
  ·obtain⟨e,n,ne,nf,d⟩:=I.pin p hp
   exact⟨(hs.2 p.1 ne).trans e,n,ne,nf,d⟩
 ·have hfn:X.fn x=true:=by
   rcases hf with z|z
   ·exact z
   ·rw[z]at hk;cases hk
  obtain⟨c,hc⟩:=I.ok.has x (.inl hk);obtain⟨w',z⟩:=I.cell x c hc;refine wpAny_storeName_cell I.ok.kind hk hc z (fun h' hc' hs=>?_);obtain⟨oc,hoc,hocd⟩:=id z;refine h { s with heap:=h' } ⟨I.ok,I.os,I.bare,⟨fun b o e n hb hx=>?_,fun b o e n hb hx=>?_,I.base.free,fun b o e hx=>?_,I.base.tups,I.base.frzs,I.base.tbls⟩,⟨m,hn.sameBut hs (Lg (cne x c hc)),fun j y v' e1 e2 e3=>?_⟩,fun y c' e=>?_,I.free,I.freeC,fun p hp=>?_,tracked ⟨oc,hoc,I.freeC x c hc⟩ hs,by simpa using I.len⟩ ⟨c,hs,.inr hc⟩
  ·exact(hs.2 b (Kg (J2 (JL e) (I.ok.cab x c hfn hc)))).trans (I.base.keep b o e n hb hx)
  ·obtain⟨sl,e1⟩:=I.base.slot b o e n hb hx
   exact⟨sl,(hs.2 b (Kg (J2 (JL e) (I.ok.cab x c hfn hc)))).trans e1⟩
  ·obtain⟨o',e1⟩:=I.base.there b o e hx
   exact⟨o',(hs.2 b (Kg (J2 (JL e) (I.ok.cab x c hfn hc)))).trans e1⟩
  ·by_cases hj:j=i
   ·subst hj
    rw[hi]at e1;cases e1;rw[P9 hiσ]at e2;cases e2;exact⟨u,r,.inr ⟨.inl hk,c,hc,hc'⟩⟩
   ·rw[Qz (Lg hj)]at e2
    obtain⟨u',r',q⟩:=hl j y v' e1 e2 e3;refine⟨u',r',?_⟩;rcases q with q|⟨k,c',e,z'⟩
    ·exact .inl q
    ·refine .inr ⟨k,c',e,z'.sameBut hs ?_⟩
     rintro rfl;exact hj (xo hN e1 (I.ok.inj _ _ _ e hc▸hi))
  ·by_cases hcc:c'=c
   ·subst hcc;exact⟨_,hc'⟩
   ·obtain⟨w2,z2⟩:=I.cell y c' e
    exact⟨w2,z2.sameBut hs hcc⟩
  ·obtain⟨e,n,ne,nf,d⟩:=I.pin p hp
   refine⟨(hs.2 p.1 ?_).trans e,n,ne,nf,d⟩;intro q;rw[q,hoc]at e;have q':oc=p.2:=JR e;exact d w' (by rw[<-q'];exact hocd)
theorem xp{M:Model}{A:Around}{E:Value->Shared->Prop}{i:Nat}{x:Str}{v:V}{u:Value}{Q:Unit->Shared->Prop}(I:Inv X pins σ H s)(hN:X.N.Nodup)(hi:X.N[i]?=some x)(hx:Loc X.env.scope x)(r:aO v u)
  (h:∀s',Inv X pins (σ.set i (some v)) H s'->Q () s') (hf:X.fn x=true\/X.env.scope.names.lookup x=some .local:=by first|exact .inl rfl|exact .inr rfl|assumption):wpAny M A (storeName X.env x u) Q E s:=
 oE I hN hi hx r (fun s' I' _=>h s' I') hf
theorem Inv.call'{s':Shared}{ch:List Addr}(I:Inv X pins σ H s)(ho:s'.os=s.os)(u:Un (frs X.stack) ch H H' s.heap s'.heap)(hok:HOk X.prog X.w H' s'.heap)(hg:AllBare s'.gens)
  (hch:∀b∈ch,(b∈X.ex\/X.s₀.heap.objs.size<=b)/\b≠X.env.locals/\(∀x c,X.env.cells.lookup x=some c->c≠b)/\∀p∈X.pn++pins,p.1≠b):Inv X pins σ H' s':=by
 obtain⟨h',g',d',t',o'⟩:=s';have e:o'=s.os:=ho;subst e;exact I.call (g':=g') (t':=t') (d':=d') u hok hg hch
end
noncomputable abbrev XK:=Value->Option Addr->Hp->Prop
noncomputable abbrev St:=List (Option V)
noncomputable abbrev VK:=V->Hp->Prop
noncomputable abbrev TE:=St->Hp->VK->Prop
noncomputable abbrev TT:=St->Hp->(Bool->Hp->Prop)->Prop
noncomputable abbrev TA:=St->Hp->(List V->Hp->Prop)->Prop
set_option genInjectivity false in
structure jk where
 nx:St->Hp->Prop
 rt:VK
 bk:St->Hp->Prop:=fun _ _=>False
 ct:St->Hp->Prop:=fun _ _=>False
noncomputable abbrev TS:=jk->St->Hp->Prop
noncomputable def EP(X:Cx)(pins:List (Addr×Obj))(σ:St)(Q:VK)(u:Value)(s':Shared):Prop:=∃v H',Inv X pins σ H' s'/\aO v u/\Q v H'
noncomputable def TP(X:Cx)(pins:List (Addr×Obj))(σ:St)(Q:Bool->Hp->Prop)(b:Bool)(s':Shared):Prop:=∃H',Inv X pins σ H' s'/\Q b H'
noncomputable def AP(X:Cx)(pins:List (Addr×Obj))(σ:St)(Q:List V->Hp->Prop)(us:List Value)(s':Shared):Prop:=∃vs H',Inv X pins σ H' s'/\aL vs us/\Q vs H'
noncomputable def SP(X:Cx)(pins:List (Addr×Obj))(D:jk)(f:Flow)(s':Shared):Prop:=
 match f with
 | .next=>∃σ' H',Inv X pins σ' H' s'/\D.nx σ' H'
 | .brk=>∃σ' H',Inv X pins σ' H' s'/\D.bk σ' H'
 | .cont=>∃σ' H',Inv X pins σ' H' s'/\D.ct σ' H'
 | .ret u=>∃v σ' H',Inv X pins σ' H' s'/\aO v u/\D.rt v H'
noncomputable def PE(X:Cx)(e:Expr)(t:TE):Prop:=
 ∀(pins:List (Addr×Obj))(s:Shared)(σ:St)(H:Hp)(Q:VK),Inv X pins σ H s->t σ H Q->wpAny (model X.prog X.w) X.A (eval e X.env) (EP X pins σ Q) X.xe s
noncomputable def PT(X:Cx)(e:Expr)(t:TT):Prop:=
 ∀(pins:List (Addr×Obj))(s:Shared)(σ:St)(H:Hp)(Q:Bool->Hp->Prop),Inv X pins σ H s->t σ H Q->wpAny (model X.prog X.w) X.A (isTrue e X.env (eval e X.env)) (TP X pins σ Q) X.xe s
noncomputable def PW(X:Cx)(e:Expr)(t:TT):Prop:=
 ∀(whole:Sem Value)(pins:List (Addr×Obj))(s:Shared)(σ:St)(H:Hp)(Q:Bool->Hp->Prop),Inv X pins σ H s->t σ H Q->wpAny (model X.prog X.w) X.A (isTrue e X.env whole) (TP X pins σ Q) X.xe s
theorem PW.pt{X:Cx}{e:Expr}{t:TT}(h:PW X e t):PT X e t:=h _
noncomputable def PA(X:Cx)(es:List Expr)(t:TA):Prop:=
 ∀(pos:Pos)(pins:List (Addr×Obj))(s:Shared)(σ:St)(H:Hp)(Q:List V->Hp->Prop),Inv X pins σ H s->t σ H Q->wpAny (model X.prog X.w) X.A (spliced (backTo pos (J4 es X.env))) (AP X pins σ Q) X.xe s
noncomputable def PS(X:Cx)(st:Stmt)(t:TS):Prop:=
 ∀(pins:List (Addr×Obj))(s:Shared)(σ:St)(H:Hp)(D:jk),Inv X pins σ H s->t D σ H->wpAny (model X.prog X.w) X.A (exec st X.env) (SP X pins D) X.xe s
noncomputable def PSs(X:Cx)(st:List Stmt)(t:TS):Prop:=
 ∀(pins:List (Addr×Obj))(s:Shared)(σ:St)(H:Hp)(D:jk),Inv X pins σ H s->t D σ H->wpAny (model X.prog X.w) X.A (execs st X.env) (SP X pins D) X.xe s
theorem thn{α:Type}{t:Sem α}{Q Q':α->Shared->Prop}{M:Model}{A:Around}{E:Value->Shared->Prop}{s:Shared}(h:wpAny M A t Q E s)(hQ:∀a s,Q a s->Q' a s):wpAny M A t Q' E s:=Lj h hQ fun _ _ x=>x
end L2
namespace L2
open PySem PySem.Spec PyProof.Rows
section
variable{X:Cx}
noncomputable def aa(i:Nat):TE:=fun σ H Q=>∃v,σ[i]?=some (some v)/\Q v H
noncomputable def tC(v:V):TE:=fun _ H Q=>Q v H
theorem Hq{i:Nat}{x:Str}{pos:Pos}(hN:X.N[i]?=some x)(hv:Vis X.env.scope x)(hd:(x==("__debug__":Str))=false:=by decide)(hcd:(x==("__classdict__":Str))=false:=by decide):PE X (.Name x pos) (aa i):=by
 intro pins s σ H Q I h;obtain⟨v,e,h⟩:=h;obtain⟨m,hn,hl⟩:=I.loc;obtain⟨u,r,l⟩:=hl i x v hN e hv;have fin:EP X pins σ Q u s:=⟨v,H,I,r,h⟩;rcases l with⟨hk,hm⟩|⟨hk,c,hc,hcell⟩
 ·exact Se (wpAny_loadName_local I.ok.kind hk hn hm fin) hd
 ·rcases hk with hk|hk
  ·exact Se (wpAny_loadName_cell I.ok.kind hk hc hcell fin) hd
  ·exact Se (wpAny_loadName_free I.ok.kind hk hc hcell fin hcd) hd
theorem ak{i j pos}:PE X (.Constant (.int i) j pos) (tC (.int i)):=fun _ _ _ H _ I h=>wpAny_Constant_int ⟨.int i,H,I.tok _,⟨_,rfl⟩,h⟩
theorem cN{b j pos}:PE X (.Constant (.bool b) j pos) (tC (.bl b)):=fun _ _ _ H _ I h=>Constant_bool ⟨.bl b,H,I,rfl,h⟩
theorem Hr{j pos}:PE X (.Constant .none j pos) (tC .non):=fun _ _ _ H _ I h=>Constant_none ⟨.non,H,I,rfl,h⟩
theorem aX{x j pos}:PE X (.Constant (.str x) j pos) (tC (.str x)):=fun _ _ _ H _ I h=>Calls.Constant_str ⟨.str x,H,I.tok _,⟨_,rfl⟩,h⟩
noncomputable def Gl(X:Cx)(x:Str):Prop:=X.env.kindOf x=some .globalImplicit
theorem uM{E:Value->Shared->Prop}{pins:List (Addr×Obj)}{s:Shared}{σ:St}{H:Hp}{x:Str}{u:Value}{pos:Pos}{Q:Value->Shared->Prop}(I:Inv X pins σ H s)(hg:Gl X x)(hm:X.mg x=some u)(h:Q u s)
  (hd:(x==("__debug__":Str))=false:=by decide):wpAny (model X.prog X.w) X.A (eval (.Name x pos) X.env) Q E s:=
 OY I.ok.kind hg (Calls.loadGlobal_global (by rw[I.ok.glob];exact I.mod.glob.keeps I.bk) hm h) hd
theorem gk{E:Value->Shared->Prop}{pins:List (Addr×Obj)}{s:Shared}{σ:St}{H:Hp}{x:Str}{u:Value}{pos:Pos}{Q:Value->Shared->Prop}(I:Inv X pins σ H s)(hg:Gl X x)(hm:X.mg x=none)(hv:Ny x=some u)(h:Q u s)
  (hn:x≠"__name__":=by decide) (hd:(x==("__debug__":Str))=false:=by decide):wpAny (model X.prog X.w) X.A (eval (.Name x pos) X.env) Q E s:=by
 obtain⟨mb,h1,h2⟩:=I.mod.blt;exact OY I.ok.kind hg (Calls.loadGlobal_builtin (by rw[I.ok.glob];exact I.mod.glob.keeps I.bk) hm (by rw[I.ok.blt];exact h1.keeps I.bk) ((h2 x hn).trans hv) h) hd
theorem jl{x:Str}{v:V}{u:Value}{pos:Pos}(hg:Gl X x)(hm:X.mg x=some u)(r:aO v u)(hd:(x==("__debug__":Str))=false:=by decide):PE X (.Name x pos) (tC v):=
 fun _ _ _ H _ I h=>uM I hg hm ⟨v,H,I,r,h⟩ hd
theorem dJ{x:Str}{v:V}{u:Value}{pos:Pos}(hg:Gl X x)(hm:X.mg x=none)(hv:Ny x=some u)(r:aO v u)(hn:x≠"__name__":=by decide)(hd:(x==("__debug__":Str))=false:=by decide):PE X (.Name x pos) (tC v):=
 fun _ _ _ H _ I h=>gk I hg hm hv ⟨v,H,I,r,h⟩ hn hd
variable{a b:Expr}{ta tb:TE}{pos:Pos}
noncomputable def tB(t:TE):TT:=fun σ H Q=>t σ H fun x H1=>∃c,x=.bl c/\Q c H1
theorem cb{e:Expr}{t:TE}(h:PE X e t)(he:∀whole,isTrue e X.env whole=(do let v <-whole;standAt e.pos;holding [v] (truthy v)):=by intro _;rfl):PT X e (tB t):=by
 intro pins s σ H Q I hw;refine isTrue_plain (thn (h pins s σ H _ I hw) fun v s1 ⟨x,H1,I1,r1,q1⟩=>?_) (he _);obtain⟨d,rfl,q⟩:=q1;cases r1;exact LX ⟨H1,I1,q⟩
variable{tA tB':TT}{cP:List Expr}
noncomputable def uN(t u:TT):TT:=fun σ H Q=>t σ H fun c H1=>if c=true then u σ H1 Q else Q false H1
noncomputable def tOr(t u:TT):TT:=fun σ H Q=>t σ H fun c H1=>if c=true then Q true H1 else u σ H1 Q
noncomputable def dH(t:TT):TT:=fun σ H Q=>t σ H fun c H1=>Q (!c) H1
theorem uO(ha:PT X a tA):PW X (.BoolOp .And [a] pos) tA:=by
 intro wh pins s σ H Q I h;refine isTrue_and (thn (ha pins s σ H Q I h) fun c s1 e=>?_);cases c with
 |true=>exact isTrue_and_nil e
 |false=>exact e
theorem ii(ha:PT X a tA):PW X (.BoolOp .Or [a] pos) tA:=by
 intro wh pins s σ H Q I h;refine isTrue_or (thn (ha pins s σ H Q I h) fun c s1 e=>?_);cases c with
 |false=>exact isTrue_or_nil e
 |true=>exact e
theorem rQ(ha:PT X a tA)(hb:PW X (.BoolOp .And (b::cP) pos) tB'):PW X (.BoolOp .And (a::b::cP) pos) (uN tA tB'):=by
 intro wh pins s σ H Q I h;refine isTrue_and (thn (ha pins s σ H _ I h) fun c s1 ⟨H1,I1,q1⟩=>?_);cases c with
 |true=>exact hb wh pins s1 σ H1 Q I1 q1
 |false=>exact⟨H1,I1,q1⟩
theorem jx(ha:PT X a tA)(hb:PW X (.BoolOp .Or (b::cP) pos) tB'):PW X (.BoolOp .Or (a::b::cP) pos) (tOr tA tB'):=by
 intro wh pins s σ H Q I h;refine isTrue_or (thn (ha pins s σ H _ I h) fun c s1 ⟨H1,I1,q1⟩=>?_);cases c with
 |true=>exact⟨H1,I1,q1⟩
 |false=>exact hb wh pins s1 σ H1 Q I1 q1
theorem cv(ha:PT X a tA):PT X (.UnaryOp .Not a pos) (dH tA):=by
 intro pins s σ H Q I h;exact isTrue_not (ha pins s σ H (fun c H1=>Q (!c) H1) I h)
noncomputable def fM(ta tb:TE):TE:=fun σ H Q=>ta σ H fun x H1=>∃c,x=.bl c/\if c=true then tb σ H1 Q else Q (.bl false) H1
noncomputable def uP(ta tb:TE):TE:=fun σ H Q=>ta σ H fun x H1=>∃c,x=.bl c/\if c=true then Q (.bl true) H1 else tb σ H1 Q
noncomputable def rR(ta:TE):TE:=fun σ H Q=>ta σ H fun x H1=>∃c,x=.bl c/\Q (.bl (!c)) H1
theorem fm{op}{t:TE}(h:PE X a t):PE X (.BoolOp op [a] pos) t:=fun pins s σ H Q I hw=>BoolOp_one (h pins s σ H Q I hw)
theorem ij(ha:PE X a ta)(hb:PE X (.BoolOp .And (b::cP) pos) tb):PE X (.BoolOp .And (a::b::cP) pos) (fM ta tb):=by
 intro pins s σ H Q I h;refine BoolOp_and (thn (ha pins s σ H _ I h) fun v s1 ⟨x,H1,I1,r1,q1⟩=>?_);obtain⟨c,rfl,q1⟩:=q1;cases r1;refine LX ?_;cases c with
 |true=>exact hb pins s1 σ H1 Q I1 q1
 |false=>exact⟨.bl false,H1,I1,rfl,q1⟩
theorem FC(ha:PE X a ta)(hb:PE X (.BoolOp .Or (b::cP) pos) tb):PE X (.BoolOp .Or (a::b::cP) pos) (uP ta tb):=by
 intro pins s σ H Q I h;refine BoolOp_or (thn (ha pins s σ H _ I h) fun v s1 ⟨x,H1,I1,r1,q1⟩=>?_);obtain⟨c,rfl,q1⟩:=q1;cases r1;refine LX ?_;cases c with
 |false=>exact hb pins s1 σ H1 Q I1 q1
 |true=>exact⟨.bl true,H1,I1,rfl,q1⟩
theorem xq(ha:PE X a ta):PE X (.UnaryOp .Not a pos) (rR ta):=by
 intro pins s σ H Q I h;refine UnaryOp_ (thn (ha pins s σ H _ I h) fun v s1 ⟨x,H1,I1,r1,q1⟩=>?_);obtain⟨c,rfl,q1⟩:=q1;cases r1;exact not_of (LX ⟨.bl (!c),H1,I1,rfl,q1⟩)
noncomputable def tIf(t:TT)(ta tb:TE):TE:=fun σ H Q=>t σ H fun c H1=>if c=true then ta σ H1 Q else tb σ H1 Q
theorem DS{c:Expr}(hc:PT X c tA)(ha:PE X a ta)(hb:PE X b tb):PE X (.IfExp c a b pos) (tIf tA ta tb):=by
 intro pins s σ H Q I h;refine wpAny_IfExp (thn (hc pins s σ H _ I h) fun d s1 ⟨H1,I1,q1⟩=>?_);cases d with
 |true=>exact ha pins s1 σ H1 Q I1 q1
 |false=>exact hb pins s1 σ H1 Q I1 q1
end
end L2
namespace L2
open PySem PySem.Spec PyProof.Rows
noncomputable def SqL(K:Fg)(H:Hp)(a:Addr)(xs:List V):Prop:=
 Rd H a (.lst xs)\/
  ∃(o:Obj)(its:Array Value)(n:Nat),K.lookup a=some o/\o.cls=.type "list"/\o.dict=none/\o.data=.seq its n/\its.size<=JP/\aL xs its.toList
noncomputable def SqT(K:Fg)(H:Hp)(a:Addr)(xs:List V):Prop:=
 Rd H a (.tup xs)\/
  ∃(o:Obj)(its:Array Value)(n:Nat),K.lookup a=some o/\o.cls=.type "tuple"/\o.data=.seq its n/\its.size<=JP/\aL xs its.toList
noncomputable def Jk:Value->Option V
 | .none=>some .non
 | .bool b=>some (.bl b)
 | .int i _=>some (.int i)
 | .str x _=>some (.str x)
 | .bytes b _=>some (.byt b)
 | .float b _=>some (.flt b)
 | .ref a=>some (.ref a)
 | .type n=>some (.ty n)
 |_=>none
theorem aO.abs{x:V}{u:Value}(r:aO x u):Jk u=some x:=by
 cases x with
 |non=>cases r;rfl
 |bl _=>cases r;rfl
 |int _=>obtain⟨t,rfl⟩:=r;rfl
 |str _=>obtain⟨t,rfl⟩:=r;rfl
 |byt _=>obtain⟨t,rfl⟩:=r;rfl
 |flt _=>obtain⟨t,rfl⟩:=r;rfl
 |ref _=>cases r;rfl
 |ty _=>cases r;rfl
theorem aO.inj{x y:V}{u:Value}(r:aO x u)(q:aO y u):x=y:=JR (r.abs.symm.trans q.abs)
theorem aL.inj{xs ys:List V}{us:List Value}(h:aL xs us):aL ys us->xs=ys:=by
 induction h generalizing ys with
 |nil=>intro h;cases h;rfl
 |cons r t ih=>intro h;cases h with
  |cons r' t'=>rw[r.inj r',ih t']
section
variable{X:Cx}{pins:List (Addr×Obj)}{σ:St}{H:Hp}{s:Shared}{a:Addr}{xs ys:List V}
theorem SqL.of{K:Fg}(h:H a=some (.lst xs)):SqL K H a xs:=.inl (.inl h)
theorem SqT.of{K:Fg}(h:H a=some (.tup xs)):SqT K H a xs:=.inl (.inl h)
theorem Inv.list(I:Inv X pins σ H s)(h:SqL X.K H a xs):∃its:List Value,aL xs its/\PlainL s.heap a its.toArray/\xs.length<=JP:=by
 rcases h with h|⟨o,its,n,hk,hc,hd,hs,hz,r⟩
 ·obtain⟨z,its,n,r,e⟩:=h.ok I.hok
  exact⟨its,r,⟨_,n,e,rfl,rfl,rfl⟩,z⟩
 ·refine⟨its.toList,r,⟨o,n,I.kIn a o hk,hc,hd,by simpa using hs⟩,?_⟩
  have e:=r.length;simp only[Kj]at e;omega
theorem Inv.tuple(I:Inv X pins σ H s)(h:SqT X.K H a xs):∃its:List Value,aL xs its/\IsTup s.heap a its.toArray/\xs.length<=JP:=by
 rcases h with h|⟨o,its,n,hk,hc,hs,hz,r⟩
 ·obtain⟨z,its,r,p⟩:=h.ok I.hok
  exact⟨its,r,p.tup,z⟩
 ·refine⟨its.toList,r,⟨o,I.kIn a o hk,hc,n,by simpa using hs⟩,?_⟩
  have e:=r.length;simp only[Kj]at e;omega
theorem Inv.list_inj(I:Inv X pins σ H s)(h:SqL X.K H a xs)(h':SqL X.K H a ys):xs=ys:=by
 obtain⟨its,r,⟨o,n,e,_,_,d⟩,_⟩:=I.list h;obtain⟨its',r',⟨o',n',e',_,_,d'⟩,_⟩:=I.list h';rw[e]at e';cases e';rw[d]at d';injection d' with d1 _
 have:its=its':=by simpa using congrArg Array.toList d1
 subst this;exact r.inj r'
theorem Inv.tuple_inj(I:Inv X pins σ H s)(h:SqT X.K H a xs)(h':SqT X.K H a ys):xs=ys:=by
 obtain⟨its,r,⟨o,e,_,n,d⟩,_⟩:=I.tuple h;obtain⟨its',r',⟨o',e',_,n',d'⟩,_⟩:=I.tuple h';rw[e]at e';cases e';rw[d]at d';injection d' with d1 _
 have:its=its':=by simpa using congrArg Array.toList d1
 subst this;exact r.inj r'
end
noncomputable abbrev Cx.wish(X:Cx)(E:Value->Shared->Prop):Cx:={ X with xe:=E }
noncomputable abbrev Cx.nox(X:Cx):Cx:=X.wish fun _ _=>False
theorem Cx.Ok.wish{X:Cx}(ok:X.Ok)(E:Value->Shared->Prop):(X.wish E).Ok:=
 ⟨ok.mod,ok.kind,ok.glob,ok.blt,ok.above,ok.inj,ok.has,ok.cab,ok.hd,ok.frames,ok.stk,ok.exf,ok.bs,ok.bsz,ok.noex,ok.exfs,ok.funs,ok.frf⟩
theorem Cx.Ok.unwish{X:Cx}{E:Value->Shared->Prop}(ok:(X.wish E).Ok):X.Ok:=
 ⟨ok.mod,ok.kind,ok.glob,ok.blt,ok.above,ok.inj,ok.has,ok.cab,ok.hd,ok.frames,ok.stk,ok.exf,ok.bs,ok.bsz,ok.noex,ok.exfs,ok.funs,ok.frf⟩
section
variable{X:Cx}{pins:List (Addr×Obj)}{σ:St}{H:Hp}{s:Shared}{E:Value->Shared->Prop}
theorem Inv.wish(I:Inv X pins σ H s)(E:Value->Shared->Prop):Inv (X.wish E) pins σ H s:=⟨I.ok.wish E,I.os,I.bare,I.base,I.loc,I.cell,I.free,I.freeC,I.pin,I.hok,I.len⟩
theorem Inv.unwish(I:Inv (X.wish E) pins σ H s):Inv X pins σ H s:=⟨I.ok.unwish,I.os,I.bare,I.base,I.loc,I.cell,I.free,I.freeC,I.pin,I.hok,I.len⟩
theorem SP.unwish{D:jk}{f:Flow}{s':Shared}(h:SP (X.wish E) pins D f s'):SP X pins D f s':=by
 cases f with
 |next=>obtain⟨σ',H',I,q⟩:=h;exact⟨σ',H',I.unwish,q⟩
 |brk=>obtain⟨σ',H',I,q⟩:=h;exact⟨σ',H',I.unwish,q⟩
 |cont=>obtain⟨σ',H',I,q⟩:=h;exact⟨σ',H',I.unwish,q⟩
 |ret u=>obtain⟨v,σ',H',I,r,q⟩:=h;exact⟨v,σ',H',I.unwish,r,q⟩
theorem PE.nox{e:Expr}{t:TE}(h:PE X.nox e t):PE X e t:=fun pins s σ H Q I hw=>
 Lj (h pins s σ H Q (I.wish _) hw) (fun _ _ ⟨v,H',I',r,q⟩=>⟨v,H',I'.unwish,r,q⟩) fun _ _ z=>LG z
theorem PT.nox{e:Expr}{t:TT}(h:PT X.nox e t):PT X e t:=fun pins s σ H Q I hw=>
 Lj (h pins s σ H Q (I.wish _) hw) (fun _ _ ⟨H',I',q⟩=>⟨H',I'.unwish,q⟩) fun _ _ z=>LG z
theorem PSs.nox{st:List Stmt}{t:TS}(h:PSs X.nox st t):PSs X st t:=fun pins s σ H D I hw=>
 Lj (h pins s σ H D (I.wish _) hw) (fun _ _ q=>q.unwish) fun _ _ z=>LG z
end
section
variable{X:Cx}{st:Stmt}{cP:List Stmt}{t u:TS}{e:Expr}{te:TE}{pos:Pos}
noncomputable def ba:TS:=fun D σ H=>D.nx σ H
noncomputable def ao(t u:TS):TS:=fun D σ H=>t { D with nx:=u D } σ H
theorem aM:PSs X [] ba:=fun _ _ σ H _ I h=>Oe ⟨σ,H,I,h⟩
theorem ae(h1:PS X st t)(h2:PSs X cP u):PSs X (st::cP) (ao t u):=by
 intro pins s σ H D I h;refine RN (thn (h1 pins s σ H { D with nx:=u D } I h) fun f s1 q=>?_);cases f with
 |next=>
  obtain⟨σ',H',I',q⟩:=q;exact h2 pins s1 σ' H' D I' q
 |ret v=>exact q
 |brk=>exact q
 |cont=>exact q
theorem ah(h1:PS X st t):PSs X [st] t:=by
 intro pins s σ H D I h;refine RN (thn (h1 pins s σ H D I h) fun f s1 q=>?_);cases f with
 |next=>exact Oe q
 |ret v=>exact q
 |brk=>exact q
 |cont=>exact q
theorem Inv.quiet{pins:List (Addr×Obj)}{σ:St}{H:Hp}{s:Shared}(I:Inv X pins σ H s):interactive X.env=false:=by simp[interactive,I.ok.kind]
noncomputable def cE(te:TE):TS:=fun D σ H=>te σ H fun _ H1=>D.nx σ H1
theorem bV(he:PE X e te)(hs:OM e none pos.line X.env=pure false:=by rfl):PS X (.Expr e pos) (cE te):=by
 intro pins s σ H D I h;exact wpAny_Expr_any (thn (he pins s σ H _ I h) fun v s1 ⟨x,H1,I1,r1,q1⟩=>⟨σ,H1,I1,q1⟩) I.quiet hs
noncomputable def aI(te:TE):TS:=fun D σ H=>te σ H D.rt
theorem av(he:PE X e te):PS X (.Return (some e) pos) (aI te):=by
 intro pins s σ H D I h;exact wpAny_Return_some (thn (he pins s σ H _ I h) fun v s1 ⟨x,H1,I1,r1,q1⟩=>⟨x,σ,H1,I1,r1,q1⟩)
noncomputable def br(c:TT)(t u:TS):TS:=fun D σ H=>c σ H fun b H1=>if b=true then t D σ H1 else u D σ H1
theorem bf{c:Expr}{a b:List Stmt}{tc:TT}(hc:PT X c tc)(ha:PSs X a t)(hb:PSs X b u):PS X (.If c a b pos) (br tc t u):=by
 intro pins s σ H D I h;refine wpAny_If (thn (hc pins s σ H _ I h) fun d s1 ⟨H1,I1,q1⟩=>?_);cases d with
 |true=>exact ha pins s1 σ H1 D I1 q1
 |false=>exact hb pins s1 σ H1 D I1 q1
noncomputable def oH:TS:=fun _ _ _=>False
theorem m8:PS X st oH:=fun _ _ _ _ _ _ h=>h.elim
end
noncomputable abbrev TG:=V->St->Hp->(St->Hp->Prop)->Prop
noncomputable abbrev TGs:=List V->St->Hp->(St->Hp->Prop)->Prop
noncomputable def PG(X:Cx)(target:Expr)(t:TG):Prop:=
 ∀(pins:List (Addr×Obj))(s:Shared)(σ:St)(H:Hp)(v:V)(u:Value)(Q:St->Hp->Prop),Inv X pins σ H s->aO v u->t v σ H Q->
  wpAny (model X.prog X.w) X.A (assign target X.env u) (fun _ s'=>∃σ' H',Inv X pins σ' H' s'/\Q σ' H') X.xe s
noncomputable def PGs(X:Cx)(ts:List Expr)(t:TGs):Prop:=
 ∀(pins:List (Addr×Obj))(s:Shared)(σ:St)(H:Hp)(vs:List V)(us:List Value)(Q:St->Hp->Prop),Inv X pins σ H s->aL vs us->t vs σ H Q->
  wpAny (model X.prog X.w) X.A (assignInOrder ((Of ts X.env).map (·.2)) us) (fun _ s'=>∃σ' H',Inv X pins σ' H' s'/\Q σ' H') X.xe s
noncomputable abbrev xr:=V->V->V->Hp->(Hp->Prop)->Prop
noncomputable def Ay(X:Cx)(t:xr):Prop:=
 ∀(pins:List (Addr×Obj))(s:Shared)(σ:St)(H:Hp)(o i v:V)(ov iv u:Value)(Q:Hp->Prop),Inv X pins σ H s->aO o ov->aO i iv->aO v u->t o i v H Q->
  wpAny (model X.prog X.w) X.A (setItem ov iv u) (fun _ s'=>∃H',Inv X pins σ H' s'/\Q H') X.xe s
section
variable{X:Cx}{pos:Pos}
noncomputable def ag(i:Nat):TG:=fun v σ H Q=>Q (σ.set i (some v)) H
theorem mN{i:Nat}{x:Str}(hN:X.N.Nodup)(hi:X.N[i]?=some x)(hx:Loc X.env.scope x)(hf:X.fn x=true\/X.env.scope.names.lookup x=some .local:=by first|exact .inl rfl|exact .inr rfl|assumption):PG X (.Name x pos) (ag i):=by
 intro pins s σ H v u Q I r h;exact Pc (xp I hN hi hx r (fun s' I'=>⟨_,H,I',h⟩) hf)
noncomputable def cL:TGs:=fun vs σ H Q=>vs=[]/\Q σ H
noncomputable def aZ(t:TG)(u:TGs):TGs:=fun vs σ H Q=>∃v r,vs=v::r/\t v σ H fun σ' H'=>u r σ' H' Q
theorem bZ:PGs X [] cL:=by
 intro pins s σ H vs us Q I r h;obtain⟨e,h⟩:=h;subst e;cases r;exact assignInOrder_nil ⟨σ,H,I,h⟩
theorem aQ{e:Expr}{es:List Expr}{t:TG}{u:TGs}(h1:PG X e t)(h2:PGs X es u)
  (hs:(Of (e::es) X.env).map (·.2)=assign e X.env::(Of es X.env).map (·.2):=by rfl):PGs X (e::es) (aZ t u):=by
 intro pins s σ H vs us Q I r h;obtain⟨v,vr,e1,h⟩:=h;subst e1;cases r with
 |cons r rr=>
  rw[hs];refine assignInOrder_cons (thn (h1 pins s σ H _ _ _ I r h) fun _ s1 ⟨σ1,H1,I1,q1⟩=>?_);exact h2 pins s1 σ1 H1 _ _ Q I1 rr q1
noncomputable def cM(K:Fg)(n:Nat)(t:TGs):TG:=fun v σ H Q=>∃a xs,v=.ref a/\SqT K H a xs/\xs.length=n/\t xs σ H Q
theorem cx{es:List Expr}{k:Nat}{t:TGs}{n:Nat}(hc:X.calm=true)(h:PGs X es t)
  (hn:(Of es X.env).length=n:=by rfl) (hst:(Of es X.env).findIdx? (·.1)=none:=by rfl):PG X (.Tuple es k pos) (cM X.K n t):=by
 intro pins s σ H v u Q I r hw;obtain⟨a,xs,e1,hq,hl,hw⟩:=hw;subst e1;cases r;obtain⟨its,rv,ht,hz⟩:=I.tuple hq;refine assign_Tuple_tuple (I.ok.hd hc) ht (by simp[hn,<-hl,rv.length]) hst fun h' hx=>?_;have I1:Inv X pins σ H { s with heap:=h' }:=I.kept (t':=s.toks) fun b o e=>hx b o (Kg (JL e)) e;exact h pins _ σ H xs _ Q I1 (by simpa using rv) hw
noncomputable def kW(to ti:TE)(t:xr):TG:=fun v σ H Q=>to σ H fun o H1=>ti σ H1 fun i H2=>t o i v H2 fun H3=>Q σ H3
theorem jZ{o i:Expr}{to ti:TE}{t:xr}(ho:PE X o to)(hi:PE X i ti)(hs:Ay X t)
  (ha:∀v,assign (.Subscript o i pos) X.env v=(do
   let ov <-holding [v] (eval o X.env)
   let iv <-holding [v,ov] (eval i X.env)
   standAt pos
   holding [v,ov,iv] (setItem ov iv v)
   release [v,ov,iv] []):=by intro _;rfl):PG X (.Subscript o i pos) (kW to ti t):=by
 intro pins s σ H v u Q I r h;rw[ha];refine Jz (K4 (thn (ho pins s σ H _ I h) fun ov s1 ⟨x,H1,I1,r1,q1⟩=>?_));refine Jz (K4 (thn (hi pins s1 σ H1 _ I1 q1) fun iv s2 ⟨y,H2,I2,r2,q2⟩=>?_));refine Jz (OZ (Jz (K4 (thn (hs pins s2 σ H2 x y v ov iv u _ I2 r1 r2 r q2) fun _ s3 ⟨H3,I3,q3⟩=>?_))));exact wpAny_release ⟨σ,H3,I3,q3⟩
noncomputable def aA(te:TE)(g:TG):TS:=fun D σ H=>te σ H fun x H1=>g x σ H1 D.nx
theorem ik{tg e:Expr}{te:TE}{g:TG}(he:PE X e te)(hg:PG X tg g)(hs:swapsWithSole [tg] e pos.line X.env=pure false:=by rfl)(hw:swappedStores [tg] e X.env=pure none:=by rfl)
  (h1:(Of [tg] X.env).map (·.2)=[assign tg X.env]:=by rfl):PS X (.Assign [tg] e pos) (aA te g):=by
 intro pins s σ H D I h;refine wpAny_Assign_stores (thn (he pins s σ H _ I h) fun v s1 ⟨x,H1,I1,r1,q1⟩=>?_) hs hw;rw[h1];exact thn (hg pins s1 σ H1 x v _ I1 r1 q1) fun _ s2 q=>q
theorem gm{i:Nat}{x:Str}{e:Expr}{te:TE}{pos':Pos}(hN:X.N.Nodup)(hi:X.N[i]?=some x)(hx:Loc X.env.scope x)(he:PE X e te)(hs:OM e (some (.Name x pos')) pos.line X.env=pure false:=by rfl)(hf:X.fn x=true\/X.env.scope.names.lookup x=some .local:=by first|exact .inl rfl|exact .inr rfl|assumption):
  PS X (.Assign [.Name x pos'] e pos) (aA te (ag i)):=by
 intro pins s σ H D I h;refine wpAny_Assign_Name (thn (he pins s σ H _ I h) fun v s1 ⟨y,H1,I1,r1,q1⟩=>?_) hs;exact xp I1 hN hi hx r1 (fun s2 I2=>⟨_,H1,I2,q1⟩) hf
end
section
variable{X:Cx}{pos:Pos}
noncomputable def im(c:TT)(tb:TS):TS:=fun D σ H=>∃W:Nat->St->Hp->Prop,(∃m,W m σ H)/\∀m σ H,W m σ H->
 c σ H fun b H1=>if b=true then∃N:St->Hp->Prop,(∀σ' H',N σ' H'->∃m',m'<m/\W m' σ' H')/\tb { D with nx:=N,ct:=N,bk:=D.nx } σ H1 else D.nx σ H1
theorem jm{c:Expr}{body:List Stmt}{tc:TT}{tb:TS}(hp:Kr (model X.prog X.w) X.A X.env X.xe)(hc:PT X c tc)(hb:PSs X body tb):PS X (.While c body [] pos) (im tc tb):=by
 intro pins s σ H D I h;obtain⟨W,⟨m0,w0⟩,turn⟩:=h;refine wpAny_While (codeAny_whileLoop (fun n s'=>∃σ' H',Inv X pins σ' H' s'/\W n σ' H') ?_ m0 ⟨σ,H,I,w0⟩);rintro n s1 ⟨σ1,H1,I1,w1⟩;refine Mx hp (thn (hc pins s1 σ1 H1 _ I1 (turn n σ1 H1 w1)) fun b s2 ⟨H2,I2,q2⟩=>?_);cases b with
 |true=>
  obtain⟨N,hN,q2⟩:=q2;rw[if_pos rfl];refine Mx hp (thn (hb pins s2 σ1 H2 _ I2 q2) fun f s3 q3=>?_);cases f with
  |next=>
   obtain⟨σ3,H3,I3,n3⟩:=q3;obtain⟨m',hm,w3⟩:=hN σ3 H3 n3;exact⟨m',hm,σ3,H3,I3,w3⟩
  |cont=>
   obtain⟨σ3,H3,I3,n3⟩:=q3;obtain⟨m',hm,w3⟩:=hN σ3 H3 n3;exact⟨m',hm,σ3,H3,I3,w3⟩
  |brk=>exact q3
  |ret v=>exact q3
 |false=>
  rw[if_neg JQ];exact Oe ⟨σ1,H2,I2,q2⟩
end
set_option genInjectivity false in
structure It where
 go:Nat->Hp->Prop
 yld:Nat->Hp->V->Hp->Prop
 stop:Nat->Hp->Prop
noncomputable def ip(X:Cx)(pins:List (Addr×Obj))(H:Hp)(b:Addr):Prop:=
 H b=none/\b≠X.env.locals/\b∉X.fs/\(b∈X.ex\/X.s₀.heap.objs.size<=b)/\(∀x c,X.env.cells.lookup x=some c->c≠b)/\∀p∈X.pn++pins,p.1≠b
theorem Inv.fpOk{X:Cx}{pins:List (Addr×Obj)}{σ:St}{H H':Hp}{s:Shared}{b:Addr}(I:Inv X pins σ H s)(hb:s.heap.objs.size<=b)(hn:H' b=none):ip X pins H' b:=by
 refine⟨hn,LA (J2 I.lt hb),I.nofs hb,.inr (Kc I.sz hb),fun x c e z=>?_,fun p hp z=>?_⟩
 ·obtain⟨v,q⟩:=I.cell x c e
  exact absurd (J2 q.lt (by rw[z];exact hb)) (Lv _)
 ·exact absurd (J2 (JL (I.pin p hp).1) (by rw[z];exact hb)) (Lv _)
structure oI(P:Program)(w:World)(K:Fg)(tg:Expr)(J:It)(fp:List Addr)(it:Addr)(tn:Nat->Heap->Prop):Prop where
 mem:it∈fp
 obj:∀i h,tn i h->∀b∈fp,∃o,h.get? b=some o/\∀v,o.data≠.cell v
 keep:∀i h h',tn i h->(∀b∈fp,∀o,h.get? b=some o->h'.get? b=some o)->tn i h'
 item:∀(X:Cx),X.prog=P->X.w=w->X.K=K->X.calm=true->∀(i:Nat)(pins:List (Addr×Obj))(s:Shared)(σ:St)(H:Hp)(E:Value->Shared->Prop),Inv X pins σ H s->(∀b∈fp,ip X pins H b)->tn i s.heap->J.go i H->
  wpAny (model P w) X.A (pyNext (.ref it)) (fun r s1=>∃u,r=some u/\
   wpAny (model P w) X.A (Og tg (.ref it) u) (fun _ s2=>∃x H',Inv X pins σ H' s2/\aO x u/\J.yld i H x H'/\tn (i+1) s2.heap/\∀b∈fp,H' b=none) E s1) E s
 done:∀(X:Cx),X.prog=P->X.w=w->X.K=K->X.calm=true->∀(i:Nat)(pins:List (Addr×Obj))(s:Shared)(σ:St)(H:Hp)(E:Value->Shared->Prop),Inv X pins σ H s->(∀b∈fp,ip X pins H b)->tn i s.heap->J.stop i H->
  wpAny (model P w) X.A (pyNext (.ref it)) (fun r s1=>r=none/\Inv X pins σ H s1) E s
 self:∀(A:Around)(i:Nat)(s:Shared)(Q:Value->Shared->Prop)(E:Value->Shared->Prop),tn i s.heap->Q (.ref it) s->wpAny (model P w) A (pyIter (.ref it)) Q E s
noncomputable abbrev TI:=St->Hp->(It->Hp->Prop)->Prop
noncomputable def PIE(X:Cx)(pins:List (Addr×Obj))(σ:St)(tg:Expr)(R:It->Hp->Prop)(itv:Value)(s2:Shared):Prop:=
 ∃(it:Addr)(fp:List Addr)(tn:Nat->Heap->Prop)(J:It)(H':Hp),itv=.ref it/\Inv X pins σ H' s2/\oI X.prog X.w X.K tg J fp it tn/\tn 0 s2.heap/\(∀b∈fp,ip X pins H' b)/\R J H'
noncomputable def PI(X:Cx)(tg iter:Expr)(wi:TI):Prop:=
 ∀(pins:List (Addr×Obj))(s:Shared)(σ:St)(H:Hp)(R:It->Hp->Prop),Inv X pins σ H s->wi σ H R->
  wpAny (model X.prog X.w) X.A (eval iter X.env) (fun v s1=>wpAny (model X.prog X.w) X.A (pyIter v) (PIE X pins σ tg R) X.xe s1) X.xe s
theorem Az{M: Model}{A: Around}{E: Value → Shared → Prop}{s: Shared}{tg: Expr}{it: Addr}{u: Value}{o: Obj}{n: String}{vs: Array Value}{Q: Unit → Shared → Prop}(ho: s.heap.get? it= some o)(hc: o.cls= .type n)(hd: o.data= .fields vs)
    (hn: ["enumerate", "zip", "dict_itemiterator", "dict_reverseitemiterator", "odict_iterator", "itertools.zip_longest", "itertools.pairwise"].contains n= false) (hQ: Q () s): wpAny M A (Og tg (.ref it) u) Q E s:= by
  unfold Og;cases tg<;>first
    |exact JC hQ
    | (cases u<;>first
        |exact JC hQ
        | (refine Jz (QA ho ?_)
           rw[hc, hd];show wpAny M A (if(["enumerate", "zip", "dict_itemiterator", "dict_reverseitemiterator", "odict_iterator", "itertools.zip_longest", "itertools.pairwise"].contains n&&vs[0]? ==some (rawInt _))= true then _ else _) Q E s;rw[if_neg (by intro h;rw[hn, OB]at h;cases h)];exact JC hQ))
noncomputable def Itl(K:Fg)(a:Addr):It:=
 ⟨fun i H=>∃xs x,SqL K H a xs/\xs[i]?=some x,fun i H x H'=>H'=H/\∀xs,SqL K H a xs->xs[i]?=some x,fun i H=>∃xs,SqL K H a xs/\xs.length<=i⟩
noncomputable def Itt(K:Fg)(a:Addr):It:=
 ⟨fun i H=>∃xs x,SqT K H a xs/\xs[i]?=some x,fun i H x H'=>H'=H/\∀xs,SqT K H a xs->xs[i]?=some x,fun i H=>∃xs,SqT K H a xs/\xs.length<=i⟩
noncomputable def Itr(lo:Int)(n:Nat):It:=⟨fun i _=>i<n,fun i H x H'=>H'=H/\x=.int (lo+i),fun i _=>n<=i⟩
theorem Cf{P:Program}{w:World}{K:Fg}{tg:Expr}(a it:Addr):oI P w K tg (Itl K a) [it] it (fun i h=>h.IsListIter it a i) where
 mem:=by simp
 obj:=fun i h st b hb=>by
  have e:b=it:=by simpa using hb
  subst e;obtain⟨o,e,c,d⟩:=st;exact⟨o,e,fun v z=>by rw[d]at z;cases z⟩
 keep:=fun i h h' st k=>st.at fun o e=>k it (by simp) o e
 item:=by
  intro X hP hw hK hc i pins s σ H E I hf st hg;subst hP hw hK;obtain⟨xs,x,hq,hx⟩:=hg;obtain⟨its,rv,p,hz⟩:=I.list hq;obtain⟨u,hu,ru⟩:=rv.get hx;obtain⟨f0,f1,f2,f3,f4,f5⟩:=hf it (by simp);refine wpAny_pyNext_list_item st p.isList (x:=u) (by simpa using hu) fun h' st' sb=>?_;have I1:Inv X pins σ H { s with heap:=h' }:=I.turned (t':=s.toks) (fun b o hb e=>(sb.2 b hb).trans e) f0 f1 f3 f4 f5;obtain⟨o,e,c,d⟩:=id st';exact⟨u,rfl,Az (s:={ s with heap:=h' }) e c d (by decide) ⟨x,H,I1,ru,⟨rfl,fun ys hy=>by rw[I.list_inj hy hq];exact hx⟩,st',fun b hb=>(hf b hb).1⟩⟩
 done:=by
  intro X hP hw hK hc i pins s σ H E I hf st hg;subst hP hw hK;obtain⟨xs,hq,hx⟩:=hg;obtain⟨its,rv,p,hz⟩:=I.list hq;obtain⟨f0,f1,f2,f3,f4,f5⟩:=hf it (by simp);have hl:=rv.length;exact wpAny_pyNext_list_end (I.ok.hd hc) st p.isList (by simp;omega) fun h' eb=>⟨rfl,I.turned (t':=s.toks) (fun b o hb e=>eb b o hb e) f0 f1 f3 f4 f5⟩
 self:=fun _ _ _ _ _ st h=>wpAny_pyIter_listiter st h
theorem AA{P:Program}{w:World}{K:Fg}{tg:Expr}(a it:Addr):oI P w K tg (Itt K a) [it] it (fun i h=>h.IsTupleIter it a i) where
 mem:=by simp
 obj:=fun i h st b hb=>by
  have e:b=it:=by simpa using hb
  subst e;obtain⟨o,e,c,d⟩:=st;exact⟨o,e,fun v z=>by rw[d]at z;cases z⟩
 keep:=fun i h h' st k=>st.at fun o e=>k it (by simp) o e
 item:=by
  intro X hP hw hK hc i pins s σ H E I hf st hg;subst hP hw hK;obtain⟨xs,x,hq,hx⟩:=hg;obtain⟨its,rv,p,hz⟩:=I.tuple hq;obtain⟨u,hu,ru⟩:=rv.get hx;obtain⟨f0,f1,f2,f3,f4,f5⟩:=hf it (by simp);refine wpAny_pyNext_tuple_item st (show s.heap.IsTuple a its.toArray from p) (x:=u) (by simpa using hu) fun h' st' sb=>?_;have I1:Inv X pins σ H { s with heap:=h' }:=I.turned (t':=s.toks) (fun b o hb e=>(sb.2 b hb).trans e) f0 f1 f3 f4 f5;obtain⟨o,e,c,d⟩:=id st';exact⟨u,rfl,Az (s:={ s with heap:=h' }) e c d (by decide) ⟨x,H,I1,ru,⟨rfl,fun ys hy=>by rw[I.tuple_inj hy hq];exact hx⟩,st',fun b hb=>(hf b hb).1⟩⟩
 done:=by
  intro X hP hw hK hc i pins s σ H E I hf st hg;subst hP hw hK;obtain⟨xs,hq,hx⟩:=hg;obtain⟨its,rv,p,hz⟩:=I.tuple hq;obtain⟨f0,f1,f2,f3,f4,f5⟩:=hf it (by simp);have hl:=rv.length;exact wpAny_pyNext_tuple_end (I.ok.hd hc) st (show s.heap.IsTuple a its.toArray from p) (by simp;omega) fun h' eb=>⟨rfl,I.turned (t':=s.toks) (fun b o hb e=>eb b o hb e) f0 f1 f3 f4 f5⟩
 self:=fun _ _ _ _ _ st h=>wpAny_pyIter_tupleiter st h
theorem AB{P:Program}{w:World}{K:Fg}{tg:Expr}(it:Addr)(lo:Int)(n:Nat):oI P w K tg (Itr lo n) [it] it (fun i h=>IsRangeIter h it (lo+(i:Nat)*1) ((n:Int)-(i:Nat)) 1) where
 mem:=by simp
 obj:=fun i h st b hb=>by
  have e:b=it:=by simpa using hb
  subst e;exact⟨_,st,fun v z=>by
   have z':Data.fields _=Data.cell v:=z;cases z'⟩
 keep:=fun i h h' st k=>k it (by simp) _ st
 item:=by
  intro X hP hw hK hc i pins s σ H E I hf st hg;subst hP hw hK;obtain⟨f0,f1,f2,f3,f4,f5⟩:=hf it (by simp);have W:=Walks.range (prog:=X.prog) (w:=X.w) (I.ok.hd hc) it lo 1 n;refine W.item i s _ _ hg st fun v h' tk hv st' kk=>?_;obtain⟨t,rfl⟩:=hv;have I1:Inv X pins σ H { s with heap:=h',toks:=tk }:=I.turned (fun b o hb e=>kk b o (by simpa using hb) e) f0 f1 f3 f4 f5;refine⟨_,rfl,Az (s:={ s with heap:=h',toks:=tk }) (n:="range_iterator") st' rfl rfl (by decide) ⟨.int (lo+i),H,I1,⟨t,?_⟩,⟨rfl,rfl⟩,st',fun b hb=>(hf b hb).1⟩⟩;rw[Int.mul_one]
 done:=by
  intro X hP hw hK hc i pins s σ H E I hf st hg;subst hP hw hK;obtain⟨f0,f1,f2,f3,f4,f5⟩:=hf it (by simp);exact wpAny_pyNext_range_end (I.ok.hd hc) st (by have:n<=i:=hg;omega) fun h' eb=>⟨rfl,I.turned (t':=s.toks) (fun b o hb e=>eb b o hb e) f0 f1 f3 f4 f5⟩
 self:=fun _ _ _ _ _ st h=>wpAny_pyIter_rangeiter st h
end L2
namespace L2
open PySem PySem.Spec PyProof.Rows
section
variable{X:Cx}{tg:Expr}
noncomputable def ca(K:Fg)(tl:TE):TI:=fun σ H R=>tl σ H fun x H1=>∃a,x=.ref a/\(∃xs,SqL K H1 a xs)/\R (Itl K a) H1
noncomputable def qX(K:Fg)(tl:TE):TI:=fun σ H R=>tl σ H fun x H1=>∃a,x=.ref a/\(∃xs,SqT K H1 a xs)/\R (Itt K a) H1
theorem bB{l:Expr}{tl:TE}(hl:PE X l tl):PI X tg l (ca X.K tl):=by
 intro pins s σ H R I h;refine thn (hl pins s σ H _ I h) fun v s1 ⟨x,H1,I1,r1,q1⟩=>?_;obtain⟨a,e,⟨xs,hq⟩,q⟩:=q1;subst e;cases r1;obtain⟨its,rv,p,hz⟩:=I1.list hq;refine Nd p.isList ?_;refine⟨s1.heap.objs.size,[s1.heap.objs.size],_,_,H1,rfl,I1.kept (t':=s1.toks) fun b o e=>JA _ e,Cf a _,⟨_,JM _ rfl,rfl,rfl⟩,fun b hb=>?_,q⟩;have e:b=s1.heap.objs.size:=by simpa using hb
 subst e;exact I1.fpOk (JF _) (I1.hok.fresh (JF _))
theorem oJ{l:Expr}{tl:TE}(hl:PE X l tl):PI X tg l (qX X.K tl):=by
 intro pins s σ H R I h;refine thn (hl pins s σ H _ I h) fun v s1 ⟨x,H1,I1,r1,q1⟩=>?_;obtain⟨a,e,⟨xs,hq⟩,q⟩:=q1;subst e;cases r1;obtain⟨its,rv,p,hz⟩:=I1.tuple hq;refine Q4 (show s1.heap.IsTuple a its.toArray from p) ?_;refine⟨s1.heap.objs.size,[s1.heap.objs.size],_,_,H1,rfl,I1.kept (t':=s1.toks) fun b o e=>JA _ e,AA a _,⟨_,JM _ rfl,rfl,rfl⟩,fun b hb=>?_,q⟩;have e:b=s1.heap.objs.size:=by simpa using hb
 subst e;exact I1.fpOk (JF _) (I1.hok.fresh (JF _))
theorem DT{pins:List (Addr×Obj)}{σ:St}{H:Hp}{s:Shared}{R:It->Hp->Prop}{E:Value->Shared->Prop}{lo hi:Int}{t u v:Tok}{tk:Nat}(I:Inv X pins σ H s)(h1:-(2^62)<=lo)(h2:lo<2^62)(h3:-(2^62)<=hi)(h4:hi<2^62)
  (q:R (Itr lo (hi-lo).toNat) H):wpAny (model X.prog X.w) X.A (pyIter (.ref s.heap.objs.size)) (PIE X pins σ tg R) E { s with heap:=s.heap.push { cls:=.type "range",data:=.fields #[.int lo t,.int hi u,.int 1 v] },toks:=tk }:=by
 refine wpAny_pyIter_range (IsRange.new ..) (SE h1 h2 h3 h4) ?_;have I1:Inv X pins σ H { s with heap:=s.heap.push { cls:=.type "range",data:=.fields #[.int lo t,.int hi u,.int 1 v] },toks:=tk }:=I.kept fun b o e=>JA _ e;refine⟨(s.heap.push { cls:=.type "range",data:=.fields #[.int lo t,.int hi u,.int 1 v] }).objs.size,[(s.heap.push { cls:=.type "range",data:=.fields #[.int lo t,.int hi u,.int 1 v] }).objs.size],_,_,H,rfl,
  I1.kept (t':=tk) fun b o e=>JA _ e,AB _ lo (hi-lo).toNat,?_,fun b hb=>?_,q⟩
 ·have e1:lo+((0:Nat):Int)*1=lo:=by simp
  have e2:(((hi-lo).toNat:Nat):Int)-((0:Nat):Int)=NO lo hi 1:=by rw[QN];split<;>omega
  show IsRangeIter _ _ (lo+((0:Nat):Int)*1) ((((hi-lo).toNat:Nat):Int)-((0:Nat):Int)) 1;rw[e1,e2];exact JM _ rfl
 ·have e:b=(s.heap.push { cls:=.type "range",data:=.fields #[.int lo t,.int hi u,.int 1 v] }).objs.size:=by simpa using hb
  subst e;exact I1.fpOk (JF _) (I1.hok.fresh (JF _))
noncomputable def cZ(ta:TA):TI:=fun σ H R=>ta σ H fun vs H1=>∃j:Int,vs=[.int j]/\-(2^62)<=j/\j<2^62/\R (Itr 0 j.toNat) H1
theorem bJ{a:Expr}{ta:TA}{p pos:Pos}(hg:Gl X "range")(hm:X.mg "range"=none)(ha:PA X [a] ta)(hs:J4 [a] X.env=[(false,eval a X.env)]:=by rfl):PI X tg (.Call (.Name "range" p) [a] [] pos) (cZ ta):=by
 intro pins s σ H R I h;refine Call_ (gk I hg hm Sf (Lc (thn (ha pos pins s σ H _ I h) fun us s1 ⟨vs,H1,I1,r1,q1⟩=>?_) hs rfl));obtain⟨j,e,q1,q2,q⟩:=q1;subst e;cases r1 with
 |cons r rr=>
  cases rr;obtain⟨t,rfl⟩:=r;exact call_range_1 (DT I1 (by omega) (by omega) q1 q2 (by simpa using q))
noncomputable def cQ(wi:TI)(g:TG)(tb:TS):TS:=fun D σ H=>wi σ H fun J H1=>∃W:Nat->Nat->St->Hp->Prop,(∃m,W 0 m σ H1)/\∀i m σ H,W i m σ H->
 (J.stop i H/\D.nx σ H)\/(J.go i H/\∃N:St->Hp->Prop,(∀σ' H',N σ' H'->∃m',m'<m/\W (i+1) m' σ' H')/\∀x H',J.yld i H x H'->g x σ H' fun σ2 H2=>tb { D with nx:=N,ct:=N,bk:=D.nx } σ2 H2)
noncomputable def mO(fp:List Addr)(h:Heap):List (Addr×Obj):=fp.filterMap fun b=>(h.get? b).map fun o=>(b,o)
theorem fN{fp:List Addr}{h:Heap}{b:Addr}{o:Obj}(hb:b∈fp)(e:h.get? b=some o):(b,o)∈mO fp h:=ON.mpr ⟨b,hb,by rw[e];rfl⟩
theorem Cg{fp:List Addr}{h:Heap}{p:Addr×Obj}(hp:p∈mO fp h):p.1∈fp/\h.get? p.1=some p.2:=by
 obtain⟨b,hb,e⟩:=ON.mp hp;cases q:h.get? b with
 |none=>rw[q]at e;cases e
 |some o=>
  rw[q]at e;have e':(b,o)=p:=JR e;subst e';exact⟨hb,q⟩
theorem Inv.pinned{pins:List (Addr×Obj)}{σ:St}{H:Hp}{s:Shared}{fp:List Addr}(I:Inv X pins σ H s)(hf:∀b∈fp,ip X pins H b)(ho:∀b∈fp,∃o,s.heap.get? b=some o/\∀v,o.data≠.cell v):Inv X (pins++mO fp s.heap) σ H s:=
 I.pins_of fun p hp=>(Ka.mp hp).elim (fun z=>I.pin p (Kh _ z)) fun z=>by
  obtain⟨hb,e⟩:=Cg z;obtain⟨f0,f1,f2,_⟩:=hf p.1 hb;obtain⟨o,e',d⟩:=ho p.1 hb;rw[e]at e';cases e';exact⟨e,f0,f1,f2,d⟩
theorem Inv.unpinned{pins pl:List (Addr×Obj)}{σ:St}{H:Hp}{s:Shared}(I:Inv X (pins++pl) σ H s):Inv X pins σ H s:=I.pins_of fun p hp=>I.pin p (Kh _ (Li _ hp))
theorem bS{iter:Expr}{body:List Stmt}{wi:TI}{g:TG}{tb:TS}{pos:Pos}(hp:Kr (model X.prog X.w) X.A X.env X.xe)(hc:X.calm=true)(hi:PI X tg iter wi)(hg:PG X tg g)(hb:PSs X body tb)
  (hs:∀x,Nf iter X.env x=pure x:=by intro _;rfl):PS X (.For tg iter body [] pos) (cQ wi g tb):=by
 intro pins s σ H D I h;refine wpAny_For (thn (hi pins s σ H _ I h) fun v s1 h1=>thn h1 fun itv s2 h2=>?_) hs;obtain⟨it,fp,tn,J,H2,e,I2,T,st2,f2,W,⟨m0,w0⟩,turn⟩:=h2;subst e;have stat:∀{H':Hp},(∀b∈fp,H' b=none)->∀b∈fp,ip X pins H' b:=fun hn b hb=>⟨hn b hb,(f2 b hb).2⟩;refine codeAny_forLoop_any (fun n s'=>∃i σ' H',Inv X pins σ' H' s'/\tn i s'.heap/\(∀b∈fp,H' b=none)/\W i n σ' H') ?_ m0 ⟨0,σ,H2,I2,st2,fun b hb=>(f2 b hb).1,w0⟩;rintro n s3 ⟨i,σ3,H3,I3,st3,fr3,w3⟩;rcases turn i n σ3 H3 w3 with⟨stop,qn⟩|⟨go,N,hN,step⟩
 ·refine Mx hp (thn (T.done X rfl rfl rfl hc i pins s3 σ3 H3 X.xe I3 (stat fr3) st3 stop) fun r s4 ⟨hr,I4⟩=>?_)
  subst hr;exact Oe ⟨σ3,H3,I4,qn⟩
 ·refine Mx hp (thn (T.item X rfl rfl rfl hc i pins s3 σ3 H3 X.xe I3 (stat fr3) st3 go) fun r s4 ⟨u,hr,h4⟩=>?_)
  subst hr;refine Mx hp (thn h4 fun _ s5 ⟨x,H5,I5,r5,y5,st5,fr5⟩=>?_);have I5':=I5.pinned (stat fr5) (T.obj _ _ st5);refine Mx hp (thn (hg _ s5 σ3 H5 x u _ I5' r5 (step x H5 y5)) fun _ s6 ⟨σ6,H6,I6,q6⟩=>?_);refine Mx hp (thn (hb _ s6 σ6 H6 _ I6 q6) fun f s7 q7=>?_);have again:∀{σ7:St} {H7:Hp},Inv X (pins++mO fp s5.heap) σ7 H7 s7->N σ7 H7->∃m,m<n/\∃i σ' H',Inv X pins σ' H' s7/\tn i s7.heap/\(∀b∈fp,H' b=none)/\W i m σ' H':=fun{σ7 H7} I7 n7=>by
   obtain⟨m',hm,w7⟩:=hN σ7 H7 n7;refine⟨m',hm,i+1,σ7,H7,I7.unpinned,T.keep _ _ _ st5 fun b hb o e=>(I7.pin (b,o) (Kh _ (Kh _ (fN hb e)))).1,fun b hb=>?_,w7⟩;obtain⟨o,e,d⟩:=T.obj _ _ st5 b hb;exact(I7.pin (b,o) (Kh _ (Kh _ (fN hb e)))).2.1
  cases f with
  |next=>obtain⟨σ7,H7,I7,n7⟩:=q7;exact again I7 n7
  |cont=>obtain⟨σ7,H7,I7,n7⟩:=q7;exact again I7 n7
  |brk=>obtain⟨σ7,H7,I7,q7⟩:=q7;exact⟨σ7,H7,I7.unpinned,q7⟩
  |ret v=>obtain⟨x7,σ7,H7,I7,r7,q7⟩:=q7;exact⟨x7,σ7,H7,I7.unpinned,r7,q7⟩
end
theorem qY{K:Fg}{a:Addr}{xs:List V}{g:TG}{tb:TS}{D:jk}{σ:St}{H:Hp}(Pv:Nat->St->Hp->Prop)(h0:Pv 0 σ H)(hl:∀i σ H,i<=xs.length->Pv i σ H->SqL K H a xs)
  (hs:∀i x σ H,xs[i]?=some x->Pv i σ H->g x σ H fun σ2 H2=>tb { D with nx:=Pv (i+1),ct:=Pv (i+1),bk:=D.nx } σ2 H2) (hd:∀σ H,Pv xs.length σ H->D.nx σ H):
  ∃W:Nat->Nat->St->Hp->Prop,(∃m,W 0 m σ H)/\∀i m σ H,W i m σ H->
   ((Itl K a).stop i H/\D.nx σ H)\/((Itl K a).go i H/\∃N:St->Hp->Prop,(∀σ' H',N σ' H'->∃m',m'<m/\W (i+1) m' σ' H')/\∀x H',(Itl K a).yld i H x H'->g x σ H' fun σ2 H2=>tb { D with nx:=N,ct:=N,bk:=D.nx } σ2 H2):=by
 refine⟨fun i m σ H=>m=xs.length-i/\i<=xs.length/\Pv i σ H,⟨xs.length,by simp,Ks _,h0⟩,?_⟩;rintro i m σ H ⟨rfl,hi,p⟩;have q:=hl i σ H hi p;by_cases hlt:i<xs.length
 ·refine .inr ⟨⟨xs,xs[i],q,by simp[hlt]⟩,Pv (i+1),fun σ' H' p'=>⟨xs.length-(i+1),by omega,rfl,hlt,p'⟩,fun x H' y=>?_⟩
  obtain⟨e,y⟩:=y;subst e;exact hs i x σ _ (y xs q) p
 ·have e:i=xs.length:=by omega
  subst e;exact .inl ⟨⟨xs,q,JF _⟩,hd σ H p⟩
theorem F9{K:Fg}{a:Addr}{xs:List V}{g:TG}{tb:TS}{D:jk}{σ:St}{H:Hp}(Pv:Nat->St->Hp->Prop)(h0:Pv 0 σ H)(hl:∀i σ H,i<=xs.length->Pv i σ H->SqT K H a xs)
  (hs:∀i x σ H,xs[i]?=some x->Pv i σ H->g x σ H fun σ2 H2=>tb { D with nx:=Pv (i+1),ct:=Pv (i+1),bk:=D.nx } σ2 H2) (hd:∀σ H,Pv xs.length σ H->D.nx σ H):
  ∃W:Nat->Nat->St->Hp->Prop,(∃m,W 0 m σ H)/\∀i m σ H,W i m σ H->
   ((Itt K a).stop i H/\D.nx σ H)\/((Itt K a).go i H/\∃N:St->Hp->Prop,(∀σ' H',N σ' H'->∃m',m'<m/\W (i+1) m' σ' H')/\∀x H',(Itt K a).yld i H x H'->g x σ H' fun σ2 H2=>tb { D with nx:=N,ct:=N,bk:=D.nx } σ2 H2):=by
 refine⟨fun i m σ H=>m=xs.length-i/\i<=xs.length/\Pv i σ H,⟨xs.length,by simp,Ks _,h0⟩,?_⟩;rintro i m σ H ⟨rfl,hi,p⟩;have q:=hl i σ H hi p;by_cases hlt:i<xs.length
 ·refine .inr ⟨⟨xs,xs[i],q,by simp[hlt]⟩,Pv (i+1),fun σ' H' p'=>⟨xs.length-(i+1),by omega,rfl,hlt,p'⟩,fun x H' y=>?_⟩
  obtain⟨e,y⟩:=y;subst e;exact hs i x σ _ (y xs q) p
 ·have e:i=xs.length:=by omega
  subst e;exact .inl ⟨⟨xs,q,JF _⟩,hd σ H p⟩
theorem oK{lo:Int}{n:Nat}{g:TG}{tb:TS}{D:jk}{σ:St}{H:Hp}(Pv:Nat->St->Hp->Prop)(h0:Pv 0 σ H)
  (hs:∀i σ H,i<n->Pv i σ H->g (.int (lo+i)) σ H fun σ2 H2=>tb { D with nx:=Pv (i+1),ct:=Pv (i+1),bk:=D.nx } σ2 H2) (hd:∀σ H,Pv n σ H->D.nx σ H):
  ∃W:Nat->Nat->St->Hp->Prop,(∃m,W 0 m σ H)/\∀i m σ H,W i m σ H->
   ((Itr lo n).stop i H/\D.nx σ H)\/((Itr lo n).go i H/\∃N:St->Hp->Prop,(∀σ' H',N σ' H'->∃m',m'<m/\W (i+1) m' σ' H')/\∀x H',(Itr lo n).yld i H x H'->g x σ H' fun σ2 H2=>tb { D with nx:=N,ct:=N,bk:=D.nx } σ2 H2):=by
 refine⟨fun i m σ H=>m=n-i/\i<=n/\Pv i σ H,⟨n,by simp,Ks _,h0⟩,?_⟩;rintro i m σ H ⟨rfl,hi,p⟩;by_cases hlt:i<n
 ·refine .inr ⟨hlt,Pv (i+1),fun σ' H' p'=>⟨n-(i+1),by omega,rfl,hlt,p'⟩,fun x H' y=>?_⟩
  obtain⟨e,y⟩:=y;subst e y;exact hs i σ _ hlt p
 ·have e:i=n:=by omega
  subst e;exact .inl ⟨JF _,hd σ H p⟩
end L2
namespace L2
open PySem PySem.Spec PyProof.Rows
noncomputable abbrev R2:=V->V->Hp->VK->Prop
noncomputable def OpR(X:Cx)(f:Value->Value->Sem Value)(r:R2):Prop:=
 ∀(pins:List (Addr×Obj))(s:Shared)(σ:St)(H:Hp)(x y:V)(v u:Value)(Q:VK),Inv X pins σ H s->aO x v->aO y u->r x y H Q->
  wpAny (model X.prog X.w) X.A (f v u) (EP X pins σ Q) X.xe s
noncomputable def UnR(X:Cx)(f:Value->Sem Value)(r:V->Hp->VK->Prop):Prop:=
 ∀(pins:List (Addr×Obj))(s:Shared)(σ:St)(H:Hp)(x:V)(v:Value)(Q:VK),Inv X pins σ H s->aO x v->r x H Q->
  wpAny (model X.prog X.w) X.A (f v) (EP X pins σ Q) X.xe s
noncomputable def cU(X:Cx)(f:Value)(r:List V->Hp->VK->Prop):Prop:=
 ∀(pins:List (Addr×Obj))(s:Shared)(σ:St)(H:Hp)(xs:List V)(us:List Value)(Q:VK),Inv X pins σ H s->aL xs us->r xs H Q->
  wpAny (model X.prog X.w) X.A (call f us) (EP X pins σ Q) X.xe s
noncomputable def tOp(r:R2)(ta tb:TE):TE:=fun σ H Q=>ta σ H fun x H1=>tb σ H1 fun y H2=>r x y H2 Q
noncomputable def tUn(r:V->Hp->VK->Prop)(ta:TE):TE:=fun σ H Q=>ta σ H fun x H1=>r x H1 Q
noncomputable def rI(C:Int->Int->Prop)(g:Int->Int->V):R2:=fun x y H Q=>∃i j,x=.int i/\y=.int j/\C i j/\Q (g i j) H
noncomputable def rI0(g:Int->Int->V):R2:=fun x y H Q=>∃i j,x=.int i/\y=.int j/\Q (g i j) H
noncomputable def rU(g:Int->V):V->Hp->VK->Prop:=fun x H Q=>∃i,x=.int i/\Q (g i) H
section
variable{X:Cx}{a b c:Expr}{ta tb tc:TE}{pos:Pos}
theorem DU(ha:PE X a ta)(hb:PE X b tb){pins:List (Addr×Obj)}{s:Shared}{σ:St}{H:Hp}{R:V->V->Hp->Prop}(I:Inv X pins σ H s)
  (h:ta σ H fun x H1=>tb σ H1 fun y H2=>R x y H2) {Q:Value->Shared->Prop} {f:Value->Value->Sem Value}
  (hf:∀v u s2 x y H2,Inv X pins σ H2 s2->aO x v->aO y u->R x y H2->wpAny (model X.prog X.w) X.A (f v u) Q X.xe s2):
  wpAny (model X.prog X.w) X.A (eval a X.env) (fun v s₁=>wpAny (model X.prog X.w) X.A (eval b X.env) (fun u s₂=>wpAny (model X.prog X.w) X.A (f v u) Q X.xe s₂) X.xe s₁) X.xe s:=by
 refine thn (ha pins s σ H _ I h) fun v s1 ⟨x,H1,I1,r1,q1⟩=>?_;refine thn (hb pins s1 σ H1 _ I1 q1) fun u s2 ⟨y,H2,I2,r2,q2⟩=>?_;exact hf v u s2 x y H2 I2 r1 r2 q2
theorem au{op:Operator}{r:R2}(ho:OpR X (MA op) r)(ha:PE X a ta)(hb:PE X b tb):PE X (.BinOp a op b pos) (tOp r ta tb):=by
 intro pins s σ H Q I h;exact wpAny_BinOp (DU ha hb I h fun v u s2 x y H2 I2 rx ry q=>ho pins s2 σ H2 x y v u Q I2 rx ry q)
theorem AC{op:UnaryOp}{r:V->Hp->VK->Prop}(ho:UnR X (unaryOp op) r)(ha:PE X a ta):PE X (.UnaryOp op a pos) (tUn r ta):=by
 intro pins s σ H Q I h;exact UnaryOp_ (thn (ha pins s σ H _ I h) fun v s1 ⟨x,H1,I1,r1,q1⟩=>ho pins s1 σ H1 x v Q I1 r1 q1)
theorem opI{f:Value->Value->Sem Value}{C:Int->Int->Prop}{g:Int->Int->Int}
  (rule:∀(i j:Int)(t u:Tok)(s:Shared)(Q:Value->Shared->Prop)(E:Value->Shared->Prop),C i j->Q (.int (g i j) s.toks) { s with toks:=s.toks+1 }->wpAny (model X.prog X.w) X.A (f (.int i t) (.int j u)) Q E s):
  OpR X f (rI C fun i j=>.int (g i j)):=by
 intro pins s σ H x y v u Q I rx ry h;obtain⟨i,j,rfl,rfl,hc,q⟩:=h;obtain⟨t,rfl⟩:=rx;obtain⟨t',rfl⟩:=ry;exact rule i j t t' s _ _ hc ⟨.int (g i j),H,I.tok _,⟨_,rfl⟩,q⟩
theorem Hs{f:Value->Value->Sem Value}{g:Int->Int->Int}
  (rule:∀(i j:Int)(t u:Tok)(s:Shared)(Q:Value->Shared->Prop)(E:Value->Shared->Prop),Q (.int (g i j) s.toks) { s with toks:=s.toks+1 }->wpAny (model X.prog X.w) X.A (f (.int i t) (.int j u)) Q E s):
  OpR X f (rI0 fun i j=>.int (g i j)):=by
 intro pins s σ H x y v u Q I rx ry h;obtain⟨i,j,rfl,rfl,q⟩:=h;obtain⟨t,rfl⟩:=rx;obtain⟨t',rfl⟩:=ry;exact rule i j t t' s _ _ ⟨.int (g i j),H,I.tok _,⟨_,rfl⟩,q⟩
theorem DV{f:Value->Value->Sem Value}{g:Int->Int->Bool}
  (rule:∀(i j:Int)(t u:Tok)(s:Shared)(Q:Value->Shared->Prop)(E:Value->Shared->Prop),Q (.bool (g i j)) s->wpAny (model X.prog X.w) X.A (f (.int i t) (.int j u)) Q E s):
  OpR X f (rI0 fun i j=>.bl (g i j)):=by
 intro pins s σ H x y v u Q I rx ry h;obtain⟨i,j,rfl,rfl,q⟩:=h;obtain⟨t,rfl⟩:=rx;obtain⟨t',rfl⟩:=ry;exact rule i j t t' s _ _ ⟨.bl (g i j),H,I,rfl,q⟩
noncomputable def dI(i j:Int):Prop:=0<j/\j<1073741824
noncomputable def Ht(i j:Int):Prop:=(-(2^64)<i/\i<2^64)\/(-(2^64)<j/\j<2^64)
theorem Ht.ok{i j:Int}(h:Ht i j):Mp i j:=by
 rcases h with⟨h1,h2⟩|⟨h1,h2⟩
 ·exact .of_left (O0 h1 h2)
 ·exact .of_right (O0 h1 h2)
theorem bt:OpR X (MA .Add) (rI0 fun i j=>.int (i+j)):=Hs fun _ _ _ _ _ _ _ q=>add_int q
theorem gn:OpR X (MA .Sub) (rI0 fun i j=>.int (i-j)):=Hs fun _ _ _ _ _ _ _ q=>sub_int q
theorem b7:OpR X (MA .FloorDiv) (rI dI fun i j=>.int (i/j)):=opI fun i j _ _ _ _ _ hc q=>by
 have h1:(0:Int)<j:=hc.1;have h2:j<1073741824:=hc.2;exact floordiv_int (by omega) (by rw[Int.fdiv_eq_ediv_of_nonneg i (by omega)];exact q) (.inl (PyProof.noPylong_small (by omega)))
theorem bw:OpR X (MA .Mod) (rI (fun _ j=>0<j) fun i j=>.int (i%j)):=opI fun i j _ _ _ _ _ hc q=>by
 have h1:(0:Int)<j:=hc;exact mod_int' (by omega) (by rw[Int.fmod_eq_emod_of_nonneg i (by omega)];exact q)
theorem unI{f:Value->Sem Value}{g:Int->Int}
  (rule:∀(i:Int)(t:Tok)(s:Shared)(Q:Value->Shared->Prop)(E:Value->Shared->Prop),Q (.int (g i) s.toks) { s with toks:=s.toks+1 }->wpAny (model X.prog X.w) X.A (f (.int i t)) Q E s):
  UnR X f (rU fun i=>.int (g i)):=by
 intro pins s σ H x v Q I rx h;obtain⟨i,rfl,q⟩:=h;obtain⟨t,rfl⟩:=rx;exact rule i t s _ _ ⟨.int (g i),H,I.tok _,⟨_,rfl⟩,q⟩
theorem xt:UnR X (unaryOp .USub) (rU fun i=>.int (-i)):=unI fun _ _ _ _ _ q=>neg_int q
end
noncomputable def Hu:V->V->Bool
 | .non,.non=>true | .non,.int _=>true | .int _,.non=>true | .non,.bl _=>true | .bl _,.non=>true | .non,.str _=>true | .str _,.non=>true
 | .int _,.int _=>true | .bl _,.bl _=>true | .str _,.str _=>true | .byt _,.byt _=>true
 | .int _,.str _=>true | .str _,.int _=>true | .bl _,.str _=>true | .str _,.bl _=>true
 |_,_=>false
noncomputable def rEq:R2:=fun x y H Q=>Hu x y=true/\Q (.bl (decide (x=y))) H
noncomputable def rNe:R2:=fun x y H Q=>Hu x y=true/\Q (.bl (!decide (x=y))) H
theorem zQ{i j:Int}:decide (V.int i=V.int j)=(i==j):=by
 rw[MY];simp
theorem Ch{i j:Bool}:decide (V.bl i=V.bl j)=(i==j):=by
 rw[MY];simp
theorem zR{i j:Str}:decide (V.str i=V.str j)=(i==j):=by
 rw[MY];simp
theorem zT{i j:Array UInt8}:decide (V.byt i=V.byt j)=(i.toList==j.toList):=by
 rw[MY];cases i;cases j;simp
section
variable{X:Cx}{a b c:Expr}{ta tb tc:TE}{pos:Pos}
theorem bD{pins:List (Addr×Obj)}{σ:St}{H:Hp}{s:Shared}{Q:VK}{k k':Bool}(I:Inv X pins σ H s)(q:Q (.bl k) H)(e:k=k'):EP X pins σ Q (.bool k') s:=by
 subst e;exact⟨.bl k,H,I,rfl,q⟩
theorem bU:OpR X (Lk .Eq) rEq:=by
 intro pins s σ H x y v u Q I rx ry h;obtain⟨hs,q⟩:=h;cases x with
 |non=>
  cases rx;cases y with
  |non=>cases ry;exact PySem.EqNone.eq_none_none (bD I q (by simp))
  |bl j=>cases ry;exact PySem.EqNone.eq_none_bool (bD I q (by simp))
  |int j=>obtain⟨t',rfl⟩:=ry;exact PySem.EqNone.eq_none_int (bD I q (by simp))
  |str j=>obtain⟨t',rfl⟩:=ry;exact PySem.EqNone.eq_none_str (bD I q (by simp))
  |_=>exact absurd (show false=true from hs) JQ
 |bl i=>
  cases rx;cases y with
  |non=>cases ry;exact PySem.EqNone.eq_bool_none (bD I q (by simp))
  |bl j=>cases ry;exact eq_bool (bD I q Ch)
  |str j=>obtain⟨t',rfl⟩:=ry;exact PySem.EqMixed.eq_bool_str (bD I q (by simp))
  |_=>exact absurd (show false=true from hs) JQ
 |int i=>
  obtain⟨t,rfl⟩:=rx;cases y with
  |non=>cases ry;exact PySem.EqNone.eq_int_none (bD I q (by simp))
  |int j=>obtain⟨t',rfl⟩:=ry;exact eq_int (bD I q zQ)
  |str j=>obtain⟨t',rfl⟩:=ry;exact PySem.EqMixed.eq_int_str (bD I q (by simp))
  |_=>exact absurd (show false=true from hs) JQ
 |str i=>
  obtain⟨t,rfl⟩:=rx;cases y with
  |non=>cases ry;exact PySem.EqNone.eq_str_none (bD I q (by simp))
  |bl j=>cases ry;exact PySem.EqMixed.eq_str_bool (bD I q (by simp))
  |int j=>obtain⟨t',rfl⟩:=ry;exact PySem.EqMixed.eq_str_int (bD I q (by simp))
  |str j=>obtain⟨t',rfl⟩:=ry;exact eq_str (bD I q zR)
  |_=>exact absurd (show false=true from hs) JQ
 |byt i=>
  obtain⟨t,rfl⟩:=rx;cases y with
  |byt j=>obtain⟨t',rfl⟩:=ry;exact PySem.W.eq_bytes (bD I q zT)
  |_=>exact absurd (show false=true from hs) JQ
 |_=>cases y<;>exact absurd (show false=true from hs) JQ
theorem AD:OpR X (Lk .NotEq) rNe:=by
 intro pins s σ H x y v u Q I rx ry h;obtain⟨hs,q⟩:=h;cases x with
 |non=>
  cases rx;cases y with
  |non=>cases ry;exact PySem.EqNone.ne_none_none (bD I q (by simp))
  |bl j=>cases ry;exact PySem.EqNone.ne_none_bool (bD I q (by simp))
  |int j=>obtain⟨t',rfl⟩:=ry;exact PySem.EqNone.ne_none_int (bD I q (by simp))
  |str j=>obtain⟨t',rfl⟩:=ry;exact PySem.EqNone.ne_none_str (bD I q (by simp))
  |_=>exact absurd (show false=true from hs) JQ
 |bl i=>
  cases rx;cases y with
  |non=>cases ry;exact PySem.EqNone.ne_bool_none (bD I q (by simp))
  |bl j=>cases ry;exact ne_bool (bD I q (congrArg not Ch))
  |str j=>obtain⟨t',rfl⟩:=ry;exact PySem.EqMixed.ne_bool_str (bD I q (by simp))
  |_=>exact absurd (show false=true from hs) JQ
 |int i=>
  obtain⟨t,rfl⟩:=rx;cases y with
  |non=>cases ry;exact PySem.EqNone.ne_int_none (bD I q (by simp))
  |int j=>obtain⟨t',rfl⟩:=ry;exact ne_int (bD I q (congrArg not zQ))
  |str j=>obtain⟨t',rfl⟩:=ry;exact PySem.EqMixed.ne_int_str (bD I q (by simp))
  |_=>exact absurd (show false=true from hs) JQ
 |str i=>
  obtain⟨t,rfl⟩:=rx;cases y with
  |non=>cases ry;exact PySem.EqNone.ne_str_none (bD I q (by simp))
  |bl j=>cases ry;exact PySem.EqMixed.ne_str_bool (bD I q (by simp))
  |int j=>obtain⟨t',rfl⟩:=ry;exact PySem.EqMixed.ne_str_int (bD I q (by simp))
  |str j=>obtain⟨t',rfl⟩:=ry;exact ne_str (bD I q (congrArg not zR))
  |_=>exact absurd (show false=true from hs) JQ
 |byt i=>
  obtain⟨t,rfl⟩:=rx;cases y with
  |byt j=>obtain⟨t',rfl⟩:=ry;exact PySem.W.ne_bytes (bD I q (congrArg not zT))
  |_=>exact absurd (show false=true from hs) JQ
 |_=>cases y<;>exact absurd (show false=true from hs) JQ
theorem pR:OpR X (Lk .Lt) (rI0 fun i j=>.bl (decide (i<j))):=DV fun _ _ _ _ _ _ _ q=>lt_int q
theorem wZ:OpR X (Lk .LtE) (rI0 fun i j=>.bl (decide (i<=j))):=DV fun _ _ _ _ _ _ _ q=>le_int q
theorem kD:OpR X (Lk .Gt) (rI0 fun i j=>.bl (decide (j<i))):=DV fun _ _ _ _ _ _ _ q=>gt_int q
theorem aJ(b:Expr){op:CmpOp}(h:op≠.In:=by decide)(h2:op≠.NotIn:=by decide):O1 op b=false:=by
 have e1:(op==CmpOp.In)=false:=by cases op<;>first|rfl|exact absurd rfl h
 have e2:(op==CmpOp.NotIn)=false:=by cases op<;>first|rfl|exact absurd rfl h2
 cases b<;>simp[O1,e1,e2]
theorem d7{op:CmpOp}{r:R2}(ho:OpR X (Lk op) r)(ha:PE X a ta)(hb:PE X b tb)(hm:O1 op b=false):PE X (.Compare a [op] [b] pos) (tOp r ta tb):=by
 intro pins s σ H Q I h;exact wpAny_Compare1 (DU ha hb I h fun v u s2 x y H2 I2 rx ry q=>ho pins s2 σ H2 x y v u Q I2 rx ry q) hm
noncomputable def aU(t:TE):TT:=fun σ H Q=>t σ H fun x H'=>∃k,x=.bl k/\Q k H'
theorem aG{op:CmpOp}{r:R2}(ho:OpR X (Lk op) r)(ha:PE X a ta)(hb:PE X b tb)(hm:O1 op b=false):PT X (.Compare a [op] [b] pos) (aU (tOp r ta tb)):=by
 intro pins s σ H Q I h;refine wpAny_isTrue_Compare1 (thn (ha pins s σ H _ I h) fun v s1 ⟨x,H1,I1,r1,q1⟩=>thn (hb pins s1 σ H1 _ I1 q1) fun u s2 ⟨y,H2,I2,r2,q2⟩=>
  thn (ho pins s2 σ H2 x y v u _ I2 r1 r2 q2) fun c s3 ⟨z,H3,I3,r3,k,e,q3⟩=>?_) hm
 subst e;cases r3;exact LX ⟨H3,I3,q3⟩
noncomputable def Ci(r r':R2)(ta tb tc:TE):TE:=fun σ H Q=>ta σ H fun x H1=>tb σ H1 fun y H2=>r x y H2 fun z H3=>∃k,z=.bl k/\
 (if k=true then tc σ H3 fun w' H4=>r' y w' H4 Q else Q (.bl false) H3)
theorem DX{op op':CmpOp}{r r':R2}(ho:OpR X (Lk op) r)(ho':OpR X (Lk op') r')(ha:PE X a ta)(hb:PE X b tb)(hc:PE X c tc)
  (hm:lastMarks [op,op'] [b,c]=false:=by with_unfolding_all rfl):PE X (.Compare a [op,op'] [b,c] pos) (Ci r r' ta tb tc):=by
 intro pins s σ H Q I h;refine Compare_chain (thn (ha pins s σ H _ I h) fun v s1 ⟨x,H1,I1,r1,q1⟩=>chain_link (thn (hb pins s1 σ H1 _ I1 q1) fun u s2 ⟨y,H2,I2,r2,q2⟩=>
  thn (ho pins s2 σ H2 x y v u _ I2 r1 r2 q2) fun d s3 ⟨z,H3,I3,r3,k,e,q3⟩=>?_)) hm
 subst e;cases r3;refine LX ?_;cases k with
 |false=>exact ite_ff ⟨.bl false,H3,I3,rfl,q3⟩
 |true=>exact ite_tt (chain_last (thn (hc pins s3 σ H3 _ I3 q3) fun w' s4 ⟨z',H4,I4,r4,q4⟩=>ho' pins s4 σ H4 y z' u w' Q I4 r2 r4 q4))
theorem rS:(JP:Nat)<2^63:=by rw[JJ];decide
theorem lL{x:V}{us:List Value}(r:aL [x] us):∃u,us=[u]/\aO x u:=by
 cases r with
 |cons r1 r2=>cases r2;exact⟨_,rfl,r1⟩
theorem FD{x y:V}{us:List Value}(r:aL [x,y] us):∃u w',us=[u,w']/\aO x u/\aO y w':=by
 cases r with
 |cons r1 r2=>
  cases r2 with
  |cons r3 r4=>cases r4;exact⟨_,_,rfl,r1,r3⟩
theorem Cj(hc:X.calm=true):cU X (.builtin "max") (fun xs H Q=>∃i j,xs=[.int i,.int j]/\Q (.int (if j>i then j else i)) H):=by
 intro pins s σ H xs us Q I r h;obtain⟨i,j,rfl,q⟩:=h;obtain⟨u,w',rfl,⟨t,rfl⟩,⟨t',rfl⟩⟩:=FD r;refine max_two_ints (I.ok.hd hc) fun h' tk k=>⟨_,H,I.kept k,?_,q⟩;by_cases hj:j>i
 ·rw[if_pos hj,if_pos hj];exact⟨_,rfl⟩
 ·rw[if_neg hj,if_neg hj];exact⟨_,rfl⟩
theorem vH(hc:X.calm=true):cU X (.builtin "min") (fun xs H Q=>∃i j,xs=[.int i,.int j]/\Q (.int (if j<i then j else i)) H):=by
 intro pins s σ H xs us Q I r h;obtain⟨i,j,rfl,q⟩:=h;obtain⟨u,w',rfl,⟨t,rfl⟩,⟨t',rfl⟩⟩:=FD r;refine min_two_ints (I.ok.hd hc) fun h' tk k=>⟨_,H,I.kept k,?_,q⟩;by_cases hj:j<i
 ·rw[if_pos hj,if_pos hj];exact⟨_,rfl⟩
 ·rw[if_neg hj,if_neg hj];exact⟨_,rfl⟩
theorem vJ:cU X (.type "int") (fun xs H Q=>(∃i,xs=[.int i]/\Q (.int i) H)\/∃k,xs=[.bl k]/\Q (.int (if k then 1 else 0)) H):=by
 intro pins s σ H xs us Q I r h;rcases h with⟨i,rfl,q⟩|⟨k,rfl,q⟩
 ·obtain⟨u,rfl,t,rfl⟩:=lL r
  exact call_int_int ⟨.int i,H,I,⟨_,rfl⟩,q⟩
 ·obtain⟨u,rfl,r1⟩:=lL r
  cases r1;exact call_int_bool ⟨.int (if k then 1 else 0),H,I.tok _,⟨_,rfl⟩,q⟩
end
end L2
namespace L2
open PySem PySem.Spec PyProof.Rows
structure qZ(h:Heap)(x dx C:Addr)(mA:Str->Option Value):Prop where
 obj:h.get? x=some (Mf C dx)
 ns:h.Ns1 dx mA
 ne:dx≠x
theorem Ck{h:Heap}{dx:Addr}{mA:Str->Option Value}(n:h.Ns1 dx mA):∃od,h.get? dx=some od/\∀name,OC name od=some (mA name):=by
 obtain⟨o,es,ep,ho,hd,hk,_,hm⟩:=n;refine⟨o,ho,fun name=>?_⟩;have e:=hm name;unfold nsFind findBy at e;rw[<-Array.find?_toList]at e;unfold OC;rw[hd];dsimp only
 split
 ·rename_i y q
  rw[q]at e;exact congrArg some e
 ·rename_i q
  rw[q]at e;have a:es.toList.any (·.refKey)=false:=by
   rw[Rl];intro y hy;obtain⟨z,t,hkey⟩:=hk y (Array.mem_toList_iff.mp hy);simp[Q5.refKey,hkey]
  have a':¬es.toList.any (·.refKey)=true:=by rw[a];exact JQ
  rw[if_neg a'];exact congrArg some e
theorem qZ.look{h:Heap}{x dx C:Addr}{mA:Str->Option Value}(I:qZ h x dx C mA):∃od,PySem.W.InstAt h x (Mf C dx) C (some od)/\∀name,OC name od=some (mA name):=
 let⟨od,ho,hl⟩:=Ck I.ns
 ⟨od,⟨I.obj,rfl,rfl,ho⟩,hl⟩
section
variable{prog:Program}{w:World}{A:Around}{E:Value->Shared->Prop}{s:Shared}{K:Fg}{x dx C f:Addr}{mA:Str->Option Value}{name:Str}{v:Value}
theorem Ga{expr:Bool}{Q:Value->Shared->Prop}(X:K.In s.heap)(I:qZ s.heap x dx C mA)(hg:N3 K C name=true)(hh:Pd K C=true)
  (ha:LV K (.ref C) name=some none) (hv:mA name=some v) (hv':RO v=true) (h:Q v { s with toks:=s.toks+1 }):
  wpAny (model prog w) A (getAttr (.ref x) name expr) Q E s:=by
 obtain⟨od,J,hl⟩:=I.look;exact PySem.W.get_value X J (Oy hg).1 (PySem.W.findObj_own hh ha rfl (by rw[hl,hv])) hv' h
theorem DY{pl:Sem Bool}{Q:Value×List Value->Shared->Prop}(X:K.In s.heap)(I:qZ s.heap x dx C mA)(hg:N3 K C name=true)
  (hf:LV K (.ref C) name=some (some (.ref f))) (ht:Q6 K (.ref f)=true) (hv:mA name=none) (h:Q (.ref f,[.ref x]) s):
  wpAny (model prog w) A (OO (.ref x) name pl) Q E s:=by
 obtain⟨od,J,hl⟩:=I.look;exact PySem.W.method_fn X J (Oy hg).1 (Oy hg).2 hf (beq_iff_eq.mp ht) (by show(OC name od).map (·.isSome)=some false;rw[hl,hv];rfl) h
theorem Gb{ns:List Str}{Q:Unit->Shared->Prop}(X:K.In s.heap)(I:qZ s.heap x dx C mA)
  (hs:LV K (.ref C) "__setattr__"=some (some (.builtin "object.__setattr__"))) (hp:Rm K C=true) (ht:PU K C name=some none) (hh:Pd K C=true)
  (hw:Pt mA ns) (hsz:ns.length<=JP)
  (h:∀h',qZ h' x dx C (fun y=>if y=name then some v else mA y)->J0 dx s.heap h'->Q () { s with heap:=h',toks:=s.toks+2 }):
  wpAny (model prog w) A (setAttr (.ref x) name v) Q E s:=by
 obtain⟨od,J,hl⟩:=I.look;refine PySem.W.set_plain X J hs (PySem.W.osa_open (s:={ s with toks:=s.toks+1 }) (r:=none) X J hp ht fun b=>?_);obtain⟨cd,hc,hd'⟩:=PySem.W.any_some hh;have hx:s.heap.get? x=some ⟨.ref C,some dx,.plain,#[]⟩:=I.obj;refine Jz (JC (Jz (Jz (wpAny_loadPart hx (Jz (PySem.W.Looks.here (s:={ s with toks:=s.toks+1 }) (PySem.W.looks_clsIn X hc) ?_))))));rw[hd'];refine JC (a:=some dx) (Jz (JC (Jz ?_)));refine wpAny_nsSet1 (s:={ s with toks:=s.toks+1 }) I.ns fun h' hn2 hs2=>?_;obtain⟨oD,esD,epD,hoD,hdD,hcD⟩:=hn2.count (Pt.cons name v hw);refine Jz (wpAny_lookBehind hoD (by rw[hdD];exact pastItsLine_dict (Kc hcD (by rw[Kd];omega))) ?_);exact JC (h _ ⟨(hs2.2 _ (Lg I.ne)).trans I.obj,hn2,I.ne⟩ hs2)
theorem DZ{R:Result->Shared->Prop}{vs:List Value}{kw:List (Str×Value)}(X:K.In s.heap)(hm:Sg K C=true)
  (hi:LV K (.ref C) "__init__"=some (some (.ref f))) (hf:PySem.W.typeIn K (.ref f)=some (.type "function"))
  (h:codeAny (model prog w) (A.under (.builtin "type.__call__" ⟨.ref C::vs,kw⟩)) (.call (.ref f) ⟨.ref (s.heap.objs.size+1)::vs,kw⟩) (PySem.W.InitBack (s.heap.objs.size+1) R)
   { s with heap:=(s.heap.push LD).push (Mf C s.heap.objs.size) }):
  codeAny (model prog w) A (.call (.ref C) ⟨vs,kw⟩) R s:=by
 obtain⟨hh,g,d,t,os⟩:=s;exact PySem.W.make_core (PySem.W.makes_of X hm) (PySem.W.looks_findIn X hi) (fun self=>PySem.W.bind_fn X self hf) (.inl rfl) h
end
noncomputable def fo(f:Str)(v:V):List (Str×V)->List (Str×V)
 | []=>[(f,v)]
 | (g,x)::r=>if g=f then(g,v)::r else(g,x)::fo f v r
theorem qH(f g:Str)(v:V):∀fs:List (Str×V),(fo f v fs).lookup g=if g=f then some v else fs.lookup g
 | []=>by
  show M7 g [(f,v)]=_;by_cases h:g=f
  ·have hb:(g==f)=true:=beq_iff_eq.mpr h
   simp only[M7,hb,if_pos h]
  ·have hb:(g==f)=false:=beq_eq_false_iff_ne.mpr h
   simp only[M7,hb,if_neg h]
 | (k,x)::r=>by
  have ih:=qH f g v r;rw[show fo f v ((k,x)::r)=(if k=f then(k,v)::r else(k,x)::fo f v r)from rfl];by_cases hk:k=f
  ·rw[if_pos hk]
   by_cases h:g=k
   ·have hb:(g==k)=true:=beq_iff_eq.mpr h
    simp only[M7,hb,if_pos (h.trans hk)]
   ·have hb:(g==k)=false:=beq_eq_false_iff_ne.mpr h
    simp only[M7,hb,if_neg (fun e:g=f=>h (e.trans hk.symm))]
  ·rw[if_neg hk]
   by_cases h:g=k
   ·have hb:(g==k)=true:=beq_iff_eq.mpr h
    simp only[M7,hb,if_neg (fun e:g=f=>hk (h.symm.trans e))]
   ·have hb:(g==k)=false:=beq_eq_false_iff_ne.mpr h
    simp only[M7,hb];exact ih
theorem oM(f:Str)(v:V):∀fs:List (Str×V),f∈(fo f v fs).map (·.1)/\∀g,g∈fs.map (·.1)->g∈(fo f v fs).map (·.1)
 | []=>⟨by simp[fo],fun g h=>by simp at h⟩
 | (k,x)::r=>by
  obtain⟨i1,i2⟩:=oM f v r;rw[show fo f v ((k,x)::r)=(if k=f then(k,v)::r else(k,x)::fo f v r)from rfl];by_cases hk:k=f
  ·rw[if_pos hk]
   subst hk;exact⟨by simp,fun g h=>by simpa using h⟩
  ·rw[if_neg hk]
   refine⟨?_,fun g h=>?_⟩
   ·rw[JZ]
    exact JO _ i1
   ·rw[JZ]at h ⊢
    rcases JH.mp h with e|e
    ·exact JH.mpr (.inl e)
    ·exact JO _ (i2 g e)
theorem qI(f:Str)(v:V):∀fs:List (Str×V),(fo f v fs).length<=fs.length+1
 | []=>by simp[fo]
 | (k,x)::r=>by
  have ih:=qI f v r;rw[show fo f v ((k,x)::r)=(if k=f then(k,v)::r else(k,x)::fo f v r)from rfl];by_cases hk:k=f
  ·rw[if_pos hk,Kd,Kd];omega
  ·rw[if_neg hk,Kd,Kd];omega
theorem gh.some_of{v:V}{o:Option Value}(r:gh (some v) o):∃u,o=some u/\aO v u:=by
 cases o with
 |none=>exact(show False from r).elim
 |some u=>exact⟨u,rfl,r⟩
theorem gh.none_of{o:Option Value}(r:gh none o):o=none:=by
 cases o with
 |none=>rfl
 |some u=>exact(show False from r).elim
theorem Cl{v:V}{u:Value}(r:aO v u):RO u=true:=by
 cases v with
 |non=>cases (show u=K8 from r);rfl
 |bl b=>cases (show u=KP b from r);rfl
 |int i=>obtain⟨t,e⟩:=(show∃t,u=MJ i t from r);cases e;rfl
 |str x=>obtain⟨t,e⟩:=(show∃t,u=PR x t from r);cases e;rfl
 |byt b=>obtain⟨t,e⟩:=(show∃t,u=Value.bytes b t from r);cases e;rfl
 |flt b=>obtain⟨t,e⟩:=(show∃t,u=RE b t from r);cases e;rfl
 |ref a=>cases (show u=J8 a from r);rfl
 |ty n=>cases (show u=K9 n from r);rfl
section
variable{P:Program}{w:World}{H H':Hp}{h h':Heap}{a C dx:Addr}{fs fs':List (Str×V)}
theorem pS(hok:HOk P w H h)(e:H a=some (.ins C dx fs)):∃mA,qZ h a dx C mA/\(∀f,gh (fs.lookup f) (mA f))/\Pt mA (fs.map (·.1))/\fs.length<=1000/\H dx=some (.own a):=by
 obtain⟨d,z,ne,ob,mA,n,r,q⟩:=(show bI P w H h a (.ins C dx fs)from hok a _ e);exact⟨mA,⟨ob,n,ne⟩,r,q,z,d⟩
end
structure Cls(K:Fg)(C:Addr):Prop where
 pg:N3 K C SF=true
 hd:Pd K C=true
 po:Rm K C=true
 sa:LV K (.ref C) "__setattr__"=some (some (.builtin "object.__setattr__"))
theorem Cls.get{K:Fg}{C:Addr}(c:Cls K C)(f:Str):N3 K C f=true:=c.pg
noncomputable def dN(K:Fg)(C:Addr)(f:Str):Prop:=LV K (.ref C) f=some none
theorem dN.taker{K:Fg}{C:Addr}{f:Str}(n:dN K C f):PU K C f=some none:=by
 unfold PU;rw[show LV K (.ref C) f=some none from n];rfl
structure xu(K:Fg)(C:Addr)(m:Str)(f:Addr):Prop where
 at_:LV K (.ref C) m=some (some (.ref f))
 fn:Q6 K (.ref f)=true
 kp:Nh K (.ref f)=true
section
variable{X:Cx}{pins:List (Addr×Obj)}{σ:St}{H:Hp}{s:Shared}{a C dx:Addr}{fs:List (Str×V)}{f:Str}{v:V}{A:Around}{E:Value->Shared->Prop}
theorem AE{b:Bool}{Q:Value->Shared->Prop}(I:Inv X pins σ H s)(e:H a=some (.ins C dx fs))(c:Cls X.K C)(n:dN X.K C f)(l:fs.lookup f=some v)
  (h:∀u s',Inv X pins σ H s'->aO v u->Q u s'):wpAny (model X.prog X.w) A (getAttr (.ref a) f b) Q E s:=by
 obtain⟨mA,O,r,_,_,_⟩:=pS I.hok e;obtain⟨u,hu,ru⟩:=gh.some_of (v:=v) (o:=mA f) (by rw[<-l];exact r f);exact Ga I.kIn O (c.get f) c.hd n hu (Cl ru) (h u _ (I.tok _) ru)
theorem rT{m:Str}{g:Addr}{pl:Sem Bool}{Q:Value×List Value->Shared->Prop}(I:Inv X pins σ H s)(e:H a=some (.ins C dx fs))(c:Cls X.K C)(k:xu X.K C m g)(l:fs.lookup m=none)
  (h:Q (.ref g,[.ref a]) s):wpAny (model X.prog X.w) A (OO (.ref a) m pl) Q E s:=by
 obtain⟨mA,O,r,_,_,_⟩:=pS I.hok e;have hn:mA m=none:=gh.none_of (by rw[<-l];exact r m);exact DY I.kIn O (c.get m) k.at_ k.fn hn h
theorem AF{y:V}{u:Value}{Q:Unit->Shared->Prop}(I:Inv X pins σ H s)(e:H a=some (.ins C dx fs))(c:Cls X.K C)(n:dN X.K C f)(hl:fs.length<1000)(ry:aO y u)
  (h:∀s',Inv X pins σ (upd H a (.ins C dx (fo f y fs))) s'->Q () s'):wpAny (model X.prog X.w) A (setAttr (.ref a) f u) Q E s:=by
 obtain⟨mA,O,r,wi,_,ho⟩:=pS I.hok e;have hz:(fs.map (·.1)).length<=JP:=by rw[JB,JJ];omega
 refine Gb I.kIn O c.sa c.po n.taker c.hd wi hz fun h' O' sb=>h _ ?_;have hd:∃o,h'.get? dx=some o:=let⟨o,_,_,e',_⟩:=O'.ns;⟨o,e'⟩;refine I.write (x:=a) (e:=dx) (by rw[e];exact Mr) (.inr ho) (fun b q hb z=>(sb.2 b hb).trans z) hd ?_;refine⟨by rw[aR O.ne];exact ho,?_,O.ne,O'.obj,_,O'.ns,fun g=>?_,fun g hg=>?_⟩
 ·have:=qI f y fs;omega
 ·show gh ((fo f y fs).lookup g) (if g=f then some u else mA g)
  rw[qH];by_cases q:g=f
  ·rw[if_pos q,if_pos q];exact ry
  ·rw[if_neg q,if_neg q];exact r g
 ·by_cases q:g=f
  ·rw[q];exact(oM f y fs).1
  ·refine(oM f y fs).2 g (wi g fun z=>hg ?_)
   show(if g=f then some u else mA g)=none;rw[if_neg q];exact z
theorem Inv.made(I:Inv X pins σ H s):Inv X pins σ (upd (upd H s.heap.objs.size (.own (s.heap.objs.size+1))) (s.heap.objs.size+1) (.ins C s.heap.objs.size []))
  { s with heap:=(s.heap.push LD).push (Mf C s.heap.objs.size) }:=by
 have e1:(s.heap.push LD).get? s.heap.objs.size=some LD:=JM s.heap rfl;have e2:((s.heap.push LD).push (Mf C s.heap.objs.size)).get? (s.heap.objs.size+1)=some (Mf C s.heap.objs.size):=by
  have:=JM (s.heap.push LD) (o:=Mf C s.heap.objs.size) rfl
  rwa [Kk]at this
 have e3:(s.heap.push LD).Ns s.heap.objs.size (fun _=>none):=⟨LD,#[],_,e1,rfl,(fun e he=>absurd he (by simp)),fun _=>rfl⟩;have I1:=I.laid (a:=s.heap.objs.size) (o:=.own (s.heap.objs.size+1)) (h':=s.heap.push LD) (t':=s.toks) (fun b u q=>JA _ q) (JF _) ⟨_,e1⟩;refine I1.laid (a:=s.heap.objs.size+1) (o:=.ins C s.heap.objs.size []) (t':=s.toks) (fun b u q=>JA _ q) (MM (Kk _ _)) ?_;have ne:s.heap.objs.size≠s.heap.objs.size+1:=Kg (Lp _);refine⟨by rw[aR ne,az],Ks _,ne,e2,fun _=>none,(Heap.Ns1.of_empty e3).at fun o q=>JA _ q,fun _=>Mr,fun y hy=>absurd rfl hy⟩
theorem Gc{prog:Program}{w:World}{env:Env}{e:Expr}{f:Str}{pos:Pos}{s:Shared}{Q:Value->Shared->Prop}(hb:MW e f env (eval e env)=eval e env)
  (h:wpAny (model prog w) A (eval e env) (fun o s₁=>wpAny (model prog w) A (getAttr o f true) Q E s₁) E s):wpAny (model prog w) A (eval (.Attribute e f pos) env) Q E s:=
 Attribute_any_ h (by rw[arm_eval_Attribute,hb])
end
noncomputable def cF(K:Fg)(ta:TE)(f:Str):TE:=fun σ H Q=>ta σ H fun x H1=>∃a C dx fs v,x=.ref a/\H1 a=some (.ins C dx fs)/\Cls K C/\dN K C f/\fs.lookup f=some v/\Q v H1
noncomputable def mq(K:Fg)(ta tv:TE)(f:Str):TS:=fun D σ H=>tv σ H fun y H1=>ta σ H1 fun x H2=>∃a C dx fs,x=.ref a/\H2 a=some (.ins C dx fs)/\Cls K C/\dN K C f/\fs.length<1000/\
 D.nx σ (upd H2 a (.ins C dx (fo f y fs)))
section
variable{X:Cx}{o e value:Expr}{f:Str}{pos pos' tpos:Pos}{ta tv:TE}
theorem bL(he:PE X e ta)(hb:MW e f X.env (eval e X.env)=eval e X.env):PE X (.Attribute e f pos) (cF X.K ta f):=by
 intro pins s σ H Q I h;refine Gc hb (thn (he pins s σ H _ I h) fun u s1 ⟨x,H1,I1,rx,a,C,dx,fs,v,ex,ea,c,n,l,q⟩=>?_);subst ex;obtain rfl:u=J8 a:=rx;exact AE I1 ea c n l fun u' s2 I2 ru=>⟨v,H1,I2,ru,q⟩
theorem j0(ha:PE X o ta)(hv:PE X value tv)(hs:OM value (some (.Attribute o f pos')) pos.line X.env=pure false):PS X (.Assign [.Attribute o f pos'] value pos) (mq X.K ta tv f):=by
 intro pins s σ H D I h;refine plainObj_wpAny_Assign_Attribute (thn (hv pins s σ H _ I h) fun u s1 ⟨y,H1,I1,ry,q⟩=>thn (ha pins s1 σ H1 _ I1 q) fun ov s2 ⟨x,H2,I2,rx,a,C,dx,fs,ex,ea,c,n,l,q2⟩=>?_) hs;subst ex;obtain rfl:ov=J8 a:=rx;exact AF I2 ea c n l ry fun s3 I3=>⟨σ,_,I3,q2⟩
end
section
variable{X:Cx}{pins:List (Addr×Obj)}{σ:St}{H:Hp}{s:Shared}{A:Around}{E:Value->Shared->Prop}{Q:Value->Shared->Prop}{c:Value}{b:Bool}
inductive eI(K:Fg)(H:Hp):V->Value->Prop where
 |non:eI K H .non (.type "NoneType")
 |bl (x:Bool):eI K H (.bl x) (.type "bool")
 |int (i:Int):eI K H (.int i) (.type "int")
 |str (x:Str):eI K H (.str x) (.type "str")
 |flt (x:UInt64):eI K H (.flt x) (.type "float")
 |lst {a:Addr} {xs:List V} (e:H a=some (.lst xs)):eI K H (.ref a) (.type "list")
 |frz {a:Addr} {o:Obj} {xs:List V} (e:H a=some (.frz o (.lst xs))):eI K H (.ref a) (.type "list")
 |tup {a:Addr} {xs:List V} (e:H a=some (.tup xs)):eI K H (.ref a) (.type "tuple")
 |dK {a:Addr} {kvs:List (Key×V)} (e:H a=some (.dK kvs)):eI K H (.ref a) (.type "dict")
 |dT {a:Addr} {kvs:List (List Key×V)} (e:H a=some (.dT kvs)):eI K H (.ref a) (.type "dict")
 |ins {a C dx:Addr} {fs:List (Str×V)} (e:H a=some (.ins C dx fs)) (cl:Cls K C) (ha:LV K (.ref C) "__class__"=some (some (.builtin "object.__class__")))
   (hn:PySem.W.specialIn K (.builtin "object.__class__") "__get__"=some (some (.builtin "getset_descriptor.__get__"))) (htk:PySem.W.takesIn K (.builtin "object.__class__")=some true)
   (hm:PySem.W.mroIn K C (.type "object")=some true):eI K H (.ref a) (.ref C)
theorem Cm{x:V}{u t:Value}(I:Inv X pins σ H s)(rx:aO x u)(ty:eI X.K H x t)(e:Ku X.K t c=some b)(h:∀tk,Q (.bool b) { s with toks:=tk }):
  wpAny (model X.prog X.w) A (call (.builtin "isinstance") [u,c]) Q E s:=by
 cases ty with
 |non=>cases (show u=K8 from rx);exact Lw PySem.W.kitx_none I.kIn Mr e (fun z=>nomatch z) h
 |bl y=>cases (show u=KP y from rx);exact Lw PySem.W.kitx_bool I.kIn Mr e (fun z=>nomatch z) h
 |int i=>obtain⟨t,q⟩:=(show∃t,u=MJ i t from rx);cases q;exact Lw PySem.W.kitx_int I.kIn Mr e (fun z=>nomatch z) h
 |str y=>obtain⟨t,q⟩:=(show∃t,u=PR y t from rx);cases q;exact Lw PySem.W.kitx_str I.kIn Mr e (fun z=>nomatch z) h
 |flt y=>obtain⟨t,q⟩:=(show∃t,u=RE y t from rx);cases q;exact Lw PySem.W.kitx_float I.kIn Mr e (fun z=>nomatch z) h
 | @lst a xs ea=>
  cases (show u=J8 a from rx);obtain⟨_,_,n,_,h1⟩:=(show bI X.prog X.w H s.heap a (.lst xs)from I.hok a _ ea);exact Lw Rn I.kIn ⟨_,h1,rfl⟩ e (fun z=>nomatch z) h
 | @frz a ob xs ea=>
  cases (show u=J8 a from rx);obtain⟨_,_,_,n,_,h1⟩:=(show bI X.prog X.w H s.heap a (.frz ob (.lst xs))from I.hok a _ ea);exact Lw Rn I.kIn ⟨_,h1,rfl⟩ e (fun z=>nomatch z) h
 | @tup a xs ea=>
  cases (show u=J8 a from rx);obtain⟨_,_,_,p⟩:=(show bI X.prog X.w H s.heap a (.tup xs)from I.hok a _ ea);obtain⟨o,h1,h2,_⟩:=p;exact Lw PySem.W.kitx_tuple I.kIn ⟨o,h1,h2⟩ e (fun z=>nomatch z) h
 | @dK a kvs ea=>
  cases (show u=J8 a from rx);obtain⟨_,_,vs,_,p⟩:=(show bI X.prog X.w H s.heap a (.dK kvs)from I.hok a _ ea);obtain⟨o,es,ep,h1,h2,_⟩:=p;exact Lw Ro I.kIn ⟨o,h1,h2.1⟩ e (fun z=>nomatch z) h
 | @dT a kvs ea=>
  cases (show u=J8 a from rx);obtain⟨_,_,xs,_,o,es,ep,h1,h2,_⟩:=(show bI X.prog X.w H s.heap a (.dT kvs)from I.hok a _ ea);exact Lw Ro I.kIn ⟨o,h1,h2.1⟩ e (fun z=>nomatch z) h
 | @ins a C dx fs ea cl ha hn htk hm=>
  cases (show u=J8 a from rx);obtain⟨mA,O,_⟩:=pS I.hok ea;obtain⟨od,J,_⟩:=O.look;exact Lw (PySem.W.kitx_own (cl.get _) cl.hd ha hn htk hm) I.kIn J e (fun z=>nomatch z) h
end
end L2
namespace L2
open PySem PySem.Spec PyProof.Rows
structure cc(k:Nat)(A:Around):Prop where
 hd:A.handled=none
 dp:A.depth+3*k+5<recursionLimit
 un:A.units+16*k+200<cLine
theorem cc.mono{j k:Nat}{A:Around}(r:cc k A)(h:j<=k):cc j A:=⟨r.hd,by have:=r.dp;omega,by have:=r.un;omega⟩
theorem cc.deeper{k:Nat}{A:Around}(r:cc (k+1) A)(env:Env):cc k (A.deeper env):=
 ⟨r.hd,by have:=r.dp;show A.depth+1+3*k+5<_;omega,by have:=r.un;show A.units+3+16*k+200<_;omega⟩
theorem AG{A:Around}{C:Addr}{us:List Value}{kw:List (Str×Value)}:(A.under (.builtin "type.__call__" ⟨.ref C::us,kw⟩)).depth=A.depth+1:=by
 first|rfl|simp[Q7,Code.weight,Code.isCreation,Code.isGuard,Code.isCaller,Code.frames,Q8,guardIds]
theorem AH{A:Around}{C:Addr}{us:List Value}{kw:List (Str×Value)}:(A.under (.builtin "type.__call__" ⟨.ref C::us,kw⟩)).units=A.units+1:=by
 first|rfl|simp[Q7,Code.cUnits,Code.frames,Q8]
theorem cc.make{k:Nat}{A:Around}(r:cc (k+1) A)(C:Addr)(us:List Value)(kw:List (Str×Value)):cc k (A.under (.builtin "type.__call__" ⟨.ref C::us,kw⟩)):=
 ⟨r.hd,by have:=r.dp;rw[AG];omega,by have:=r.un;rw[AH];omega⟩
theorem cc.depth{k:Nat}{A:Around}(r:cc k A):A.depth<recursionLimit:=by have:=r.dp;omega
theorem cc.units0{k:Nat}{A:Around}(r:cc k A):A.units<cLine:=by have:=r.un;omega
noncomputable def af:TA:=fun _ H Q=>Q [] H
noncomputable def ab(ta:TE)(tr:TA):TA:=fun σ H Q=>ta σ H fun x H1=>tr σ H1 fun xs H2=>Q (x::xs) H2
section
variable{X:Cx}{e:Expr}{es:List Expr}{te:TE}{t:TA}{pos:Pos}
theorem ad:PA X [] af:=fun _ _ _ _ H Q I h=>Pe ⟨[],H,I,.nil,h⟩
theorem eU(ha:PE X e te)(hr:PA X es t)(hs:J4 (e::es) X.env=(false,eval e X.env)::J4 es X.env:=by rfl):PA X (e::es) (ab te t):=by
 intro pos pins s σ H Q I h;rw[hs];show wpAny _ _ (spliced ((false,eval e X.env)::backTo pos (J4 es X.env))) _ _ s;refine OP (thn (ha pins s σ H _ I h) fun u s1 ⟨x,H1,I1,r1,q1⟩=>?_);exact thn (hr pos pins s1 σ H1 _ I1 q1) fun us s2 ⟨xs,H2,I2,r2,q2⟩=>⟨x::xs,H2,I2,.cons r1 r2,q2⟩
noncomputable def D0(t:TA):TE:=fun σ H Q=>t σ H fun xs H1=>xs.length<=JP/\∀p,H1 p=none->Q (.ref p) (upd H1 p (.tup xs))
noncomputable def AI(t:TA):TE:=fun σ H Q=>t σ H fun xs H1=>xs.length<=JP/\∀p,H1 p=none->Q (.ref p) (upd H1 p (.lst xs))
theorem Cn{x1}(h:PA X es t):PE X (.Tuple es x1 pos) (D0 t):=by
 intro pins s σ H Q I hq;refine QS (thn (h pos pins s σ H _ I hq) fun us s1 ⟨xs,H1,I1,r,z,q⟩=>⟨by rw[<-r.length];exact z,?_⟩);have hf:H1 s1.heap.objs.size=none:=I1.hok.fresh (JF _);refine⟨.ref s1.heap.objs.size,upd H1 s1.heap.objs.size (.tup xs),I1.laid (t':=s1.toks) (fun b u e=>JA _ e) (JF _) ?_,rfl,q _ hf⟩;exact⟨z,us,r,d6.new _ _⟩
theorem xv(h:PA X es t):PE X (.List es pos) (AI t):=by
 intro pins s σ H Q I hq;refine Q9 (thn (h pos pins s σ H _ I hq) fun us s1 ⟨xs,H1,I1,r,z,q⟩=>⟨by rw[<-r.length];exact z,?_⟩);have hf:H1 s1.heap.objs.size=none:=I1.hok.fresh (JF _);refine⟨.ref s1.heap.objs.size,upd H1 s1.heap.objs.size (.lst xs),I1.laid (t':=s1.toks) (fun b u e=>JA _ e) (JF _) ?_,rfl,q _ hf⟩;exact⟨z,us,0,r,JM _ rfl⟩
end
noncomputable abbrev Sp:=List V->Hp->VK->XK->Prop
noncomputable abbrev CXT:=List Env->Hp->Shared->XK->Value->Shared->Prop
structure rc(P:Program)(w:World)(K:Fg)(mg:Str->Option Value)(base:Heap)(A:Around)(outer:List Env)(s:Shared)(H:Hp):Prop where
 frames:A.frames=some outer
 mod:Mod K mg base
 bs:∀b o,base.get? b=some o->s.heap.get? b=some o/\H b=none
 bsz:base.objs.size<=s.heap.objs.size
 funs:s.heap.FunFrames base outer
 frf:∀b∈frs outer,H b=none
 hok:HOk P w H s.heap
 bare:AllBare s.gens
noncomputable def CE(outer:List Env)(P:Program)(w:World)(H:Hp)(s:Shared)(Q:VK)(u:Value)(s':Shared):Prop:=
 ∃v H',s'.os=s.os/\AllBare s'.gens/\Un (frs outer) [] H H' s.heap s'.heap/\HOk P w H' s'.heap/\aO v u/\Q v H'
noncomputable def CR(CX:CXT)(outer:List Env)(P:Program)(w:World)(H:Hp)(s:Shared)(Q:VK)(E:XK)(r:Result)(s':Shared):Prop:=
 match r with
 | .ok (.ret u)=>CE outer P w H s Q u s'
 | .ok _=>False
 | .error e=>CX outer H s E e s'
structure gi(P:Program)(w:World)(K:Fg)(mg:Str->Option Value)(base:Heap)(CX:CXT)(k:Nat)(f:Addr)(fd:JV)(ps:List Str)(sp:Sp):Prop where
 len:∀vs H Q E,sp vs H Q E->vs.length=ps.length
 run:∀(A:Around)(outer:List Env)(s:Shared)(H:Hp)(args:Args)(us:List Value)(vs:List V)(Q:VK)(E:XK),cc k A->rc P w K mg base A outer s H->BindsTo s fd args (ps.zip us)->aL vs us->sp vs H Q E->
  codeAny (model P w) A (.call (.ref f) args) (CR CX outer P w H s Q E) s
theorem rc.make{P:Program}{w:World}{K:Fg}{mg:Str->Option Value}{base:Heap}{A:Around}{outer:List Env}{s:Shared}{H:Hp}(e:rc P w K mg base A outer s H)(C:Addr)(us:List Value)(kw:List (Str×Value)):
  rc P w K mg base (A.under (.builtin "type.__call__" ⟨.ref C::us,kw⟩)) outer s H:=⟨by first|exact e.frames| (simpa[Q7,Code.envs,Q8,pushEnvs]using e.frames),e.mod,e.bs,e.bsz,e.funs,e.frf,e.hok,e.bare⟩
section
variable{X:Cx}{pins:List (Addr×Obj)}{σ:St}{H:Hp}{s s':Shared}
theorem Inv.env0(I:Inv X pins σ H s):rc X.prog X.w X.K X.mg X.base X.A X.stack s H:=
 ⟨I.ok.frames,I.ok.mod,I.bs,Kc I.ok.bsz I.sz,I.stack,I.stkFree,I.hok,I.bare⟩
theorem Inv.after{Q:VK}{u:Value}(I:Inv X pins σ H s)(h:CE X.stack X.prog X.w H s Q u s'):EP X pins σ Q u s':=by
 obtain⟨v,H',os,bare,un,hok,r,q⟩:=h;obtain⟨hh,g,d,t,os'⟩:=s';obtain rfl:os'=s.os:=os;exact⟨v,H',I.call (h':=hh) (g':=g) (d':=d) (t':=t) (ch:=[]) un hok bare (fun b z=>absurd z (by simp)),r,q⟩
end
noncomputable def ap(sp:Sp)(dvs:List V)(E:XK)(t:TA):TE:=fun σ H Q=>t σ H fun vs H1=>sp (vs++dvs) H1 Q E
noncomputable def eJ(C:Addr)(m:Str)(sp:Sp)(dvs:List V)(E:XK)(ta:TE)(t:TA):TE:=fun σ H Q=>ta σ H fun x H1=>∃a dx fs,x=.ref a/\H1 a=some (.ins C dx fs)/\fs.lookup m=none/\
 t σ H1 fun vs H2=>sp (x::(vs++dvs)) H2 Q E
noncomputable def rV(C:Addr)(sp:Sp)(dvs:List V)(E:XK)(t:TA):TE:=fun σ H Q=>t σ H fun vs H1=>∀x dx,H1 x=none->H1 dx=none->dx≠x->
 sp (.ref x::(vs++dvs)) (upd (upd H1 dx (.own x)) x (.ins C dx [])) (fun v H2=>v=.non/\Q (.ref x) H2) E
noncomputable def eK(K:Fg)(fd:JV)(ps:List Str)(ds:List Value):Prop:=
 ∀(s:Shared)(us:List Value),K.In s.heap->(us++ds).length=ps.length->BindsTo s fd ⟨us,[]⟩ (ps.zip (us++ds))
theorem eK.all{K:Fg}{fd:JV}{ps:List Str}(h:∀us:List Value,us.length=ps.length->bindArgs fd ⟨us,[]⟩=pure (ps.zip us)):eK K fd ps []:=fun s us _ hl=>by
 rw[LH]at hl ⊢;exact .of_eq (h us hl)
noncomputable def kX(CX:CXT)(X:Cx)(E:XK):Prop:=∀(pins:List (Addr×Obj))(σ:St)(H:Hp)(s:Shared)(e:Value)(s':Shared),Inv X pins σ H s->CX X.stack H s E e s'->X.xe e s'
section
variable{X:Cx}{CX:CXT}{k:Nat}{f C:Addr}{fd:JV}{ps:List Str}{sp:Sp}{dvs:List V}{ds:List Value}{E:XK}{x m:Str}{p pos apos:Pos}{e o:Expr}{es:List Expr}{ta:TE}{t:TA}
theorem xw{pins:List (Addr×Obj)}{σ:St}{H:Hp}{s:Shared}{Q:VK}{us:List Value}{vs:List V}(F:gi X.prog X.w X.K X.mg X.base CX k f fd ps sp)(hr:cc k X.A)(hb:eK X.K fd ps ds)(hd:aL dvs ds)(hx:kX CX X E)
  (I:Inv X pins σ H s) (r:aL vs us) (h:sp (vs++dvs) H Q E):wpAny (model X.prog X.w) X.A (call (.ref f) us) (EP X pins σ Q) X.xe s:=by
 have r2:aL (vs++dvs) (us++ds):=r.append hd;have hl:(us++ds).length=ps.length:=by rw[<-r2.length];exact F.len _ _ _ _ h
 refine Sh (MN (F.run X.A X.stack s H ⟨us,[]⟩ (us++ds) (vs++dvs) Q E hr I.env0 (hb s us I.kIn hl) r2 h) fun r s' hq=>?_);cases r with
 |error e=>exact hx pins σ H s e s' I hq
 |ok fl=>
  cases fl with
  |ret u=>exact I.after hq
  |next=>exact LG hq
  |brk=>exact LG hq
  |cont=>exact LG hq
theorem Gd(F:gi X.prog X.w X.K X.mg X.base CX k f fd ps sp)(hr:cc k X.A)(hg:Gl X x)(hm:X.mg x=some (.ref f))(hk:Nh X.K (.ref f)=true)(hb:eK X.K fd ps ds)(hd:aL dvs ds)(hx:kX CX X E)
  (ha:PA X (e::es) t) (hdb:(x==("__debug__":Str))=false:=by decide) (he:J4 (e::es) X.env=(false,eval e X.env)::J4 es X.env:=by rfl) (hpl:(backTo pos (J4 es X.env)).any (·.1)=false:=by rfl):
  PE X (.Call (.Name x p) (e::es) [] pos) (ap sp dvs E t):=by
 intro pins s σ H Q I h;refine Mb (uM I hg hm ?_ hdb);refine OQ (h₀:=X.base) I.ok.mod.kin hk (thn (ha pos pins s σ H _ I h) fun us s1 ⟨vs,H1,I1,r,q⟩=>⟨I1.kIn,?_⟩) he hpl;exact xw F hr hb hd hx I1 r q
theorem Ge{pl:Sem Bool}(he:PE X o ta)(c:Cls X.K C)(hm:xu X.K C m f)(F:gi X.prog X.w X.K X.mg X.base CX k f fd ps sp)(hr:cc k X.A)(hb:eK X.K fd ps ds)(hd:aL dvs ds)(hx:kX CX X E)(ha:PA X (e::es) t)
  (hst:J4 (e::es) X.env=(false,eval e X.env)::J4 es X.env:=by rfl) (hpl:(backTo pos (J4 es X.env)).any (·.1)=false:=by rfl)
  (ht:eval (.Call (.Attribute o m apos) (e::es) [] pos) X.env=(do
   let ov <-eval o X.env
   standAt apos.atName
   let(f,first) <-holding [ov] (OO ov m pl)
   RP pos f first (backTo pos (J4 (e::es) X.env)) (N4 pos (M8 [] X.env))):=by rfl):
  PE X (.Call (.Attribute o m apos) (e::es) [] pos) (eJ C m sp dvs E ta t):=by
 intro pins s σ H Q I h;refine Qi (pl:=pl) (thn (he pins s σ H _ I h) fun u s1 ⟨x,H1,I1,rx,a,dx,fs,ex,ea,l,q⟩=>?_) ht;subst ex;obtain rfl:u=J8 a:=rx;refine rT I1 ea c hm l ?_;refine OQ (first:=[.ref a]) (h₀:=X.base) I.ok.mod.kin hm.kp (thn (ha pos pins s1 σ H1 _ I1 q) fun us s2 ⟨vs,H2,I2,r,q2⟩=>⟨I2.kIn,?_⟩) hst hpl;exact xw (us:=.ref a::us) (vs:=.ref a::vs) F hr hb hd hx I2 (.cons rfl r) q2
theorem Ea{pl:Sem Bool}(he:PE X o ta)(c:Cls X.K C)(hm:xu X.K C m f)(F:gi X.prog X.w X.K X.mg X.base CX k f fd ps sp)(hr:cc k X.A)(hb:eK X.K fd ps ds)(hd:aL dvs ds)(hx:kX CX X E)
  (ht:eval (.Call (.Attribute o m apos) [] [] pos) X.env=(do
   let ov <-eval o X.env
   standAt apos.atName
   let(f,first) <-holding [ov] (OO ov m pl)
   RP pos f first (backTo pos (J4 [] X.env)) (N4 pos (M8 [] X.env))):=by rfl):
  PE X (.Call (.Attribute o m apos) [] [] pos) (eJ C m sp dvs E ta af):=by
 intro pins s σ H Q I h;refine Qi (pl:=pl) (thn (he pins s σ H _ I h) fun u s1 ⟨x,H1,I1,rx,a,dx,fs,ex,ea,l,q⟩=>?_) ht;subst ex;obtain rfl:u=J8 a:=rx;refine rT I1 ea c hm l ?_;exact PySem.W.callWith_K0 (first:=[.ref a]) I1.kIn hm.kp (xw (us:=[.ref a]) (vs:=[.ref a]) F hr hb hd hx I1 (.cons rfl .nil) q)
structure Mk(K:Fg)(C f:Addr):Prop where
 makes:Sg K C=true
 init:LV K (.ref C) "__init__"=some (some (.ref f))
 fn:Q6 K (.ref f)=true
 kp:Nh K (.ref C)=true
theorem Eb{pins:List (Addr×Obj)}{σ:St}{H:Hp}{s:Shared}{Q:VK}{us:List Value}{vs:List V}(M:Mk X.K C f)(F:gi X.prog X.w X.K X.mg X.base CX k f fd ps sp)(hr:cc (k+1) X.A)(hb:eK X.K fd ps ds)(hd:aL dvs ds)
  (hx:kX CX X E) (I:Inv X pins σ H s) (r:aL vs us)
  (h:∀x dx,H x=none->H dx=none->dx≠x->sp (.ref x::(vs++dvs)) (upd (upd H dx (.own x)) x (.ins C dx [])) (fun v H2=>v=.non/\Q (.ref x) H2) E):
  wpAny (model X.prog X.w) X.A (call (.ref C) us) (EP X pins σ Q) X.xe s:=by
 have hq:=h (s.heap.objs.size+1) s.heap.objs.size (I.hok.fresh (L8 _)) (I.hok.fresh (JF _)) (Kg (Lp _));have I2:=Inv.made (C:=C) I;have r2:aL (V.ref (s.heap.objs.size+1)::(vs++dvs)) (J8 (s.heap.objs.size+1)::(us++ds)):=.cons rfl (r.append hd);have hl:(J8 (s.heap.objs.size+1)::us++ds).length=ps.length:=by
  have e:=r2.length;rw[F.len _ _ _ _ hq]at e;exact e.symm
 refine Sh (DZ (f:=f) I.kIn M.makes M.init (beq_iff_eq.mp M.fn) (MN (F.run _ X.stack _ _ ⟨J8 (s.heap.objs.size+1)::us,[]⟩ (J8 (s.heap.objs.size+1)::(us++ds)) _ _ E (hr.make C us [])
  (I2.env0.make C us []) (hb _ (J8 (s.heap.objs.size+1)::us) I2.kIn hl) r2 hq) fun r s' hq'=>?_))
 cases r with
 |error e=>exact hx pins σ _ _ e s' I2 hq'
 |ok fl=>
  cases fl with
  |ret u=>
   obtain⟨v,H',I3,rv,ev,q3⟩:=I2.after hq';subst ev;exact⟨rv,⟨V.ref (s.heap.objs.size+1),H',I3,rfl,q3⟩⟩
  |next=>exact LG hq'
  |brk=>exact LG hq'
  |cont=>exact LG hq'
theorem Gf(M:Mk X.K C f)(F:gi X.prog X.w X.K X.mg X.base CX k f fd ps sp)(hr:cc (k+1) X.A)(hg:Gl X x)(hm:X.mg x=some (.ref C))(hb:eK X.K fd ps ds)(hd:aL dvs ds)(hx:kX CX X E)
  (ha:PA X (e::es) t) (hdb:(x==("__debug__":Str))=false:=by decide) (he:J4 (e::es) X.env=(false,eval e X.env)::J4 es X.env:=by rfl) (hpl:(backTo pos (J4 es X.env)).any (·.1)=false:=by rfl):
  PE X (.Call (.Name x p) (e::es) [] pos) (rV C sp dvs E t):=by
 intro pins s σ H Q I h;refine Mb (uM I hg hm ?_ hdb);refine OQ (h₀:=X.base) I.ok.mod.kin M.kp (thn (ha pos pins s σ H _ I h) fun us s1 ⟨vs,H1,I1,r,q⟩=>⟨I1.kIn,?_⟩) he hpl;exact Eb M F hr hb hd hx I1 r q
end
section
variable{X:Cx}{CX:CXT}{k:Nat}{f C:Addr}{fd:JV}{ps ks:List Str}{sp:Sp}{E:XK}{x m:Str}{p pos apos kpos:Pos}{e o:Expr}{es:List Expr}{kws:List Keyword}{te ta:TE}{t tk:TA}{nm:Option Str}
variable{g:List Value->List Value->List Value}{gV:List V->List V->List V}
end
structure ax(N P:List Str)(sc:Scope):Prop where
 kind:sc.kind=.function
 co:sc.isCoroutine=false
 gen:sc.isGenerator=false
 nd:N.Nodup
 pre:N.take P.length=P
 par:∀x∈P,sc.names.lookup x=some .local\/sc.names.lookup x=some .cell
 nofree:∀y∈sc.names,y.2≠.free
theorem vK{kindOf:Str->Option Kt}{x:Str}:∀{binds:List (Str×Value)} {m:Str->Option Value},(∀v,(x,v)∉binds)->bindL kindOf binds m x=m x
 | [],_,_=>rfl
 | (n,v)::r,m,h=>by
  unfold bindL;rw[vK fun w hw=>h w (JO _ hw)]
  split
  ·have:x≠n:=by rintro rfl;exact h v JI
   simp[this]
  ·rfl
theorem vL{kindOf:Str->Option Kt}{x:Str}:∀{binds:List (Str×Value)} {m:Str->Option Value},(∀v,(x,v)∉binds)->bindC kindOf binds m x=m x
 | [],_,_=>rfl
 | (n,v)::r,m,h=>by
  unfold bindC;rw[vL fun w hw=>h w (JO _ hw)]
  split
  ·rfl
  ·have:x≠n:=by rintro rfl;exact h v JI
   simp[this]
theorem vM{kindOf:Str->Option Kt}{x:Str}{v:Value}:∀{P:List Str} {vs:List Value} {i:Nat} {m:Str->Option Value},P.Nodup->P[i]?=some x->vs[i]?=some v->kindOf x=some .local->
  bindL kindOf (P.zip vs) m x=some v
 | [],_,_,_,_,h,_,_=>by simp at h
 |_::_,[],_,_,_,_,h,_=>by simp at h
 |p::P,w::vs,0,m,nd,h1,h2,hk=>by
  simp at h1 h2;subst h1;subst h2;show bindL kindOf ((p,w)::P.zip vs) m p=_;unfold bindL;rw[vK fun v hv=>(Mg.mp nd).1 (PV hv).1,if_pos hk];simp
 |p::P,w::vs,i+1,m,nd,h1,h2,hk=>by
  show bindL kindOf ((p,w)::P.zip vs) m x=_;unfold bindL;exact vM (i:=i) (Mg.mp nd).2 (by simpa using h1) (by simpa using h2) hk
theorem vN{kindOf:Str->Option Kt}{x:Str}{v:Value}:∀{P:List Str} {vs:List Value} {i:Nat} {m:Str->Option Value},P.Nodup->P[i]?=some x->vs[i]?=some v->kindOf x≠some .local->
  bindC kindOf (P.zip vs) m x=some v
 | [],_,_,_,_,h,_,_=>by simp at h
 |_::_,[],_,_,_,_,h,_=>by simp at h
 |p::P,w::vs,0,m,nd,h1,h2,hk=>by
  simp at h1 h2;subst h1;subst h2;show bindC kindOf ((p,w)::P.zip vs) m p=_;unfold bindC;rw[vL fun v hv=>(Mg.mp nd).1 (PV hv).1,if_neg hk];simp
 |p::P,w::vs,i+1,m,nd,h1,h2,hk=>by
  show bindC kindOf ((p,w)::P.zip vs) m x=_;unfold bindC;exact vN (i:=i) (Mg.mp nd).2 (by simpa using h1) (by simpa using h2) hk
noncomputable def start(N:List Str)(vs:List V):St:=vs.map some++Km (N.length-vs.length) none
noncomputable def m9(CX:CXT)(P:Program)(w:World)(K:Fg)(mg:Str->Option Value)(base:Heap)(N:List Str)(qual:Str)(scope:Scope)(f:Addr)(cd:Value)(A:Around)(outer:List Env)(s:Shared)(H:Hp)(E:XK):Cx where
 prog:=P
 w:=w
 K:=K
 mg:=mg
 base:=base
 A:=A.deeper (envOfC qual scope s.heap.objs.size f cd)
 N:=N
 s₀:=s
 H₀:=H
 env:=envOfC qual scope s.heap.objs.size f cd
 outer:=outer
 stack:=envOfC qual scope s.heap.objs.size f cd::outer
 ex:=[]
 calm:=true
 fn:=fun _=>true
 pn:=[]
 xe:=fun e s'=>wpAny (model P w) (A.deeper (envOfC qual scope s.heap.objs.size f cd)) («leaving» (envOfC qual scope s.heap.objs.size f cd) e) (fun _ s''=>CX outer H s E e s'') (fun e' s''=>CX outer H s E e' s'') s'
theorem xy{sc:Scope}{n:Nat}{x:Str}(h:sc.names.lookup x=some .cell):∃c,(PX n sc.names []).lookup x=some c:=by
 have q:=Qa sc.names n [] (.inl h);exact Pu.mp q
theorem Co{CX:CXT}{P:Program}{w:World}{K:Fg}{mg:Str->Option Value}{base:Heap}{N ps:List Str}{qual:Str}{scope:Scope}{f:Addr}{cd:Value}{A:Around}{outer:List Env}{s s1:Shared}{H:Hp}{E:XK}{us:List Value}{vs:List V}
  (S:ax N ps scope) (hd:A.handled=none) (e0:rc P w K mg base A outer s H) (hl:vs.length=ps.length) (r:aL vs us)
  (x:InCallC s s.heap.objs.size (bindL (envOfC qual scope s.heap.objs.size f cd).kindOf (ps.zip us) fun _=>none) (PX (s.heap.objs.size+1) scope.names []) (bindC (envOfC qual scope s.heap.objs.size f cd).kindOf (ps.zip us) fun _=>none) s1):
  Inv (m9 CX P w K mg base N qual scope f cd A outer s H E) [] (start N vs) H s1:=by
 have hpl:ps.length<=N.length:=by have:=congrArg List.length S.pre;rw[Ly]at this;omega
 obtain⟨h1,tk,rfl,hk⟩:=x.done;have noA:∀b:Addr,b∉(m9 CX P w K mg base N qual scope f cd A outer s H E).ex:=fun b z=>absurd (show b∈([]:List Addr)from z) (by simp);refine⟨⟨e0.mod,S.kind,rfl,rfl,JF _,fun y z c h1 h2=>?_,fun y hy=>?_,fun y c _ h=>?_,fun _=>hd,Around.frames_deeper e0.frames,.inr ⟨rfl,rfl⟩,fun b z=>absurd z (noA b),e0.bs,e0.bsz,fun b _ _=>noA b,fun b z=>absurd z (noA b),e0.funs,e0.frf⟩,
  rfl,e0.bare,Un.kept hk,⟨_,x.toInCall.ns,fun i y v h1 h2 h3=>?_⟩,fun y c h=>⟨_,x.cell y c h⟩,e0.hok.fresh (JF _),fun y c h=>?_,fun p hp=>absurd (show p∈([]:List (Addr×Obj))from hp) (by simp),e0.hok.kept hk,?_⟩
 ·exact name_of_addr x.apart (Kn h1) (Kn h2)
 ·have hy:scope.names.lookup y=some .cell\/scope.names.lookup y=some .free:=hy
  rcases hy with hy|hy
  ·exact xy hy
  ·exact absurd rfl (S.nofree _ (Kn hy))
 ·exact KJ (x.above y c (Kn h))
 ·have hi:i<vs.length:=by
   unfold start at h2;by_cases hi:i<vs.length
   ·exact hi
   ·rw[MB (by simpa using hi)]at h2
    rw[List.getElem?_replicate]at h2
    split at h2<;>cases h2
  have ha:vs[i]?=some v:=by
   unfold start at h2;rw[Me (by simpa using hi),JS]at h2;cases e:vs[i]? with
   |none=>rw[e]at h2;cases h2
   |some a=>rw[e]at h2;cases h2;rfl
  obtain⟨u,hu,rv⟩:=r.get ha;have hp:ps[i]?=some y:=by
   rw[<-S.pre,Pw (by omega)];exact h1
  have ndP:ps.Nodup:=by rw[<-S.pre];exact S.nd.sublist (List.take_sublist _ _)
  refine⟨u,rv,?_⟩;rcases S.par y (JK hp)with k|k
  ·exact .inl ⟨k,vM ndP hp hu k⟩
  ·obtain⟨c,e⟩:=xy (n:=s.heap.objs.size+1) k
   refine .inr ⟨.inl k,c,e,?_⟩;have q:=x.cell y c e;rw[vN ndP hp hu (by show scope.names.lookup y≠_;rw[k];decide)]at q;exact q
 ·exact e0.hok.fresh (KJ (x.above y c (Kn h)))
 ·unfold start
  show _=N.length;rw[JX,JB,List.length_replicate];omega
theorem IG{CX:CXT}{P:Program}{w:World}{K:Fg}{mg:Str->Option Value}{base:Heap}{k:Nat}{f:Addr}{name qual:Str}{params:Arguments}{body:List Stmt}{scope:Scope}{dV kV doc pm cdv ct oc:Value}{an od:Option Addr}
  {osl:Array (Option Value)} {N ps:List Str} {sp:Sp} (lk:K.lookup f=some ⟨oc,od,.func (Nz name qual params body scope dV kV doc pm an cdv ct),osl⟩) (hcd:Qj K cdv qual=true) (S:ax N ps scope)
  (len:∀vs H Q E,sp vs H Q E->vs.length=ps.length)
  (hbody:∀(A:Around)(outer:List Env)(s:Shared)(H:Hp)(vs:List V)(Q:VK)(E:XK),cc k (A.deeper (envOfC qual scope s.heap.objs.size f cdv))->sp vs H Q E->
   ∃t,PSs (m9 CX P w K mg base N qual scope f cdv A outer s H E) body t/\t { nx:=fun _ H'=>Q .non H',rt:=Q } (start N vs) H):
  gi P w K mg base CX (k+1) f (Nz name qual params body scope dV kV doc pm an cdv ct) ps sp:=by
 refine⟨len,fun A outer s H args us vs Q E hr e0 hb r hsp=>?_⟩;have hl:=len _ _ _ _ hsp;have KX:K.In s.heap:=e0.mod.kin.keeps fun b o e=>(e0.bs b o e).1;have lim:s.heap.NoLimit:=e0.mod.nolimit.keeps fun b o e=>(e0.bs b o e).1;have hkind:∀y∈ps.zip us,scope.names.lookup y.1=some .local\/(scope.names.lookup y.1=some .cell/\((PX (s.heap.objs.size+1) scope.names []).lookup y.1).isSome=true):=fun⟨n,v⟩ hy=>by
  rcases S.par n (PV hy).1 with q|q
  ·exact .inl q
  ·exact .inr ⟨q,Qa _ _ _ (.inl q)⟩
 refine codeAny_call_function hr.depth (KX _ _ lk) rfl S.co S.gen rfl (PySem.W.codeRec_of KX hcd) (hb _ _ _ _ ?_);refine wpAny_newFunctionEnv_cells S.kind hkind fun env he s1 x=>?_;subst he;refine⟨lim.keeps x.toInCall.keep,codeAny_func ?_⟩;obtain⟨t,ht,hq⟩:=hbody A outer s H vs Q E (hr.deeper _) hsp;have I:Inv (m9 CX P w K mg base N qual scope f cdv A outer s H E) [] (start N vs) H s1:=Co S hr.hd e0 hl r x;refine Lj (ht [] s1 (start N vs) H _ I hq) (fun fl s' hs=>?_) fun e s' hs=>hs;have fin:∀{σ':St} {H':Hp} {v:V} {u:Value},Inv (m9 CX P w K mg base N qual scope f cdv A outer s H E) [] σ' H' s'->aO v u->Q v H'->CE outer P w H s Q u s':=
  fun{σ' H' v u} J rv q=>⟨v,H',J.os,J.bare,J.base,J.hok,rv,q⟩
 cases fl with
 |ret u=>
  obtain⟨v,σ',H',J,rv,q⟩:=hs;exact fin J rv q
 |next=>
  obtain⟨σ',H',J,q⟩:=hs;exact fin (v:=V.non) (u:=K8) J rfl q
 |brk=>
  obtain⟨_,_,_,q⟩:=hs;exact LG q
 |cont=>
  obtain⟨_,_,_,q⟩:=hs;exact LG q
end L2
namespace L2
open PySem PySem.Spec PyProof.Rows
section
variable{X:Cx}{x:Str}{p pos:Pos}{e:Expr}{es:List Expr}{t:TA}{id T:String}{r:List V->Hp->VK->Prop}
noncomputable def tCB(r:List V->Hp->VK->Prop)(t:TA):TE:=fun σ H Q=>t σ H fun vs H1=>r vs H1 Q
theorem aw(hc:cU X (.builtin id) r)(hg:Gl X x)(hm:X.mg x=none)(hv:Ny x=some (.builtin id))(ha:PA X (e::es) t)(hn:x≠"__name__":=by decide)(hdb:(x==("__debug__":Str))=false:=by decide)
  (he:J4 (e::es) X.env=(false,eval e X.env)::J4 es X.env:=by rfl) (hpl:(backTo pos (J4 es X.env)).any (·.1)=false:=by rfl):PE X (.Call (.Name x p) (e::es) [] pos) (tCB r t):=by
 intro pins s σ H Q I h;refine Mb (gk I hg hm hv ?_ hn hdb);exact Oh (thn (ha pos pins s σ H _ I h) fun us s1 ⟨vs,H1,I1,r1,q1⟩=>hc pins s1 σ H1 vs us Q I1 r1 q1) he hpl
theorem bK(hc:cU X (.type T) r)(hg:Gl X x)(hm:X.mg x=none)(hv:Ny x=some (.type T))(ha:PA X (e::es) t)(hn:x≠"__name__":=by decide)(hdb:(x==("__debug__":Str))=false:=by decide)
  (he:J4 (e::es) X.env=(false,eval e X.env)::J4 es X.env:=by rfl) (hpl:(backTo pos (J4 es X.env)).any (·.1)=false:=by rfl):PE X (.Call (.Name x p) (e::es) [] pos) (tCB r t):=by
 intro pins s σ H Q I h;refine Mb (gk I hg hm hv ?_ hn hdb);exact Lc (thn (ha pos pins s σ H _ I h) fun us s1 ⟨vs,H1,I1,r1,q1⟩=>hc pins s1 σ H1 vs us Q I1 r1 q1) he hpl
end
end L2
namespace HT
open PySem PyProof.Rows
section
open PySem.SeqAt
open PySem.AutoSeq1 (wpAny_loadPart')
open PySem.MeetsSeq PySem.MeetsSeq2 PySem.MeetsSeq3
end
section
variable{prog:Program}{w:World}{A:Around}{E:Value->Shared->Prop}{s:Shared}
theorem Gg{t b:Addr}{vs ws:List Value}{Q:Value->Shared->Prop}(ht:IsTup s.heap t vs.toArray)(hb:IsTup s.heap b ws.toArray)(hv:vs≠[])
  (h1:ws=[]->Q (.ref t) s) (h2:ws≠[]->Q (.ref s.heap.objs.size) { s with heap:=s.heap.push { cls:=.type "tuple",data:=.seq (vs++ws).toArray } })
  (hsz:vs.length+ws.length<=JP):wpAny (model prog w) A (MA .Add (.ref t) (.ref b)) Q E s:=by
 obtain⟨⟨cls,dd,data,sl⟩,ho,hc,n,hd⟩:=id ht;obtain⟨⟨cls2,dd2,data2,sl2⟩,ho2,hc2,n2,hd2⟩:=id hb;simp only at hc hd hc2 hd2;subst hc hd hc2 hd2;have e:vs.toArray++ws.toArray=(vs++ws).toArray:=by simp
 by_cases hw:ws=[]
 ·exact Ra ⟨_,ho,rfl⟩ ⟨_,ho2,rfl⟩ Px QO NW NP (NA _ _)
   (tuple_addW1 t b vs.toArray ws.toArray n n2 dd dd2 sl sl2 (by simpa using hv) (by simp[hw])) ⟨ho,ho2,h1 hw⟩
 ·refine Ra ⟨_,ho,rfl⟩ ⟨_,ho2,rfl⟩ Px QO NW NP (NA _ _)
   (tuple_addW2 t b vs.toArray ws.toArray n n2 dd dd2 sl sl2 (by simpa using hv) (by simpa using hw) (by rw[JU,JU];exact hsz)) ⟨ho,ho2,?_⟩
  rw[e];exact h2 hw
noncomputable def sIx(n d:Nat):Option Int->Nat
 |none=>d
 |some v=>if v<0 then(v+(n:Int)).toNat else min v.toNat n
theorem Hv(n d:Nat)(hd:d<=n)(o:Option Int):sIx n d o<=n:=by
 cases o with
 |none=>exact hd
 |some v=>
  show(if v<0 then(v+(n:Int)).toNat else min v.toNat n)<=n;by_cases hv:v<0
  ·rw[if_pos hv];omega
  ·rw[if_neg hv];exact Nat.min_le_right _ _
theorem zU(v:Int)(n d:Nat):(if v<0 then max (v+(n:Int)) 0 else min v (n:Int))=((sIx n d (some v):Nat):Int):=by
 show(if v<0 then max (v+(n:Int)) 0 else min v (n:Int))=(((if v<0 then(v+(n:Int)).toNat else min v.toNat n):Nat):Int);by_cases hv:v<0
 ·simp only[if_pos hv];omega
 ·simp only[if_neg hv];omega
theorem AJ(lo hi:Option Int)(n:Nat):Nv lo hi 1 (n:Int)=(((sIx n 0 lo:Nat):Int),((sIx n n hi:Nat):Int)):=by
 have h1:¬((1:Int)<0):=by omega
 unfold Nv;simp only[h1,if_false];refine Prod.ext ?_ ?_
 ·cases lo with
  |none=>rfl
  |some v=>exact zU v n 0
 ·cases hi with
  |none=>rfl
  |some v=>exact zU v n n
theorem AK(i j:Nat):MG (i:Int) (j:Int) 1=j-i:=by
 unfold MG;have h1:(1:Int)>0:=by omega
 simp only[h1,if_true,Int.ediv_one]
 split<;>omega
theorem rW{v:Value}{o:Option Int}{Q:Option Int->Shared->Prop}(p:IsPart v o)(h:Q o s):wpAny (model prog w) A (Builtin.Slice.slicePartIndex v) Q E s:=by
 cases p with
 |none=>exact slicePart_none h
 |int i t=>exact slicePart_int h
theorem re{sl:Addr}{vl vu:Value}{lo hi:Option Int}{n:Nat}{Q:Int×Int×Nat->Shared->Prop}(hs:s.heap.IsSliceOf sl vl vu .none)(pl:IsPart vl lo)(pu:IsPart vu hi)
  (h:Q (((sIx n 0 lo:Nat):Int),1,sIx n n hi-sIx n 0 lo) s):wpAny (model prog w) A (O2 (.ref sl) (pure (n:Int))) Q E s:=by
 obtain⟨os,hos,hcs,hds⟩:=id hs;unfold O2 Builtin.Slice.sliceFields;refine Jz (Jz (KO hos hds (x:=vl) rfl (Jz (KO hos hds (x:=vu) rfl (Jz (KO hos hds (x:=.none) rfl (JC ?_)))))));refine Jz (slicePart_none ?_);show wpAny _ _ (if((1:Int)==0)=true then _ else _) _ _ s;rw[if_neg (by decide)];refine Jz (rW pl (Jz (rW pu (Jz (JC ?_)))));show wpAny _ _ (match Nv lo hi 1 (n:Int)with| (lo,hi)=>pure (lo,(1:Int),MG lo hi 1)) _ _ s;rw[AJ lo hi n];show wpAny _ _ (pure (((sIx n 0 lo:Nat):Int),(1:Int),MG ((sIx n 0 lo:Nat):Int) ((sIx n n hi:Nat):Int) 1)) _ _ s;rw[AK];exact JC h
theorem Ec(xs:Array Value)(i k:Nat):((JT k).filterMap fun(m:Nat)=>xs[((i:Int)+(m:Int)*1).toNat]?).toArray=((xs.toList.drop i).take k).toArray:=by
 have e:(fun(m:Nat)=>xs[((i:Int)+(m:Int)*1).toNat]?)=fun m=>xs[i+m]?:=by
  funext m
  have:((i:Int)+(m:Int)*1).toNat=i+m:=by omega
  rw[this]
 rw[e];have:=pick_run xs i k;rw[List.filterMap_map]at this;have e2:((fun x=>xs[x]?)∘fun x=>i+x)=fun m=>xs[i+m]?:=rfl;rw[e2]at this;rw[this]
theorem qE{t sl:Addr}{items:Array Value}{vl vu:Value}{lo hi:Option Int}{Q:Value->Shared->Prop}(ht:IsTup s.heap t items)(hs:s.heap.IsSliceOf sl vl vu .none)(pl:IsPart vl lo)(pu:IsPart vu hi)
  (hw:¬(sIx items.size 0 lo=0/\sIx items.size items.size hi=items.size))
  (h:Q (.ref s.heap.objs.size) { s with heap:=s.heap.push { cls:=.type "tuple",data:=.seq ((items.toList.drop (sIx items.size 0 lo)).take (sIx items.size items.size hi-sIx items.size 0 lo)).toArray } })
  (hsz:items.size<=JP):wpAny (model prog w) A (getItem (.ref t) (.ref sl)) Q E s:=by
 have htake:sizeOk (.seq ((items.toList.drop (sIx items.size 0 lo)).take (sIx items.size items.size hi-sIx items.size 0 lo)).toArray):=by
  show((items.toList.drop (sIx items.size 0 lo)).take (sIx items.size items.size hi-sIx items.size 0 lo)).toArray.size<=JP;rw[JU,Ly,RQ,Kj];omega
 have hj:sIx items.size items.size hi<=items.size:=Hv _ _ (JF _) hi;obtain⟨os,hos,hcs,hds⟩:=id hs;have hTs:s.TypeIs (.ref sl) "slice":=⟨os,hos,hcs⟩;unfold getItem
 try with_reducible refine K4 ?_
 first|refine Jz (JC ?_)|skip
 refine Jz (wpAny_sequenceKey ht.typeIs (by decide) ?_);refine Jz (KD (name:=LN "__getitem__") ht.typeIs MU
  (Ko MU ht.typeIs entry_tuple_getitem ?_ (args_tuple_getitem _ _)))
 show wpAny _ _ (O3 (.ref t)>>=_) _ _ s;refine Jz (tupleItemsOf_ ht ?_);refine Jz (Oi hTs ?_);rw[if_pos (by decide)];refine Jz (re hs pl pu ?_);have hno:¬((((sIx items.size 0 lo:Nat):Int)==0&&(1:Int)==1&&(sIx items.size items.size hi-sIx items.size 0 lo)==items.size)=true):=by
  intro q;rw[K5,K5]at q;have q1:((sIx items.size 0 lo:Nat):Int)=0:=eq_of_beq q.1.1;have q2:sIx items.size items.size hi-sIx items.size 0 lo=items.size:=eq_of_beq q.2;exact hw ⟨by omega,by omega⟩
 show wpAny _ _ (if(((sIx items.size 0 lo:Nat):Int)==0&&(1:Int)==1&&(sIx items.size items.size hi-sIx items.size 0 lo)==items.size)=true then _ else _) _ _ s;rw[if_neg hno,Ec]
 first
  |exact Jz (m:=LO _) (Ky (JC ⟨_,rfl,JC h⟩) htake)
  |exact Jz (m:=LO _) (Ky (Jz (JC (JC ⟨_,rfl,JC h⟩))) htake)
  |exact Jz (Jz (m:=LO _) (Ky (JC (JC ⟨_,rfl,JC h⟩)) htake))
  |exact Jz (Jz (m:=LO _) (Ky (JC ⟨_,rfl,JC h⟩) htake))
end
end HT
namespace L2
open PySem PySem.Spec PyProof.Rows
noncomputable abbrev TO:=St->Hp->(Option Int->Hp->Prop)->Prop
noncomputable def PO(X:Cx)(e:Option Expr)(t:TO):Prop:=
 ∀(pins:List (Addr×Obj))(s:Shared)(σ:St)(H:Hp)(Q:Option Int->Hp->Prop),Inv X pins σ H s->t σ H Q->
  wpAny (model X.prog X.w) X.A (evalPart e X.env) (fun u s'=>∃o H',Inv X pins σ H' s'/\IsPart u o/\Q o H') X.xe s
noncomputable def mP:TO:=fun _ H Q=>Q none H
noncomputable def rX(t:TE):TO:=fun σ H Q=>t σ H fun x H1=>∃i,x=.int i/\Q (some i) H1
theorem ng{ns:List Int}:∀{us:List Value},aL (ns.map V.int) us->IntsAre us ns:=by
 induction ns with
 |nil=>intro us r;rw[Ni]at r;cases r;exact .nil
 |cons n ns ih=>
  intro us r;rw[JZ]at r;cases r with
  |cons r1 r2=>
   obtain⟨t,e⟩:=r1;subst e;exact .cons n t (ih r2)
section
variable{X:Cx}{e:Expr}{te:TE}{lo hi:Option Expr}{tl th:TO}{pos p2:Pos}
theorem uQ:PO X none mP:=by
 intro pins s σ H Q I h;rw[evalPart_none];exact JC ⟨none,H,I,.none,h⟩
theorem uR(h:PE X e te):PO X (some e) (rX te):=by
 intro pins s σ H Q I hw;rw[evalPart_some];refine thn (h pins s σ H _ I hw) fun u s1 ⟨x,H1,I1,r1,q1⟩=>?_;obtain⟨i,rfl,q⟩:=q1;obtain⟨t,rfl⟩:=r1;exact⟨some i,H1,I1,.int i t,q⟩
noncomputable def SlR(X:Cx)(r:V->Option Int->Option Int->Hp->VK->Prop):Prop:=
 ∀(pins:List (Addr×Obj))(s:Shared)(σ:St)(H:Hp)(x:V)(v vl vu:Value)(lo hi:Option Int)(sl:Addr)(Q:VK),Inv X pins σ H s->aO x v->s.heap.IsSliceOf sl vl vu .none->IsPart vl lo->IsPart vu hi->r x lo hi H Q->
  ∃T id,QB (.type T) "__getitem__"=pure (some (.builtin id))/\s.TypeIs v T/\wpAny (model X.prog X.w) X.A (getItem v (.ref sl)) (EP X pins σ Q) X.xe s
noncomputable def tSl(r:V->Option Int->Option Int->Hp->VK->Prop)(te:TE)(tl th:TO):TE:=fun σ H Q=>te σ H fun x H1=>tl σ H1 fun l H2=>th σ H2 fun u H3=>r x l u H3 Q
theorem rf{r:V->Option Int->Option Int->Hp->VK->Prop}(hr:SlR X r)(he:PE X e te)(hl:PO X lo tl)(hu:PO X hi th):PE X (.Subscript e (.Slice lo hi none p2) pos) (tSl r te tl th):=by
 intro pins s σ H Q I h;refine Si (thn (he pins s σ H _ I h) fun v s1 ⟨x,H1,I1,r1,q1⟩=>?_);refine wpAny_Slice (thn (hl pins s1 σ H1 _ I1 q1) fun vl s2 ⟨l,H2,I2,pl,q2⟩=>thn (hu pins s2 σ H2 _ I2 q2) fun vu s3 ⟨u,H3,I3,pu,q3⟩=>?_);rw[evalPart_none];refine JC ?_;have I4:Inv X pins σ H3 { s3 with heap:=s3.heap.push { cls:=.type "slice",data:=.fields #[vl,vu,.none] } }:=I3.kept (t':=s3.toks) fun b ob q=>JA _ q;obtain⟨T,id,hT,ht,hg⟩:=hr pins { s3 with heap:=s3.heap.push { cls:=.type "slice",data:=.fields #[vl,vu,.none] } } σ H3 x v vl vu l u s3.heap.objs.size Q I4 r1 (Heap.IsSliceOf.new ..) pl pu q3;show wpAny (model X.prog X.w) X.A (QP e (.Slice lo hi none p2) v (.ref s3.heap.objs.size)) (EP X pins σ Q) X.xe { s3 with heap:=s3.heap.push { cls:=.type "slice",data:=.fields #[vl,vu,.none] } };exact tail_any (ops:=[.ref s3.heap.objs.size,v]) ht hT hg (by with_unfolding_all rfl)
noncomputable def oN(xs:List V)(lo hi:Option Int):List V:=(xs.drop (HT.sIx xs.length 0 lo)).take (HT.sIx xs.length xs.length hi-HT.sIx xs.length 0 lo)
theorem zg(xs:List V)(lo hi:Option Int):(oN xs lo hi).length<=xs.length:=by
 unfold oN;rw[Ly,RQ];omega
noncomputable def Jl(K:Fg):V->Option Int->Option Int->Hp->VK->Prop:=fun x lo hi H Q=>∃a xs,x=.ref a/\SqT K H a xs/\
 ¬(HT.sIx xs.length 0 lo=0/\HT.sIx xs.length xs.length hi=xs.length)/\∀p,H p=none->Q (.ref p) (upd H p (.tup (oN xs lo hi)))
theorem Hx:SlR X (Jl X.K):=by
 intro pins s σ H x v vl vu lo hi sl Q I rx hs pl pu h;obtain⟨a,xs,rfl,hx,hw,q⟩:=h;cases rx;obtain⟨its,r,ht,hz⟩:=I.tuple hx;have hlen:its.toArray.size=xs.length:=by rw[JU];exact r.length.symm
 refine⟨"tuple",_,MU.lookup,ht.typeIs,?_⟩;refine HT.qE ht hs pl pu (by rw[hlen];exact hw) ?_ (by rw[hlen];exact hz);rw[hlen];refine⟨.ref s.heap.objs.size,_,I.laid (t':=s.toks) (o:=.tup (oN xs lo hi)) (fun b ob q=>JA _ q) (JF _) ?_,rfl,q _ (I.hok.fresh (JF _))⟩;exact⟨Kc (zg xs lo hi) hz,_,(r.drop (HT.sIx xs.length 0 lo)).take (HT.sIx xs.length xs.length hi-HT.sIx xs.length 0 lo),d6.new _ _⟩
noncomputable def IH(K:Fg):R2:=fun x y H Q=>∃a b xs ys,x=.ref a/\y=.ref b/\SqT K H a xs/\SqT K H b ys/\xs≠[]/\xs.length+ys.length<=JP/\
 (ys=[]->Q (.ref a) H)/\(ys≠[]->∀p,H p=none->Q (.ref p) (upd H p (.tup (xs++ys))))
theorem aL.nil_iff{xs:List V}{us:List Value}(r:aL xs us):us=[]↔xs=[]:=by
 cases r with
 |nil=>simp
 |cons _ _=>simp
theorem Gh:OpR X (MA .Add) (IH X.K):=by
 intro pins s σ H x y v u Q I rx ry h;obtain⟨a,b,xs,ys,rfl,rfl,ha,hb,hx,hz,q1,q2⟩:=h;cases rx;cases ry;obtain⟨its,r1,p1,_⟩:=I.tuple ha;obtain⟨its2,r2,p2,_⟩:=I.tuple hb;refine HT.Gg p1 p2 (fun z=>hx (r1.nil_iff.mp z)) (fun z=>⟨.ref a,H,I,rfl,q1 (r2.nil_iff.mp z)⟩) (fun z=>?_) (by rw[<-r1.length,<-r2.length];exact hz);refine⟨.ref s.heap.objs.size,_,I.laid (t':=s.toks) (o:=.tup (xs++ys)) (fun b ob q=>JA _ q) (JF _) ?_,rfl,q2 (fun w=>z (r2.nil_iff.mpr w)) _ (I.hok.fresh (JF _))⟩;exact⟨by rw[JX];exact hz,_,r1.append r2,d6.new _ _⟩
end
end L2
namespace L2
open PySem PySem.Spec PyProof.Rows
noncomputable def ixN(n:Nat)(i:Int):Option Nat:=if 0<=i then(if i<n then some i.toNat else none)else if -(n:Int)<=i then some (i+n).toNat else none
noncomputable def atI{α:Type}(xs:List α)(i:Int):Option α:=(ixN xs.length i).bind fun j=>xs[j]?
theorem zV{n:Nat}{i:Int}{j:Nat}(h:ixN n i=some j):seqIndex? i n=some j/\j<n/\-(n:Int)<=i/\i<n:=by
 unfold ixN at h;by_cases h0:0<=i
 ·rw[if_pos h0]at h
  by_cases h1:i<n
  ·rw[if_pos h1]at h
   have e:i.toNat=j:=JR h;exact⟨by rw[RF h0 h1,e],by omega,by omega,h1⟩
  ·rw[if_neg h1]at h;cases h
 ·rw[if_neg h0]at h
  by_cases h1:-(n:Int)<=i
  ·rw[if_pos h1]at h
   have e:(i+n).toNat=j:=JR h;exact⟨by rw[Rb (by omega) h1,e],by omega,h1,by omega⟩
  ·rw[if_neg h1]at h;cases h
theorem zW{α:Type}{xs:List α}{i:Int}{v:α}(h:atI xs i=some v):∃j,seqIndex? i xs.length=some j/\xs[j]?=some v/\j<xs.length/\-(xs.length:Int)<=i/\i<xs.length:=by
 unfold atI at h;cases e:ixN xs.length i with
 |none=>rw[e]at h;cases h
 |some j=>
  rw[e]at h;obtain⟨h1,h2,h3,h4⟩:=zV e;exact⟨j,h1,h,h2,h3,h4⟩
theorem b8{α:Type}{xs:List α}{j:Nat}{v:α}(h:xs[j]?=some v):atI xs (j:Int)=some v:=by
 have hj:j<xs.length:=(JG.mp h).1;have e:ixN xs.length (j:Int)=some j:=by
  unfold ixN;rw[if_pos (by omega),if_pos (by omega)];simp
 unfold atI;rw[e];exact h
noncomputable def Gi(b:Expr):Prop:=∀o i,Qb b false o i=operate [o,i] (getItem o i)
noncomputable def IxR(X:Cx)(r:R2):Prop:=
 ∀(value slice:Expr)(pins:List (Addr×Obj))(s:Shared)(σ:St)(H:Hp)(x y:V)(v u:Value)(Q:VK),Inv X pins σ H s->aO x v->aO y u->r x y H Q->
  Qb slice false v u=operate [v,u] (getItem v u)->wpAny (model X.prog X.w) X.A (QP value slice v u) (EP X pins σ Q) X.xe s
noncomputable def MtR(X:Cx)(id:String)(r:V->List V->Hp->VK->Prop):Prop:=
 ∀(pins:List (Addr×Obj))(s:Shared)(σ:St)(H:Hp)(x:V)(xs:List V)(v:Value)(us:List Value)(Q:VK),Inv X pins σ H s->aO x v->aL xs us->r x xs H Q->
  wpAny (model X.prog X.w) X.A (call (.builtin id) (v::us)) (EP X pins σ Q) X.xe s
section
variable{X:Cx}{a b:Expr}{ta tb:TE}{pos:Pos}
theorem aH{r:R2}(hr:IxR X r)(ha:PE X a ta)(hb:PE X b tb)(hs:Gi b):PE X (.Subscript a b pos) (tOp r ta tb):=by
 intro pins s σ H Q I h;exact Si (DU ha hb I h fun v u s2 x y H2 I2 rx ry q=>hr a b pins s2 σ H2 x y v u Q I2 rx ry q (hs _ _))
noncomputable def bT(K:Fg):R2:=fun x y H Q=>∃p xs i v,x=.ref p/\y=.int i/\SqL K H p xs/\atI xs i=some v/\Q v H
noncomputable def bH(K:Fg):R2:=fun x y H Q=>∃p xs i v,x=.ref p/\y=.int i/\SqT K H p xs/\atI xs i=some v/\Q v H
theorem bg:IxR X (bT X.K):=by
 intro value slice pins s σ H x y v u Q I rx ry h hs;obtain⟨p,xs,i,z,rfl,rfl,hq,he,q⟩:=h;cases rx;obtain⟨t,rfl⟩:=ry;obtain⟨its,r,pl,hz⟩:=I.list hq;obtain⟨j,h1,h2,h3,h4,h5⟩:=zW he;obtain⟨w,ew,rw'⟩:=r.get h2;have hl:=r.length;have hn:=rS;have fin:EP X pins σ Q w s:=⟨z,H,I,rw',q⟩;by_cases h0:0<=i
 ·have hj:i.toNat=j:=by
   rw[RF h0 h5]at h1;exact JR h1
  exact item_listR pl.isList h0 (by omega) (by rw[hj];simpa using ew) fin hs
 ·have hj:(i+(its.toArray.size:Int)).toNat=j:=by
   rw[Rb (by omega) h4]at h1;rw[JU,<-hl];exact JR h1
  exact Qc (x:=w) pl.isList.typeIs slot_list_getitem.lookup
   (wpAny_getItem_list_neg (Q:=fun r s'=>r=w/\EP X pins σ Q r s') pl.isList (by omega) (by rw[JU]<;>omega) (by omega) (by rw[hj];simpa using ew) ⟨rfl,fin⟩) hs
theorem bh:IxR X (bH X.K):=by
 intro value slice pins s σ H x y v u Q I rx ry h hs;obtain⟨p,xs,i,z,rfl,rfl,hq,he,q⟩:=h;cases rx;obtain⟨t,rfl⟩:=ry;obtain⟨its,r,pl,hz⟩:=I.tuple hq;obtain⟨j,h1,h2,h3,h4,h5⟩:=zW he;obtain⟨w,ew,rw'⟩:=r.get h2;have hl:=r.length;have hn:=rS;have fin:EP X pins σ Q w s:=⟨z,H,I,rw',q⟩;exact Qc (x:=w) pl.typeIs slot_tuple_getitem.lookup
  (getItem_tuple (j:=j) (Q:=fun r s'=>r=w/\EP X pins σ Q r s') pl (by omega) (by omega) (by rw[JU,<-hl];exact h1) (by simpa using ew) ⟨rfl,fin⟩) hs
theorem AL(its:List Value)(n j:Nat)(u:Value):La (·.setIfInBounds j u) { cls:=.type "list",data:=.seq its.toArray n }={ cls:=.type "list",data:=.seq (its.set j u).toArray n }:=by
 simp[La]
theorem Inv.lst{pins:List (Addr×Obj)}{σ:St}{H:Hp}{s:Shared}{p:Addr}{xs:List V}(I:Inv X pins σ H s)(h:H p=some (.lst xs)):
  ∃(its:List Value)(n:Nat),aL xs its/\s.heap.get? p=some { cls:=.type "list",data:=.seq its.toArray n }/\xs.length<=JP:=by
 obtain⟨z,its,n,r,e⟩:=I.hok p _ h;exact⟨its,n,r,e,z⟩
theorem Inv.lstUpd{pins:List (Addr×Obj)}{σ:St}{H:Hp}{s:Shared}{p:Addr}{xs ys:List V}{its its':List Value}{n n':Nat}{f:Obj->Obj}(I:Inv X pins σ H s)(h:H p=some (.lst xs))
  (ho:s.heap.get? p=some { cls:=.type "list",data:=.seq its.toArray n }) (hf:f { cls:=.type "list",data:=.seq its.toArray n }={ cls:=.type "list",data:=.seq its'.toArray n' }) (r:aL ys its') (hz:ys.length<=JP) (t:Nat):
  Inv X pins σ (upd H p (.lst ys)) { s with heap:=s.heap.update p f,toks:=t }:=by
 have e:(s.heap.update p f).get? p=some { cls:=.type "list",data:=.seq its'.toArray n' }:=by
  rw[KH f ho (by rw[hf]<;>rfl),hf]
 refine I.write (x:=p) (e:=p) (by rw[h];trivial) (.inl rfl) (fun b u hb q=>(Lq _ _ (Lg hb)).trans q) ⟨_,e⟩ ?_;exact⟨hz,its',n',r,e⟩
noncomputable def lM:V->V->V->Hp->(Hp->Prop)->Prop:=fun o i v H Q=>∃p xs k j,o=.ref p/\i=.int k/\H p=some (.lst xs)/\ixN xs.length k=some j/\Q (upd H p (.lst (xs.set j v)))
theorem kY:Ay X lM:=by
 intro pins s σ H o i v ov iv u Q I ro ri rv h;obtain⟨p,xs,k,j,rfl,rfl,hp,hj,q⟩:=h;cases ro;obtain⟨t,rfl⟩:=ri;obtain⟨its,n,r,ho,hz⟩:=I.lst hp;obtain⟨h1,h2,h3,h4⟩:=zV hj;have hl:=r.length;have hn:=rS;have I':Inv X pins σ (upd H p (.lst (xs.set j v))) { s with heap:=s.heap.update p (La (·.setIfInBounds j u)) }:=
  I.lstUpd hp ho (AL its n j u) (r.set rv j) (by rw[LI];exact hz) s.toks
 by_cases h0:0<=k
 ·have hk:k.toNat=j:=by
   rw[RF h0 h4]at h1;exact JR h1
  exact PySem.W.ki_setAt ho h0 (by omega) (by rw[JU,<-hl];exact h4) (by rw[hk];exact⟨_,I',q⟩)
 ·have hk:(k+(its.toArray.size:Int)).toNat=j:=by
   rw[Rb (by omega) h3]at h1;rw[JU,<-hl];exact JR h1
  exact PySem.W.ki_setBack ho (by omega) (by rw[JU,<-hl];exact h3) (by omega) (by rw[hk];exact⟨_,I',q⟩)
noncomputable def dm:V->Bool
 | .non=>true
 | .bl _=>true
 | .int _=>true
 | .str _=>true
 |_=>false
noncomputable def eqV:V->V->Bool
 | .non,.non=>true
 | .bl a,.bl b=>a==b
 | .bl a,.int b=>(if a then 1 else 0)==b
 | .int a,.bl b=>a==(if b then 1 else 0)
 | .int a,.int b=>a==b
 | .str a,.str b=>a==b
 |_,_=>false
theorem Cp{A:Around}{s:Shared}{y x:V}{u v:Value}(ry:aO y u)(rx:aO x v)(fy:dm y=true)(fx:dm x=true):Ke A s u v (eqV y x):=by
 cases y with
 |non=>
  cases ry;cases x with
  |non=>cases rx;exact PY _
  |bl b=>cases rx;exact QC b
  |int b=>obtain⟨t,rfl⟩:=rx;exact QT b t
  |str b=>obtain⟨t,rfl⟩:=rx;exact Ke.none_str b t
  |_=>exact absurd (show false=true from fx) JQ
 |bl a=>
  cases ry;cases x with
  |non=>cases rx;exact QD a
  |bl b=>cases rx;exact QE a b
  |int b=>obtain⟨t,rfl⟩:=rx;exact QU a b t
  |str b=>obtain⟨t,rfl⟩:=rx;exact Ke.bool_str a b t
  |_=>exact absurd (show false=true from fx) JQ
 |int a=>
  obtain⟨t',rfl⟩:=ry;cases x with
  |non=>cases rx;exact QV a t'
  |bl b=>cases rx;exact QW a t' b
  |int b=>obtain⟨t,rfl⟩:=rx;exact Rc a t' b t
  |str b=>obtain⟨t,rfl⟩:=rx;exact Q1 a t' b t
  |_=>exact absurd (show false=true from fx) JQ
 |str a=>
  obtain⟨t',rfl⟩:=ry;cases x with
  |non=>cases rx;exact Ke.str_none a t'
  |bl b=>cases rx;exact Ke.str_bool a t' b
  |int b=>obtain⟨t,rfl⟩:=rx;exact Q2 a t' b t
  |str b=>obtain⟨t,rfl⟩:=rx;exact Ke.str_str a t' b t
  |_=>exact absurd (show false=true from fx) JQ
 |_=>exact absurd (show false=true from fy) JQ
noncomputable def eqU(x:V)(u:Value):Bool:=match u with
 | .none=>eqV .non x
 | .bool b=>eqV (.bl b) x
 | .int i _=>eqV (.int i) x
 | .str z _=>eqV (.str z) x
 |_=>false
theorem xz{x y:V}{u:Value}(r:aO y u)(f:dm y=true):eqU x u=eqV y x:=by
 cases y with
 |non=>cases r;rfl
 |bl b=>cases r;rfl
 |int i=>obtain⟨t,rfl⟩:=r;rfl
 |str z=>obtain⟨t,rfl⟩:=r;rfl
 |_=>exact absurd (show false=true from f) JQ
theorem uS{x:V}:∀{xs:List V} {us:List Value},aL xs us->xs.all dm=true->us.any (eqU x)=xs.any fun y=>eqV y x
 |_,_,.nil,_=>rfl
 |y::xs,u::us,.cons r t,f=>by
  rw[MX,K5]at f;rw[N1,N1,xz r f.1,uS t f.2]
theorem kZ{A:Around}{s:Shared}{x:V}{v:Value}(rx:aO x v)(fx:dm x=true):∀{xs:List V} {us:List Value},aL xs us->xs.all dm=true->∀u∈us,Ke A s u v (eqU x u)
 |_,_,.nil,_=>fun u hu=>by cases hu
 |y::xs,u::us,.cons r t,f=>fun u' hu=>by
  rw[MX,K5]at f;rcases JH.mp hu with rfl|hu
  ·rw[xz r f.1];exact Cp r rx f.1 fx
  ·exact kZ rx fx t f.2 u' hu
noncomputable def inV(x:V)(xs:List V):Bool:=xs.any fun y=>eqV y x
noncomputable def rIn(K:Fg)(neg:Bool):R2:=fun x y H Q=>∃p xs,y=.ref p/\(SqL K H p xs\/SqT K H p xs)/\dm x=true/\xs.all dm=true/\Q (.bl (if neg then !inV x xs else inV x xs)) H
theorem Cq:OpR X (Lk .In) (rIn X.K false):=by
 intro pins s σ H x y v u Q I rx ry h;obtain⟨p,xs,rfl,hq,fx,fs,q⟩:=h;cases ry;rcases hq with hq|hq
 ·obtain⟨its,r,pl,hz⟩:=I.list hq
  refine SeqAt.in_listAt (eqU x) pl.isList (fun w hw=>kZ rx fx r fs w (by simpa using hw)) ⟨.bl _,H,I,rfl,?_⟩;rw[show its.toArray.any (eqU x)=its.any (eqU x) by simp,uS r fs];exact q
 ·obtain⟨its,r,pl,hz⟩:=I.tuple hq
  refine SeqAt.in_tupleAt (eqU x) pl (fun w hw=>kZ rx fx r fs w (by simpa using hw)) ⟨.bl _,H,I,rfl,?_⟩;rw[show its.toArray.any (eqU x)=its.any (eqU x) by simp,uS r fs];exact q
theorem aD:cU X (.builtin "len") (fun xs H Q=>∃p ys,xs=[.ref p]/\(SqL X.K H p ys\/SqT X.K H p ys)/\Q (.int ys.length) H):=by
 intro pins s σ H xs us Q I r h;obtain⟨p,ys,rfl,hq,q⟩:=h;obtain⟨u,rfl,rx⟩:=lL r;cases rx;have hn:=rS;rcases hq with hq|hq
 ·obtain⟨its,r',pl,hz⟩:=I.list hq
  have hlen:=r'.length;exact Calls.call_len_list pl.isList (by simp only[JU]<;>omega) ⟨.int ys.length,H,I.tok _,⟨s.toks+1,by rw[JU,hlen]⟩,q⟩
 ·obtain⟨its,r',pl,hz⟩:=I.tuple hq
  have hlen:=r'.length;exact len_tuple pl (by simp only[JU]<;>omega) ⟨.int ys.length,H,I.tok _,⟨s.toks+1,by rw[JU,hlen]⟩,q⟩
theorem xB:cU X (.type "list") (fun xs H Q=>∃p ys,xs=[.ref p]/\(SqL X.K H p ys\/SqT X.K H p ys)/\∀l,H l=none->Q (.ref l) (upd H l (.lst ys))):=by
 intro pins s σ H xs us Q I r h;obtain⟨p,ys,rfl,hq,q⟩:=h;obtain⟨u,rfl,rx⟩:=lL r;cases rx;have fin:∀(its:List Value),aL ys its->ys.length<=JP->∀(h':Heap)(c':Nat),(∀b o',s.heap.get? b=some o'->h'.get? b=some o')->
   h'.get? s.heap.objs.size=some { cls:=.type "list",dict:=none,data:=.seq its.toArray c',slots:=#[] }->EP X pins σ Q (.ref s.heap.objs.size) { s with heap:=h' }:=fun its r' hz h' c' kp e=>
  ⟨.ref s.heap.objs.size,_,I.laid (t':=s.toks) kp (JF _) (show bI X.prog X.w _ h' _ (.lst ys)from⟨hz,its,c',r',e⟩),rfl,q _ (I.hok.fresh (JF _))⟩
 rcases hq with hq|hq
 ·obtain⟨its,r',pl,hz⟩:=I.list hq
  have hlen:=r'.length;obtain⟨o,ho,hc,n,hd⟩:=pl.isList;exact call_list_seq p (.inl rfl) ho hc hd (fun h' c' kp e=>fin its r' hz h' c' kp e) (by simp only[JU]<;>omega)
 ·obtain⟨its,r',pl,hz⟩:=I.tuple hq
  have hlen:=r'.length;obtain⟨o,ho,hc,n,hd⟩:=pl;exact call_list_seq p (.inr rfl) ho hc hd (fun h' c' kp e=>fin its r' hz h' c' kp e) (by simp only[JU]<;>omega)
theorem oo:cU X (.type "tuple") (fun xs H Q=>∃p ys,xs=[.ref p]/\((SqL X.K H p ys/\∀l,H l=none->Q (.ref l) (upd H l (.tup ys)))\/(SqT X.K H p ys/\Q (.ref p) H))):=by
 intro pins s σ H xs us Q I r h;obtain⟨p,ys,rfl,h⟩:=h;obtain⟨u,rfl,rx⟩:=lL r;cases rx;rcases h with⟨hq,q⟩|⟨hq,q⟩
 ·obtain⟨its,r',pl,hz⟩:=I.list hq
  have hlen:=r'.length;refine call_tuple_list pl.isList (fun h' kp=>?_) (by simp only[JU]<;>omega);have I1:Inv X pins σ H { s with heap:=h' }:=I.kept (t':=s.toks) kp;have I2:Inv X pins σ (upd H h'.objs.size (.tup ys)) { s with heap:=h'.push { cls:=.type "tuple",data:=.seq its.toArray } }:=
   I1.laid (t':=s.toks) (fun b o e=>JA _ e) (JF _) (show bI X.prog X.w _ _ _ (.tup ys)from⟨hz,its,r',d6.new _ _⟩)
  exact⟨.ref h'.objs.size,_,I2,rfl,q _ (I1.hok.fresh (JF _))⟩
 ·obtain⟨its,r',pl,hz⟩:=I.tuple hq
  exact call_tuple_same pl ⟨.ref p,H,I,rfl,q⟩
noncomputable def tyV(K:Fg)(T:String)(x:V)(H:Hp):Prop:=match x with
 | .str _=>T="str"
 | .int _=>T="int"
 | .ref p=>(T="list"/\∃xs,SqL K H p xs)\/(T="tuple"/\∃o,K.lookup p=some o/\o.cls=.type "tuple"/\o.dict=none)\/
   (T="dict"/\((∃kvs,H p=some (.dK kvs))\/∃kvs,H p=some (.dT kvs)))\/(T="set"/\∃S n,H p=some (.set S n))
 |_=>False
theorem Cr{pins:List (Addr×Obj)}{σ:St}{H:Hp}{s:Shared}{T:String}{x:V}{v:Value}(I:Inv X pins σ H s)(r:aO x v)(ty:tyV X.K T x H):
  s.TypeIs v T/\∀a,v=.ref a->∃ob,s.heap.get? a=some ob/\ob.dict=none:=by
 cases x with
 |str z=>
  obtain⟨t,rfl⟩:=r;cases (show T="str" from ty);exact⟨typeIs_str s z t,fun _ e=>nomatch e⟩
 |int i=>
  obtain⟨t,rfl⟩:=r;cases (show T="int" from ty);exact⟨Sj s i t,fun _ e=>nomatch e⟩
 |ref p=>
  cases r;rcases ty with⟨rfl,xs,hq⟩|⟨rfl,o,hk,hc,hd⟩|⟨rfl,hk⟩|⟨rfl,S,n,hk⟩
  ·obtain⟨its,_,pl,_⟩:=I.list hq
   refine⟨pl.isList.typeIs,fun a e=>?_⟩;cases e;obtain⟨o,n,e,c,hd,_⟩:=pl;exact⟨o,e,hd⟩
  ·refine⟨⟨o,I.kIn p o hk,hc⟩,fun a e=>?_⟩
   cases e;exact⟨o,I.kIn _ o hk,hd⟩
  ·have z:∃o,s.heap.get? p=some o/\o.ExactDict:=by
    rcases hk with⟨kvs,hk⟩|⟨kvs,hk⟩
    ·obtain⟨_,_,_,_,o,_,_,e,ex,_⟩:=I.hok p _ hk
     exact⟨o,e,ex⟩
    ·obtain⟨_,_,_,_,o,_,_,e,ex,_⟩:=I.hok p _ hk
     exact⟨o,e,ex⟩
   obtain⟨o,e,ex⟩:=z;refine⟨⟨o,e,ex.1⟩,fun a e2=>?_⟩;cases e2;exact⟨o,e,ex.2.1⟩
  ·obtain⟨o,_,_,_,e,ex,_⟩:=I.hok p _ hk
   refine⟨⟨o,e,ex.1⟩,fun a e2=>?_⟩;cases e2;exact⟨o,e,ex.2.1⟩
 |_=>exact LG ty
noncomputable def Ed(K:Fg)(T:String)(r:V->List V->Hp->VK->Prop)(to:TE):TE:=fun σ H Q=>to σ H fun x H1=>tyV K T x H1/\r x [] H1 Q
noncomputable def tBM(K:Fg)(T:String)(r:V->List V->Hp->VK->Prop)(to:TE)(t:TA):TE:=fun σ H Q=>to σ H fun x H1=>tyV K T x H1/\t σ H1 fun xs H2=>r x xs H2 Q
variable{o e:Expr}{es:List Expr}{to:TE}{t:TA}{name:Str}{apos cpos:Pos}{T id:String}{r:V->List V->Hp->VK->Prop}
theorem Hy(pa:Sk T)(slot:Slot T name id)(hty:typeOf (.builtin id)=pure (.type "method_descriptor"))(hm:MtR X id r)(ho:PE X o to)
  (hbase:MW o name X.env (eval o X.env)=eval o X.env:=by rfl) (hline:(apos.endLine==cpos.line)=true:=by rfl):PE X (.Call (.Attribute o name apos) [] [] cpos) (Ed X.K T r to):=by
 intro pins s σ H Q I h;refine wpAny_Call_method0_late hbase hline (thn (ho pins s σ H _ I h) fun v s1 ⟨x,H1,I1,r1,ty,q1⟩=>?_);obtain⟨h1,h2⟩:=Cr I1 r1 ty;exact⟨T,id,pa,slot,hty,h1,h2,M9 rfl (PySem.evalArgs_none (hm pins s1 σ H1 x [] v [] Q I1 r1 .nil q1))⟩
theorem iq(pa:Sk T)(slot:Slot T name id)(hty:typeOf (.builtin id)=pure (.type "method_descriptor"))(hm:MtR X id r)(ho:PE X o to)(ha:PA X (e::es) t)
  (hbase:MW o name X.env (eval o X.env)=eval o X.env:=by rfl)
  (hfew:((backTo cpos (J4 (e::es) X.env)).all (fun x=>!x.1)&&(N4 cpos (M8 [] X.env)).all (fun x=>x.1.isSome)
   &&decide ((e::es).length+([]:List Keyword).length+(if([]:List Keyword).isEmpty then 0 else 1)<30))=true:=by rfl)
  (hline:(apos.endLine==cpos.line)=true:=by rfl) (hs:J4 (e::es) X.env=(false,eval e X.env)::J4 es X.env:=by rfl) (hplain:(backTo cpos (J4 es X.env)).any (·.1)=false:=by rfl):
  PE X (.Call (.Attribute o name apos) (e::es) [] cpos) (tBM X.K T r to t):=by
 intro pins s σ H Q I h;refine NY hbase hfew hline rfl (thn (ho pins s σ H _ I h) fun v s1 ⟨x,H1,I1,r1,ty,q1⟩=>?_);obtain⟨h1,h2⟩:=Cr I1 r1 ty;refine⟨T,id,pa,slot,hty,h1,h2,?_⟩;have hA:=ha cpos pins s1 σ H1 _ I1 q1;rw[hs]at hA ⊢;refine M9 (by show(false||(backTo cpos (J4 es X.env)).any (·.1))=false;rw[hplain]<;>rfl) (Oj ?_);exact thn hA fun us s2 ⟨vs,H2,I2,r2,q2⟩=>hm pins s2 σ H2 x vs v us Q I2 r1 r2 q2
end
end L2
namespace L2
open PySem PySem.Spec PyProof.Rows
noncomputable def MtM(X:Cx)(id:String)(r:V->List V->Hp->VK->Prop):Prop:=
 ∀(pins:List (Addr×Obj))(s:Shared)(σ:St)(H:Hp)(x:V)(xs:List V)(v:Value)(us:List Value)(Q:VK),Inv X pins σ H s->aO x v->aL xs us->r x xs H Q->
  wpAny (model X.prog X.w) X.A (call (.builtin id) (v::us)) (EP X pins σ Q) X.xe s
theorem aL.one{x:V}{us:List Value}(h:aL [x] us):∃u,us=[u]/\aO x u:=by
 cases h with
 |cons r t=>cases t;exact⟨_,rfl,r⟩
theorem aL.two{x y:V}{us:List Value}(h:aL [x,y] us):∃u v,us=[u,v]/\aO x u/\aO y v:=by
 cases h with
 |cons r t=>cases t with
  |cons q z=>cases z;exact⟨_,_,rfl,r,q⟩
theorem aL.zero:∀{us:List Value},aL [] us->us=[]
 |_,.nil=>rfl
theorem aL.rep{xs:List V}{us:List Value}(h:aL xs us):∀k:Nat,aL (Km k xs).flatten (Km k us).flatten
 |0=>.nil
 |k+1=>by
  rw[MT,MT,NR,NR];exact aL.append h (aL.rep h k)
theorem vO(its:List Value):∀(k:Nat)(acc:List Value),
  Sl (fun x1 x2=>x1++x2) acc.toArray (Km k its.toArray)=(acc++(Km k its).flatten).toArray
 |0,acc=>by simp
 |k+1,acc=>by
  have e:acc.toArray++its.toArray=(acc++its).toArray:=by simp
  have e2:(acc++its)++(Km k its).flatten=acc++(Km (k+1) its).flatten:=by
   rw[MT,NR,Pf]
  rw[<-e2,<-vO its k (acc++its),<-e,MT,Sm]
section
variable{X:Cx}{pins:List (Addr×Obj)}{σ:St}{H:Hp}{s:Shared}{l b:Addr}{xs ys zs:List V}
theorem Inv.lset{its its':List Value}{n:Nat}{f:Array Value->Array Value}{t':Nat}(I:Inv X pins σ H s)(hH:H l=some (.lst xs))
  (e:s.heap.get? l=some { cls:=.type "list",data:=.seq its.toArray n }) (hf:f its.toArray=its'.toArray) (hv:aL ys its') (hz:ys.length<=JP):
  Inv X pins σ (upd H l (.lst ys)) { s with heap:=s.heap.update l (La f),toks:=t' }:=by
 have q:=PySem.IsL.update e f;rw[hf]at q;refine I.write (x:=l) (e:=l) (by rw[hH];exact trivial) (.inl rfl) (fun b' u hb hu=>(Lq s.heap (La f) (Lg hb)).trans hu) ⟨_,q⟩ ?_;exact⟨hz,its',_,hv,q⟩
theorem Inv.lnew{its:List Value}{t':Nat}(I:Inv X pins σ H s)(hv:aL ys its)(hz:ys.length<=JP):
  Inv X pins σ (upd H s.heap.objs.size (.lst ys)) { s with heap:=s.heap.push { cls:=.type "list",data:=.seq its.toArray },toks:=t' }:=
 I.laid (fun _ _ q=>JA _ q) (JF _) ⟨hz,its,0,hv,JM _ rfl⟩
theorem Inv.fresh(I:Inv X pins σ H s):H s.heap.objs.size=none:=I.hok.fresh (JF _)
theorem Inv.lstM(I:Inv X pins σ H s)(hH:H l=some (.lst xs)):xs.length<=JP/\∃(its:List Value)(n:Nat),aL xs its/\xs.length=its.length/\s.heap.get? l=some { cls:=.type "list",data:=.seq its.toArray n }:=by
 obtain⟨z,its,n,r,e⟩:=I.hok l _ hH;exact⟨z,its,n,r,r.length,e⟩
theorem xC{n:Nat}(h:n<=JP):MO n=false:=by
 unfold MO;exact decide_eq_false (by omega)
end
section
variable{X:Cx}
noncomputable def d8:V->List V->Hp->VK->Prop:=fun x vs H Q=>∃l xs y,x=.ref l/\vs=[y]/\H l=some (.lst xs)/\xs.length<JP/\Q .non (upd H l (.lst (xs++[y])))
theorem cW:MtM X "list.append" d8:=by
 intro pins s σ H x vs v us Q I rx rv h;obtain⟨l,xs,y,rfl,rfl,hH,hz,q⟩:=h;cases rx;obtain⟨u,rfl,ru⟩:=rv.one;obtain⟨z,its,n,r,hl,e⟩:=I.lstM hH;refine NI F.slot_list_append ⟨_,e,rfl⟩ F.entry_list_append (F.args_list_append_2 _ _) (PySem.list_append l its.toArray n u (by rw[JU];omega)) ⟨e,?_⟩;refine⟨.non,_,I.lset (its':=its++[u]) hH e (by simp) (r.append (.cons ru .nil)) ?_,rfl,q⟩;rw[JX,Qk];omega
noncomputable def uT:V->List V->Hp->VK->Prop:=fun x vs H Q=>∃l b xs zs,x=.ref l/\vs=[.ref b]/\H l=some (.lst xs)/\H b=some (.lst zs)/\xs.length+zs.length<=JP/\Q .non (upd H l (.lst (xs++zs)))
theorem Cs:MtM X "list.extend" uT:=by
 intro pins s σ H x vs v us Q I rx rv h;obtain⟨l,b,xs,zs,rfl,rfl,hH,hB,hz,q⟩:=h;cases rx;obtain⟨u,rfl,ru⟩:=rv.one;cases ru;obtain⟨z,its,n,r,hl,e⟩:=I.lstM hH;obtain⟨z2,its2,n2,r2,hl2,e2⟩:=I.lstM hB;have hsz:its.toArray.size+its2.toArray.size<=JP:=by rw[JU,JU];omega
 have hlong:¬(!its.toArray.isEmpty&&MO (its.toArray.size+its2.toArray.size))=true:=by
  rw[xC hsz,OD];exact JQ
 refine NI F.slot_list_extend ⟨_,e,rfl⟩ F.entry_list_extend (F.args_list_extend_2 _ _)
  (AutoSeq1.list_extend_list_list_0 l its.toArray n b its2.toArray n2 hlong (by rw[JU];omega) (by omega)) ⟨e,e2,?_⟩
 refine⟨.non,_,I.lset (its':=its++its2) hH e (by simp) (r.append r2) ?_,rfl,q⟩;rw[JX];omega
noncomputable def xD:V->List V->Hp->VK->Prop:=fun x vs H Q=>∃l xs,x=.ref l/\vs=[]/\H l=some (.lst xs)/\Q .non (upd H l (.lst []))
theorem Ee:MtM X "list.clear" xD:=by
 intro pins s σ H x vs v us Q I rx rv h;obtain⟨l,xs,rfl,rfl,hH,q⟩:=h;cases rx;have hus:=rv.zero;subst hus;obtain⟨z,its,n,r,hl,e⟩:=I.lstM hH;refine NI F.slot_list_clear ⟨_,e,rfl⟩ F.entry_list_clear (F.args_list_clear_1 _) (AutoSeq1.list_clear_list_0 l its.toArray n (by rw[JU];omega)) ⟨e,?_⟩;exact⟨.non,_,I.lset (its':=[]) (ys:=[]) hH e rfl .nil (Ks _),rfl,q⟩
noncomputable def Hz:R2:=fun x y H Q=>∃l b xs zs,x=.ref l/\y=.ref b/\H l=some (.lst xs)/\H b=some (.lst zs)/\xs.length+zs.length<=JP/\∀p,H p=none->Q (.ref p) (upd H p (.lst (xs++zs)))
theorem Ct:OpR X (MA .Add) Hz:=by
 intro pins s σ H x y v u Q I rx ry h;obtain⟨l,b,xs,zs,rfl,rfl,hH,hB,hz,q⟩:=h;cases rx;cases ry;obtain⟨z,its,n,r,hl,e⟩:=I.lstM hH;obtain⟨z2,its2,n2,r2,hl2,e2⟩:=I.lstM hB;refine PySem.P.add_list e e2 ?_ (by rw[JU,JU];omega);have ea:its.toArray++its2.toArray=(its++its2).toArray:=by simp
 rw[ea];exact⟨.ref _,_,I.lnew (t':=s.toks) (r.append r2) (by rw[JX];omega),rfl,q _ I.fresh⟩
noncomputable def Jm:R2:=fun x y H Q=>∃l k xs,x=.ref l/\y=.int k/\H l=some (.lst xs)/\-(2^63)<=k/\k<2^63/\xs.length*k.toNat<=JP/\
 ∀p,H p=none->Q (.ref p) (upd H p (.lst (Km k.toNat xs).flatten))
theorem Gj{α:Type}(xs:List α)(k:Nat):(Km k xs).flatten.length=k*xs.length:=by
 induction k with
 |zero=>simp
 |succ k ih=>rw[MT,NR,JX,ih,Nat.succ_mul,Nat.add_comm]
theorem HJ:OpR X (MA .Mult) Jm:=by
 intro pins s σ H x y v u Q I rx ry h;obtain⟨l,k,xs,rfl,rfl,hH,h1,h2,hz,q⟩:=h;cases rx;obtain⟨t,rfl⟩:=ry;obtain⟨z,its,n,r,hl,e⟩:=I.lstM hH;have hlen:its.toArray.size*k.toNat<=JP:=by rw[JU,<-hl];exact hz
 have hcap:¬its.toArray.size*k.toNat>(2^63-1)/8:=by
  have:(JP:Nat)<=(2^63-1)/8:=by decide
  omega
 have hfit:¬(!Builtin.List.listFitsIndex k)=true:=by
  rw[fitsIndex_both h1 h2];exact JQ
 have hlong:¬MO (its.toArray.size*k.toNat)=true:=by
  rw[xC hlen];exact JQ
 have hnew:Sl (fun x1 x2=>x1++x2) #[] (Km (if its.toArray.isEmpty=true then 0 else k.toNat) its.toArray)=(Km k.toNat its).flatten.toArray:=by
  have f0:∀m:Nat,Sl (fun x1 x2=>x1++x2) #[] (Km m its.toArray)=(Km m its).flatten.toArray:=fun m=>by
   have:=vO its m [];rw[List.nil_append]at this;exact this
  rw[f0];cases its with
  |nil=>simp
  |cons a r'=>rw[if_neg (by simp)]
 refine wpAny_binaryOp_repeat_ref (T:="list") (U:="int") (by decide) ⟨_,e,rfl⟩ (fun s'=>Sj s' k t) noFill_list_mul F.fills_int_mul Sn repeat_list F.slot_int_index.lookup
  (NI Sn (Sj s k t) F.entry_int_rmul (F.args_int_rmul_2 _ _) (int___rmul___int_list k t l its.toArray n)
   ⟨e,rfl,⟨_,e,rfl⟩,NI F.slot_list_mul ⟨_,e,rfl⟩ F.entry_list_mul (F.args_list_mul_2 _ _) (AutoListH.list___mul___list_int_3 l its.toArray n k t hfit hcap hlong) ⟨e,?_⟩⟩)
 rw[hnew];exact⟨.ref _,_,I.lnew (t':=s.toks) (r.rep k.toNat) (by rw[Gj,LP];exact hz),rfl,q _ I.fresh⟩
end
section
variable{prog:Program}{w:World}{A:Around}{E:Value->Shared->Prop}{s:Shared}
end
section
variable{X:Cx}
end
end L2
namespace Att
open PySem PySem.W PySem.Calls PyProof.Rows
theorem rY{P:Params}{h:Heap}:∀(ns:List Int)(vs:List Value),WellAll P h vs (ns.map WData.int)->IntsAre vs ns:=by
 intro ns
 induction ns with
 |nil=>
  intro vs w;rw[Ni]at w;cases w;exact .nil
 |cons n ns ih=>
  intro vs w;rw[JZ]at w;cases w with
  |cons a b=>
   cases a;exact .cons _ _ (ih _ b)
theorem Cu{l:OpenLaw}{n:Nat}(hn:l.most=some n){P:Params}{h:Heap}{args:List WData}{vals:List Value}
  (hpre:l.row.toRowW.claim.pre args=true) (hwl:WellAll P h vals args):
  ∃a vs ns,vals=[J8 a]/\args=[WData.list (ns.map WData.int)]/\h.get? a=some { cls:=.type "list",data:=.seq vs.toArray }/\IntsAre vs ns/\ns.length<=n:=by
 have hsh:WShape.hasAll [] args [.list .int]=true:=(pre_splitW hpre).1;have hc:l.pre.holds [] { args:=args }=true:=(pre_splitW hpre).2;obtain⟨d,r,rfl,h1,h2⟩:=hasAllW_cons hsh;obtain rfl:=hasAllW_nil h2;obtain⟨xs,rfl,h3⟩:=hasW_list h1;obtain⟨ns,rfl⟩:=items_int h3;have hlen:ns.length<=n:=by
  unfold OpenLaw.pre at hc;have h4:(WTm.not (.lt (.lit (.int (n:Int))) (.len (.arg 0)))).holds [] { args:=[.list (ns.map .int)] }=true:=by
   have h4:=(holds_andW hc).1;rw[hn]at h4;exact h4
  have h5:=condW_of h4 (w_not (w_lt w_lit (w_len_list (w_arg rfl))));rw[JB]at h5;refine Py fun q=>?_;have q':(n:Int)<((ns.length:Nat):Int):=by omega
  first
   | (rw[decide_eq_true q']at h5;exact absurd h5 (by decide))
   | (simp at h5;omega)
 cases hwl with
 |cons w1 w2=>
  cases w2;cases w1 with
  |list ho hall=>exact⟨_,_,ns,rfl,rfl,ho,rY ns _ hall,hlen⟩
theorem Cv(l:OpenLaw)(args:List WData):l.row.toRowW.claim.post args (.bool true) args=true:=
 postW_of (r:=l.row.toRowW) (X:=(true==true))
  (show WShape.has [] (.bool true) .bool=true by first|rfl|decide|simp[WShape.has,WShape.arms,WShape.armsAll])
  (show(WTm.eq .res (.lit (.bool true))).value [] { args:=args,res:=some (.bool true),after:=args }=some (.bool (true==true))from w_eq_bool (w_res rfl) w_lit) rfl
section
variable{prog:Program}{w:World}{A:Around}{E:Value->Shared->Prop}{s:Shared}{K:Frag}
end
end Att
namespace L2
open PySem PySem.Spec PyProof.Rows
theorem oO:∀{vs:List Value} {ns:List Int},IntsAre vs ns->aL (ns.map V.int) vs
 |_,_,.nil=>.nil
 |_,_,.cons n t h=>.cons ⟨t,rfl⟩ (oO h)
noncomputable def HK(H:Hp):Prop:=∀b,H b=none\/∃o xs,H b=some (.frz o (.lst xs))
theorem Ef{P:Program}{w:World}{K:Fg}{mg mb:Str->Option Value}{CX:CXT}{k:Nat}{fa a:Addr}{fd:JV}{x:Str}{sp:Sp}{s₁:Shared}{vs:List Value}{ns:List Int}
  (KX:K.In s₁.heap) (hns:s₁.heap.Ns Kb mg) (hb:s₁.heap.Ns Sd mb) (hbb:∀x:Str,x≠"__name__"->mb x=Ny x) (hlim:s₁.heap.NoLimit) (hg:s₁.gens=#[])
  (ha:s₁.heap.get? a=some { cls:=.type "list",data:=.seq vs.toArray }) (hi:IntsAre vs ns) (hl:ns.length<=JP) (hr:cc k callerA)
  (F:∀base:Heap,K.In base->base.Ns Kb mg->gi P w K mg base CX k fa fd [x] sp) (hbind:∀(s:Shared)(u:Value),BindsTo s fd ⟨[u],[]⟩ [(x,u)])
  (hsp:∀H:Hp,HK H->SqL K H a (ns.map V.int)->sp [.ref a] H (fun v _=>v=.bl true) fun _ _ _=>False)
  (hCX:∀H e s',CX [] H s₁ (fun _ _ _=>False) e s'->False):
  codeAny (model P w) callerA (.call (.ref fa) ⟨[.ref a],[]⟩) (fun r s'=>r=.ok (.ret (.bool true))/\OldK s₁.heap s'.heap/\s'.os=s₁.os/\AllBare s'.gens) s₁:=by
 have rv:=oO hi;have lenV:=hi.length;have core:∀H:Hp,HK H->SqL K H a (ns.map V.int)->HOk P w H s₁.heap->(∀b,H b≠none->b=a)->(H a≠none->K.lookup a=none)->
   codeAny (model P w) callerA (.call (.ref fa) ⟨[.ref a],[]⟩) (fun r s'=>r=.ok (.ret (.bool true))/\OldK s₁.heap s'.heap/\s'.os=s₁.os/\AllBare s'.gens) s₁:=by
  intro H hO hS hok hA hK;have base_of:∀{b:Addr} {o:Obj},s₁.heap.get? b=some o->H b=none->(m7 s₁.heap H).get? b=some o:=fun e n=>DQ e n;have noA:∀{b:Addr} {o:Obj} {es:Array Q5} {ep:Nat},s₁.heap.get? b=some o->o.data=.dict es ep->H b=none:=fun{b o es ep} e d=>by
   cases q:H b with
   |none=>rfl
   |some u=>
    have e':b=a:=hA b (by rw[q];simp);subst e';rw[ha]at e;cases e;have d':Data.seq vs.toArray _=Data.dict es ep:=d;cases d'
  have nsK:∀{b:Addr} {m:Str->Option Value},s₁.heap.Ns b m->(m7 s₁.heap H).Ns b m:=fun{b m} ⟨o,es,ep,e,d,r⟩=>⟨o,es,ep,base_of e (noA e d),d,r⟩;have hKb:K.In (m7 s₁.heap H):=fun b o e=>base_of (KX b o e) (by
   cases q:H b with
   |none=>rfl
   |some u=>
    have e':b=a:=hA b (by rw[q];simp);subst e';rw[hK (by rw[q];simp)]at e;cases e)
  have hM:Mod K mg (m7 s₁.heap H):=⟨hKb,nsK hns,⟨mb,nsK hb,hbb⟩,let⟨mc,h1,h2⟩:=hlim;⟨mc,nsK h1,h2⟩⟩;have e0:rc P w K mg (m7 s₁.heap H) callerA [] s₁ H:=⟨rfl,hM,fun b o e=>F7 e,MM (Ce _ _),trivial,fun b hb=>absurd (show b∈([]:List Addr)from hb) (by simp),hok,.of_eq hg⟩;refine MN ((F _ hKb (nsK hns)).run callerA [] s₁ H ⟨[.ref a],[]⟩ [.ref a] [.ref a] _ _ hr e0 (hbind s₁ (.ref a)) (.cons rfl .nil) (hsp H hO hS)) fun r s' h=>?_;cases r with
  |error e=>exact(hCX H e s' h).elim
  |ok fl=>
   cases fl with
   |next=>exact LG h
   |brk=>exact LG h
   |cont=>exact LG h
   |ret u=>
    obtain⟨v,H',os,bare,un,hok',r',q⟩:=h;have q':v=.bl true:=q;subst q';obtain rfl:u=KP true:=r';refine⟨rfl,OldK.of_keep fun b o e=>?_,os,bare⟩;cases q:H b with
    |none=>exact un.keep b o e q (by intro z;exact absurd (show b∈([]:List Addr)from z) (by simp)) (by simp)
    |some u=>
     rcases hO b with z|⟨ob,xs,z⟩
     ·rw[q]at z;cases z
     ·have z2:=un.frzs b ob _ z
      obtain⟨e1,_⟩:=hok b _ z;obtain⟨e2,_⟩:=hok' b _ z2;rw[e]at e1;cases e1;exact e2
 cases hk:K.lookup a with
 |some o=>
  have e:=KX a o hk;rw[ha]at e;cases e;refine core (fun _=>none) (fun _=>.inl rfl) (.inr ⟨_,vs.toArray,_,hk,rfl,rfl,rfl,by rw[JU,lenV];exact hl,by simpa using rv⟩) (fun b u z=>by have z':(none:Option HO)=some u:=z;cases z') (fun b z=>absurd rfl z) fun z=>absurd rfl z
 |none=>
  refine core (fun b=>if b=a then some (.frz { cls:=.type "list",data:=.seq vs.toArray } (.lst (ns.map V.int)))else none) (fun b=>?_) (.inl (.inr ⟨{ cls:=.type "list",data:=.seq vs.toArray },if_pos rfl⟩)) (fun b u z=>?_) (fun b z=>?_) fun _=>hk
  ·by_cases hb:b=a
   ·exact .inr ⟨_,_,if_pos hb⟩
   ·exact .inl (if_neg hb)
  ·by_cases hb:b=a
   ·have z':=(if_pos hb).symm.trans z
    cases z';subst hb;exact⟨ha,by rw[JB];exact hl,vs,_,rv,ha⟩
   ·have z':=(if_neg hb).symm.trans z
    cases z'
  ·by_cases hb:b=a
   ·exact hb
   ·exact absurd (if_neg hb) z
end L2
namespace L2
open PySem PySem.Spec PyProof.Rows
end L2
namespace L2
open PySem PySem.Spec PyProof.Rows
noncomputable def h9(s:Stmt)(j:Nat):Stmt:=match s with
 | .ClassDef _ _ _ body _ _ _ _ _ _ _=>body.getD j (.Pass ⟨0,0,0,0⟩)
 |_=>.Pass ⟨0,0,0,0⟩
noncomputable def jn(s:Stmt):Arguments:=match s with
 | .FunctionDef _ a _ _ _ _ _ _ _ _=>a
 |_=>{ posonlyargs:=[],args:=[],vararg:=none,kwonlyargs:=[],kw_defaults:=[],kwarg:=none,defaults:=[] }
noncomputable def d9(s:Stmt):List Stmt:=match s with
 | .FunctionDef _ _ b _ _ _ _ _ _ _=>b
 |_=>[]
noncomputable def aj(s:Stmt):Scope:=match s with
 | .FunctionDef _ _ _ _ _ _ sc _ _ _=>sc
 |_=>{ kind:=.function,names:=[],isGenerator:=false,isCoroutine:=false }
noncomputable abbrev CX0:CXT:=fun _ _ _ _ _ _=>False
noncomputable abbrev E0:XK:=fun _ _ _=>False
theorem w5{X:Cx}:kX CX0 X E0:=fun _ _ _ _ _ _ _ h=>h.elim
structure Fun(K:Fg)(x qual:Str)(st:Stmt)(f:Addr)(fd:JV):Prop where
 ex:∃(oc:Value)(od:Option Addr)(kV doc pm:Value)(an:Option Addr)(cdv ct:Value)(osl:Array (Option Value)),
  fd=Nz x qual (jn st) (d9 st) (aj st) .none kV doc pm an cdv ct/\K.lookup f=some ⟨oc,od,.func fd,osl⟩/\Qj K cdv qual=true
 kp:Nh K (.ref f)=true
section
variable{P:Program}{w:World}{K:Fg}{mg:Str->Option Value}{base:Heap}
theorem Fun.ok{x qual:Str}{st:Stmt}{f:Addr}{fd:JV}{N ps:List Str}{k:Nat}{sp:Sp}(F:Fun K x qual st f fd)(S:ax N ps (aj st))(len:∀vs H Q E,sp vs H Q E->vs.length=ps.length)
  (hbody:∀(cdv:Value)(A:Around)(outer:List Env)(s:Shared)(H:Hp)(vs:List V)(Q:VK)(E:XK),cc k (A.deeper (envOfC qual (aj st) s.heap.objs.size f cdv))->sp vs H Q E->
   ∃t,PSs (m9 CX0 P w K mg base N qual (aj st) f cdv A outer s H E).nox (d9 st) t/\t { nx:=fun _ H'=>Q .non H',rt:=Q } (start N vs) H):gi P w K mg base CX0 (k+1) f fd ps sp:=by
 obtain⟨oc,od,kV,doc,pm,an,cdv,ct,osl,rfl,lk,hcd⟩:=F.ex;refine IG lk hcd S len fun A outer s H vs Q E hr hsp=>?_;obtain⟨t,h,q⟩:=hbody cdv A outer s H vs Q E hr hsp;exact⟨t,h.nox,q⟩
theorem Fun.binds{x qual:Str}{st:Stmt}{f:Addr}{fd:JV}{ps:List Str}(F:Fun K x qual st f fd)
  (h:∀(kV doc pm:Value)(an:Option Addr)(cdv ct:Value)(us:List Value),us.length=ps.length->bindArgs (Nz x qual (jn st) (d9 st) (aj st) .none kV doc pm an cdv ct) ⟨us,[]⟩=pure (ps.zip us)):eK K fd ps []:=by
 obtain⟨oc,od,kV,doc,pm,an,cdv,ct,osl,rfl,lk,hcd⟩:=F.ex;exact .all (h kV doc pm an cdv ct)
theorem Cw{x qual:Str}{st:Stmt}{f:Addr}{oc:Value}{od an:Option Addr}{osl:Array (Option Value)}{kV doc pm cdv ct:Value}(l:K.lookup f=some ⟨oc,od,.func (Nz x qual (jn st) (d9 st) (aj st) .none kV doc pm an cdv ct),osl⟩)
  (c:Qj K cdv qual=true) (k:Nh K (.ref f)=true):Fun K x qual st f (Nz x qual (jn st) (d9 st) (aj st) .none kV doc pm an cdv ct):=⟨⟨oc,od,kV,doc,pm,an,cdv,ct,osl,rfl,l,c⟩,k⟩
end
theorem Cy{n:Nat}(h:n<=1000):n<JP:=MZ h (by decide)
section
variable{X:Cx}
theorem pv(i:Nat){x:Str}{pos:Pos}(hN:X.N[i]?=some x:=by rfl)(hv:Vis X.env.scope x:=by first|exact Ql rfl|exact Ms (Ql rfl)|exact Ms (Ms rfl))(hd:(x==("__debug__":Str))=false:=by decide)
  (hcd:(x==("__classdict__":Str))=false:=by decide):PE X (.Name x pos) (aa i):=Hq hN hv hd hcd
end
theorem kh{A B:Prop}(h:B):if false=true then A else B:=by
 rw[if_neg JQ];exact h
theorem ki{A B:Prop}(h:A):if true=true then A else B:=by
 rw[if_pos rfl];exact h
noncomputable def am(H H':Hp):Prop:=∀b o,H b=some o->H' b=some o
theorem am.refl(H:Hp):am H H:=fun _ _ h=>h
theorem am.trans{H H1 H2:Hp}(a:am H H1)(b:am H1 H2):am H H2:=fun c o h=>b c o (a c o h)
theorem am.free{H H':Hp}(e:am H H'){l:Addr}(h:H' l=Option.none):H l=Option.none:=by
 cases q:H l with
 |none=>rfl
 |some o=>
  rw[e l o q]at h;cases h
theorem am.seq{K:Fg}{H H':Hp}{a:Addr}{xs:List V}(e:am H H')(h:SqL K H a xs):SqL K H' a xs:=by
 rcases h with(h|⟨o,h⟩)|h
 ·exact .inl (.inl (e _ _ h))
 ·exact .inl (.inr ⟨o,e _ _ h⟩)
 ·exact .inr h
end L2
end
namespace L2
open PySem PyProof.Rows
section
open PySem.Spec
theorem kj{a b:Addr}{n:Nat}(h:a<n)(h':n<=b):a≠b:=Kg (J2 h h')
theorem HL{a b:Addr}{n:Nat}(h:n<=a)(h':b<n):a≠b:=LA (J2 h' h)
noncomputable def cR(env:Env):List (Str×Kt)->List (Str×Addr)->List (Str×Addr)
 | [],acc=>acc
 | (n,k)::r,acc=>if k=.free then(match env.cells.lookup n with|some c=>cR env r ((n,c)::acc)|none=>cR env r acc)else cR env r acc
theorem kE{env:Env}:∀(ns:List (Str×Kt))(acc:List (Str×Addr)),(∀p∈acc,env.cells.lookup p.1=some p.2)->∀p∈cR env ns acc,env.cells.lookup p.1=some p.2
 | [],acc,h=>by intro p hp;exact h p hp
 | (n,k)::r,acc,h=>by
  intro p hp;rw[cR]at hp
  split at hp
  ·split at hp
   ·rename_i c hc
    refine kE r _ (fun q hq=>?_) p hp;rcases JH.mp hq with rfl|hq
    ·exact hc
    ·exact h q hq
   ·exact kE r acc h p hp
  ·exact kE r acc h p hp
theorem nh{env:Env}:∀(ns:List (Str×Kt))(acc:List (Str×Addr)),∀p∈acc,p∈cR env ns acc
 | [],acc=>fun p hp=>hp
 | (n,k)::r,acc=>fun p hp=>by
  rw[cR]
  split
  ·split
   ·exact nh r _ p (JO _ hp)
   ·exact nh r acc p hp
  ·exact nh r acc p hp
theorem ni{env:Env}:∀(ns:List (Str×Kt))(acc:List (Str×Addr))(x:Str)(c:Addr),(x,Lh)∈ns->env.cells.lookup x=some c->(x,c)∈cR env ns acc
 | [],acc,x,c=>fun h _=>(nomatch h)
 | (n,k)::r,acc,x,c=>fun h hc=>by
  rw[cR];rcases JH.mp h with e|h
  ·cases e
   rw[if_pos rfl,hc];exact nh r _ _ JI
  ·split
   ·split
    ·exact ni r _ x c h hc
    ·exact ni r acc x c h hc
   ·exact ni r acc x c h hc
theorem oq{α:Type}{x:Str}{c:α}:∀{l:List (Str×α)},(x,c)∈l->∃d,l.lookup x=some d
 | (y,d)::r,h=>by
  rw[KC];cases e:x==y with
  |true=>exact⟨d,rfl⟩
  |false=>
   rcases JH.mp h with q|q
   ·cases q
    rw[beq_self_eq_true]at e;cases e
   ·exact oq q
theorem ci{env:Env}{ns:List (Str×Kt)}{x:Str}{c:Addr}(h:(cR env ns []).lookup x=some c):env.cells.lookup x=some c:=
 kE ns [] (fun _ hp=>(nomatch hp)) (x,c) (Kn h)
theorem lN{env:Env}{ns:List (Str×Kt)}{x:Str}{c:Addr}(hm:(x,Lh)∈ns)(hc:env.cells.lookup x=some c):(cR env ns []).lookup x=some c:=by
 obtain⟨d,hd⟩:=oq (ni ns [] x c hm hc);have e:=ci hd;rw[hc]at e;cases e;exact hd
theorem kF{scope:Scope}{env:Env}(h:∀y∈scope.names,y.2=.free->∃c,env.cells.lookup y.1=some c):Ol scope env=pure (cR env scope.names []):=by
 have go:∀(ns:List (Str×Kt))(acc:List (Str×Addr)),(∀y∈ns,y.2=.free->∃c,env.cells.lookup y.1=some c)->
   (forIn ns acc fun(x:Str×Kt)(cs:List (Str×Addr))=>(match x with
    | (name,kind)=>if(kind==Lh)=true then(do let c <-cellOf env name;pure (M0 ((name,c)::cs)))else pure (M0 cs):Sem (ForInStep (List (Str×Addr)))))=(pure (cR env ns acc):Sem (List (Str×Addr))):=by
  intro ns
  induction ns with
  |nil=>intro acc _;rfl
  |cons y r ih=>
   intro acc hy;obtain⟨n,k⟩:=y;have ih':=fun acc=>ih acc fun z hz=>hy z (JO _ hz);rw[Nw,cR];by_cases hk:k=.free
   ·subst hk
    obtain⟨c,hc⟩:=hy (n,.free) JI rfl;have hc':env.cells.lookup n=some c:=hc;simp only[beq_self_eq_true,if_true,cellOf,hc',pure_bind];exact ih' _
   ·have hb:(k==Lh)=false:=by simpa using hk
    simp only[hb,KW,if_false,pure_bind,if_neg hk];exact ih' _
 unfold Ol;have g:=go scope.names [] h;simp only[bind_pure];exact g
structure oP(sc scope:Scope)(NX N:List Str)(ix:List (Option Nat)):Prop where
 kind:scope.kind=.function
 nocell:∀y∈scope.names,y.2≠.cell
 names:∀y∈scope.names,y.2=.local->scope.names.lookup y.1=some .local
 free:∀y∈scope.names,y.2=.free->sc.names.lookup y.1=some .cell\/sc.names.lookup y.1=some .free
 nd:N.Nodup
 len:ix.length=N.length
 at_:∀p∈N.zip ix,∀i∈p.2,NX[i]?=some p.1/\scope.names.lookup p.1=some .free
noncomputable def sub(ix:List (Option Nat))(σ:St):St:=ix.map fun o=>match o with|some i=>(match σ[i]? with|some v=>v|none=>none)|none=>none
noncomputable def cy(X:Cx)(N:List Str)(scope:Scope)(C:Addr)(s:Shared)(H:Hp)(fp:List Addr):Cx where
 prog:=X.prog
 w:=X.w
 K:=X.K
 mg:=X.mg
 base:=X.base
 A:=X.A
 N:=N
 s₀:=s
 H₀:=H
 env:=N5 scope (cR X.env scope.names []) C X.env
 outer:=X.stack
 stack:=X.stack
 ex:=fp
 fn:=fun _=>false
 calm:=X.calm
 pn:=[]
 xe:=fun _ _=>False
theorem ir{scope:Scope}{env:Env}{x:Str}{k:Kt}(h:(relabel scope env).names.lookup x=some k):scope.names.lookup x=some k\/(k=.cell/\scope.names.lookup x=some .free):=by
 have go:∀ns:List (Str×Kt),(ns.map fun(n,k)=>if(k==Lh&&env.scope.kind== .function&&env.kindOf n==some .cell)then(n,Np)else(n,k)).lookup x=some k->
   ns.lookup x=some k\/(k=.cell/\ns.lookup x=some .free):=by
  intro ns
  induction ns with
  |nil=>intro q;simp at q
  |cons y r ih=>
   obtain⟨n,k'⟩:=y;intro q;rw[JZ]at q;by_cases hc:(k'==Lh&&env.scope.kind== .function&&env.kindOf n==some .cell)=true
   ·simp only[hc,if_true]at q
    have hk':k'=.free:=by
     have:=(K5 _ _▸hc);have h1:=(K5 _ _▸this.1);exact eq_of_beq h1.1
    subst hk';rw[KC]at q ⊢;cases e:x==n with
    |true=>
     rw[e]at q;cases q;exact .inr ⟨rfl,rfl⟩
    |false=>
     rw[e]at q;exact ih q
   ·simp only[hc]at q
    rw[if_neg (by simp)]at q;rw[KC]at q ⊢;cases e:x==n with
    |true=>rw[e]at q;exact .inl q
    |false=>rw[e]at q;exact ih q
 exact go scope.names h
theorem oQ{scope:Scope}{env:Env}{x:Str}(h:scope.names.lookup x=some .free):(relabel scope env).names.lookup x=some .cell\/(relabel scope env).names.lookup x=some .free:=by
 have go:∀ns:List (Str×Kt),ns.lookup x=some .free->
   (ns.map fun(n,k)=>if(k==Lh&&env.scope.kind== .function&&env.kindOf n==some .cell)then(n,Np)else(n,k)).lookup x=some .cell\/
   (ns.map fun(n,k)=>if(k==Lh&&env.scope.kind== .function&&env.kindOf n==some .cell)then(n,Np)else(n,k)).lookup x=some .free:=by
  intro ns
  induction ns with
  |nil=>intro q;simp at q
  |cons y r ih=>
   obtain⟨n,k'⟩:=y;intro q;rw[JZ];rw[KC]at q;cases e:x==n with
   |true=>
    rw[e]at q;cases q;by_cases hc:(Lh==Lh&&env.scope.kind== .function&&env.kindOf n==some .cell)=true
    ·simp only[hc,if_true]
     rw[KC,e];exact .inl rfl
    ·simp only[hc]
     rw[if_neg (by simp),KC,e];exact .inr rfl
   |false=>
    rw[e]at q;have z:=ih q;by_cases hc:(k'==Lh&&env.scope.kind== .function&&env.kindOf n==some .cell)=true
    ·simp only[hc,if_true]
     rw[KC,e];exact z
    ·simp only[hc]
     rw[if_neg (by simp),KC,e];exact z
 exact go scope.names h
theorem Inv.gone{X:Cx}{pins:List (Addr×Obj)}{σ σ₂:St}{H H₂:Hp}{s s₂:Shared}{C:Addr}{h'':Heap}(I:Inv X pins σ H s)(I2:Inv X pins σ₂ H₂ s₂)(hC:s₂.heap.objs.size<=C)(hn:H C=none)(hs:J0 C s.heap h''):Inv X pins σ H { s with heap:=h'' }:=
 I.turned (t':=s.toks) (it:=C) (fun b o hb e=>hs.extBut b o hb e) hn (LA (J2 I2.lt hC)) (.inr (Kc I2.sz hC))
  (fun x c e=>by
   obtain⟨v,o,ho,_⟩:=I2.cell x c e;exact kj (JL ho) hC) fun q hq=>kj (JL (I2.pin q hq).1) hC
noncomputable def PTL(X:Cx)(ifs:List Expr)(t:TT):Prop:=
 ∀(pins:List (Addr×Obj))(s:Shared)(σ:St)(H:Hp)(Q:Bool->Hp->Prop),Inv X pins σ H s->t σ H Q->
  wpAny (model X.prog X.w) X.A (forIn ifs true fun c r=>if r=true then do let ok <-isTrue c X.env (eval c X.env);pure (M0 ok)else pure (M0 r)) (TP X pins σ Q) X.xe s
noncomputable def aS:TT:=fun _ H Q=>Q true H
theorem bi{X:Cx}:PTL X [] aS:=fun _ _ _ H _ I h=>wpAny_tests_nil ⟨H,I,h⟩
theorem jo{X:Cx}{c:Expr}{t:TT}(h:PT X c t):PTL X [c] t:=fun pins s σ H Q I q=>wpAny_tests_one (h pins s σ H Q I q)
noncomputable def bE(J:It)(g:TG)(tt:TT)(te:TE)(σ₀:St)(p:Addr)(Q:VK)(W:Nat->Nat->List V->Hp->Prop):Prop:=
 ∀i m acc H,W i m acc H->H p=some (.lst acc)/\
  ((J.stop i H/\Q (.ref p) H)\/(J.go i H/\acc.length<JP/\∃N:List V->Hp->Prop,(∀acc' H',N acc' H'->∃m',m'<m/\W (i+1) m' acc' H')/\
   ∀x H1,J.yld i H x H1->g x σ₀ H1 fun σ2 H2=>tt σ2 H2 fun b H3=>if b=true then te σ2 H3 fun y H4=>H4 p=some (.lst acc)/\N (acc++[y]) (upd H4 p (.lst (acc++[y])))else N acc H3))
noncomputable abbrev CF(α:Type):=Addr->Shared->Hp->List Addr->α
noncomputable def bo(wi:TI)(g:CF TG)(tt:CF TT)(te:CF TE)(ix:List (Option Nat)):TE:=fun σ H Q=>wi σ H fun J H1=>∀p,H1 p=none->
 ∃W:Nat->Nat->List V->Hp->Prop,(∃m,W 0 m [] (upd H1 p (.lst [])))/\∀C s' H' fp,bE J (g C s' H' fp) (tt C s' H' fp) (te C s' H' fp) (sub ix σ) p Q W
section
variable{X:Cx}{elt tg iter:Expr}{ifs:List Expr}{scope sc:Scope}{pos:Pos}{NX N:List Str}{ix:List (Option Nat)}{wi:TI}{g:CF TG}{tt:CF TT}{te:CF TE}
theorem vP{prog:Program}{w:World}{A:Around}{R:Result->Shared->Prop}{s:Shared}{it acc:Value}{env:Env}(I:Nat->Shared->Prop)
  (turn:∀n s,I n s->wpAny (model prog w) A (pyNext it) (fun r s₁=>match r with
   |none=>R (.ok .next) s₁
   |some v=>wpAny (model prog w) A (Og tg it v) (fun _ s₁'=>wpAny (model prog w) A (assign tg env v) (fun _ s₂=>
     wpAny (model prog w) A (forIn ifs true fun c r=>if r=true then do let ok <-isTrue c env (eval c env);pure (M0 ok)else pure (M0 r)) (fun ok s₃=>
      if ok=true then wpAny (model prog w) A (eval elt env) (fun x s₄=>
       wpAny (model prog w) A (call (.builtin "list.append") [acc,x]) (fun _ s₅=>∃m,m<n/\I m s₅) (fun _ _=>False) s₄) (fun _ _=>False) s₃
      else∃m,m<n/\I m s₃) (fun _ _=>False) s₂) (fun _ _=>False) s₁') (fun _ _=>False) s₁) (fun _ _=>False) s)
  (n:Nat) (h:I n s):codeAny (model prog w) A (.compLoop (.ListComp elt [⟨tg,iter,ifs,0⟩] scope pos) 0 it acc env) R s:=by
 refine codeAny_loop rfl I (fun n s hI=>?_) n h;show wpAny _ A ((compTurn (.ListComp elt [⟨tg,iter,ifs,0⟩] scope pos) 0 it acc env).onRaise (fun x=>do noteFrame x env;theTreesLotGoes x)) _ _ s;refine wpAny_noted ?_;rw[compTurn_list];refine Jz (OZ (Jz (Lj (turn n s hI) (fun r s₁ h₁=>?_) fun _ _ z=>z.elim)));cases r with
 |none=>exact JC h₁
 |some v=>
  refine Jz (Lj h₁ (fun _ s₁' h₁'=>?_) fun _ _ z=>z.elim);refine Jz (Lj h₁' (fun _ s₂ h₂=>Jz (Lj h₂ (fun ok s₃ h₃=>?_) fun _ _ z=>z.elim)) fun _ _ z=>z.elim);cases ok with
  |false=>exact JC ⟨rfl,h₃⟩
  |true=>exact Jz (Jz (Lj h₃ (fun x s₄ h₄=>Jz (Lj h₄ (fun _ s₅ h₅=>JC (JC ⟨rfl,h₅⟩)) fun _ _ z=>z.elim)) fun _ _ z=>z.elim))
theorem rZ{pins:List (Addr×Obj)}{σ:St}{H:Hp}{s:Shared}{fp:List Addr}{it:Addr}{J:It}{tn:Nat->Heap->Prop}{Q:VK}{E:Value->Shared->Prop}{RR:Value->Addr->Result->Shared->Prop}
  (hc:X.calm=true) (hsc:X.env.scope=sc) (hNX:X.N=NX) (S:oP sc scope NX N ix)
  (hg:∀C s H fp,PG (cy X N scope C s H fp) tg (g C s H fp)) (ht:∀C s H fp,PTL (cy X N scope C s H fp) ifs (tt C s H fp)) (he:∀C s H fp,PE (cy X N scope C s H fp) elt (te C s H fp))
  (I:Inv X pins σ H s) (T:oI X.prog X.w X.K tg J fp it tn) (st:tn 0 s.heap) (hf:∀b∈fp,ip X pins H b)
  (hq:∀p,H p=none->∃W:Nat->Nat->List V->Hp->Prop,(∃m,W 0 m [] (upd H p (.lst [])))/\∀C s' H' fp,bE J (g C s' H' fp) (tt C s' H' fp) (te C s' H' fp) (sub ix σ) p Q W)
  (hR:∀p C s' H' m,s.heap.objs.size<=p->s.heap.objs.size<=C->s'.heap.Ns C m->H' C=none->Q (.ref p) H'->Inv X pins σ H' s'->RR (.ref p) C (.ok .next) s'):
  wpAny (model X.prog X.w) X.A (newList []) (fun acc s₃=>wpAny (model X.prog X.w) X.A (OE scope X.env.globals (cR X.env scope.names []) [] X.env.qual none .none (some X.env)) (fun cenv s₄=>
   codeAny (model X.prog X.w) X.A (.compStart (.ListComp elt [⟨tg,iter,ifs,0⟩] scope pos) 0 (.ref it) acc { cenv with scope:=relabel scope X.env }) (RR acc cenv.locals) s₄) E s₃) E s:=by
 refine Ky (wpAny_newFunctionEnv S.nocell (by intro y hy;simp at hy) (fun h₁ hns₁ hsb₁=>?_) S.kind);dsimp only at hns₁ hsb₁ ⊢;have hsz:(s.heap.push { cls:=.type "list",dict:=none,data:=.seq ([]:List Value).toArray }).objs.size=s.heap.objs.size+1:=Kk ..;generalize hC:(s.heap.push { cls:=.type "list",dict:=none,data:=.seq ([]:List Value).toArray }).objs.size=C at hns₁ hsb₁ ⊢;rw[hsz]at hC;generalize hp:s.heap.objs.size=p at hC;have pC:p≠C:=by omega
 have old:∀b o,s.heap.get? b=some o->h₁.get? b=some o:=fun b o e=>hsb₁.extBut b o (kj (JL e) (by omega)) (JA _ (JA _ e));have hnew:h₁.get? p=some { cls:=.type "list",data:=.seq ([]:List Value).toArray }:=hsb₁.extBut _ _ pC (JA _ (by rw[<-hp];exact JM _ rfl));have hfp:H p=none:=I.hok.fresh (by omega);have hfC:H C=none:=I.hok.fresh (by omega);have lt:∀b∈fp,b<p:=fun b hb=>by
  obtain⟨o,e,_⟩:=T.obj 0 _ st b hb;rw[<-hp];exact JL e
 have hcells:∀y∈scope.names,y.2=.free->∃c,X.env.cells.lookup y.1=some c:=fun y hy hk=>by
  refine I.ok.has y.1 ?_;show X.env.scope.names.lookup y.1=some .cell\/X.env.scope.names.lookup y.1=some .free;rw[hsc];exact S.free y hy hk
 have noown:∀x,scope.names.lookup x≠some .cell:=fun x e=>S.nocell _ (Kn e) rfl;have hok:(cy X N scope C s H fp).Ok:=by
  refine⟨I.ok.mod,S.kind,I.ok.glob,I.ok.blt,by show s.heap.objs.size<=C;omega,fun x y c h1 h2=>I.ok.inj x y c (ci h1) (ci h2),fun x hx=>?_,fun x c z=>(by cases z),I.ok.hd,I.ok.frames,.inl rfl,fun b hb=>?_,I.bs,Kc I.ok.bsz I.sz,fun b o e hb=>?_,fun b hb z=>?_,I.stack,I.stkFree⟩
  ·have hx':scope.names.lookup x=some .free:=by
    rcases hx with hx|hx
    ·rcases ir hx with q|q
     ·exact absurd q (noown x)
     ·exact q.2
    ·rcases ir hx with q|q
     ·exact q
     ·exact q.2
   obtain⟨c,hc'⟩:=hcells _ (Kn hx') rfl;exact⟨c,lN (Kn hx') hc'⟩
  ·refine⟨?_,fun x c e=>(hf b hb).2.2.2.2.1 x c (ci e)⟩
   show b≠C;exact kj (lt b hb) (by omega)
  ·rcases(hf b hb).2.2.2.1 with z|z
   ·exact I.ok.noex b o e z
   ·exact absurd (J2 (JL e) (Kc I.ok.bsz z)) (Lv _)
  ·rcases JH.mp (I.stkSub b z)with q|q
   ·exact(hf b hb).2.1 q
   ·exact(hf b hb).2.2.1 q
 have locs:∀h':Heap,(∀x c o,X.env.cells.lookup x=some c->s.heap.get? c=some o->∃sl,h'.get? c=some { o with slots:=sl })->
   ∀(i:Nat)(x:Str)(v:V),N[i]?=some x->(sub ix σ)[i]?=some (some v)->∃u,aO v u/\∀m,DR (N5 scope (cR X.env scope.names []) C X.env) h' m x u:=by
  intro h' hk i x v h1 h2;obtain⟨k,hk',hv⟩:∃k,ix[i]?=some (some k)/\σ[k]?=some (some v):=by
   unfold sub at h2;rw[JS]at h2;cases e:ix[i]? with
   |none=>rw[e]at h2;cases h2
   |some o=>
    rw[e]at h2;cases o with
    |none=>cases h2
    |some k=>
     refine⟨k,rfl,?_⟩;have h2':(match σ[k]? with|some v=>v|none=>none)=some v:=JR h2;cases e2:σ[k]? with
     |none=>rw[e2]at h2';cases h2'
     |some z=>
      rw[e2]at h2';rw[show z=some v from h2']
  have hm:(x,some k)∈N.zip ix:=by
   refine JK (i:=i) ?_;rw[MH];exact⟨h1,hk'⟩
  obtain⟨a1,a2⟩:=S.at_ _ hm k (by simp);have hX:=S.free _ (Kn a2) rfl;have hvis:Vis X.env.scope x:=by
   show _\/_\/_;rw[hsc];exact .inr hX
  obtain⟨m,hn,hl⟩:=I.loc;obtain⟨u,r,l⟩:=hl k x v (by rw[hNX];exact a1) hv hvis;refine⟨u,r,fun m'=>.inr ⟨oQ a2,?_⟩⟩;rcases l with⟨l,_⟩|⟨_,c,e,z⟩
  ·have l':X.env.scope.names.lookup x=some .local:=l
   rw[hsc]at l';rcases hX with q|q<;>(rw[q]at l';cases l')
  ·obtain⟨o,ho,hd⟩:=z
   obtain⟨sl,e'⟩:=hk x c o e ho;exact⟨c,lN (Kn a2) e,_,e',hd⟩
 have hlen:(sub ix σ).length=N.length:=by
  unfold sub;rw[JB];exact S.len
 have I1:Inv (cy X N scope C s H fp) [] (sub ix σ) (upd H p (.lst [])) { s with heap:=h₁,toks:=s.toks+([]:List (Str×Value)).length }:=by
  refine⟨hok,rfl,I.bare,Un.laid old (MM hp) hfp,⟨_,hns₁,fun i x v h1 h2 h3=>?_⟩,fun x c e=>?_,?_,fun x c e=>?_,fun q hq=>(nomatch hq),I.hok.laid old (MM hp) ⟨Ks _,[],0,.nil,hnew⟩,hlen⟩
  ·obtain⟨u,r,l⟩:=locs h₁ (fun y c o _ ho=>⟨o.slots,old c o ho⟩) i x v h1 h2
   exact⟨u,r,l _⟩
  ·obtain⟨v,o,ho,hd⟩:=I.cell x c (ci e)
   exact⟨v,o,old c o ho,hd⟩
  ·show upd H p _ C=none
   rw[aR (Lg pC)];exact hfC
  ·have e':=ci e
   obtain⟨v,o,ho,hd⟩:=I.cell x c e';rw[aR (kj (JL ho) (MM hp))];exact I.freeC x c e'
 have back:∀{pl:List (Addr×Obj)} {σ':St} {H':Hp} {s':Shared},Inv (cy X N scope C s H fp) pl σ' H' s'->Inv (cy X N scope C s H fp) pl (sub ix σ) H' s':=fun{pl σ' H' s'} J=>by
  obtain⟨m,hn,_⟩:=J.loc;refine⟨J.ok,J.os,J.bare,J.base,⟨m,hn,fun i x v h1 h2 h3=>?_⟩,J.cell,J.free,J.freeC,J.pin,J.hok,hlen⟩;obtain⟨u,r,l⟩:=locs s'.heap (fun y c o hc' ho=>J.base.any ho (I.freeC y c hc') fun hb=>(hf c hb).2.2.2.2.1 y c hc' rfl) i x v h1 h2;exact⟨u,r,l _⟩
 obtain⟨W,⟨m0,w0⟩,turn⟩:=hq p hfp;have st1:tn 0 h₁:=T.keep 0 _ _ st fun b _ o e=>old b o e;have fp1:∀{H':Hp},(∀b∈fp,H' b=none)->∀b∈fp,ip (cy X N scope C s H fp) [] H' b:=fun{H'} hn b hb=>
  ⟨hn b hb,(hok.exf b hb).1,hok.exfs b hb,.inl hb,(hok.exf b hb).2,fun q hq=>(nomatch hq)⟩
 have loop:codeAny (model X.prog X.w) X.A (.compLoop (.ListComp elt [⟨tg,iter,ifs,0⟩] scope pos) 0 (.ref it) (.ref p) (N5 scope (cR X.env scope.names []) C X.env)) (RR (.ref p) C) { s with heap:=h₁,toks:=s.toks+([]:List (Str×Value)).length }:=by
  refine vP (fun n s'=>∃i acc H',Inv (cy X N scope C s H fp) [] (sub ix σ) H' s'/\tn i s'.heap/\(∀b∈fp,H' b=none)/\W i n acc H') ?_ m0
   ⟨0,[],_,I1,st1,fun b hb=>by rw[aR (kj (lt b hb) (JF _))];exact(hf b hb).1,w0⟩
  rintro n s3 ⟨i,acc,H3,I3,st3,fr3,w3⟩;obtain⟨hacc,w4⟩:=turn C s H fp i n acc H3 w3;rcases w4 with⟨stop,qn⟩|⟨go,hln,N',hN',step⟩
  ·refine thn (T.done (cy X N scope C s H fp) rfl rfl rfl hc i [] s3 _ H3 (fun _ _=>False) I3 (fp1 fr3) st3 stop) fun r s4 ⟨hr,I4⟩=>?_
   subst hr;obtain⟨m,hn,_⟩:=I4.loc;refine hR p C s4 H3 m (by omega) (by omega) hn I4.free qn ?_;exact I.call' I4.os I4.base I4.hok I4.bare fun b hb=>⟨(hf b hb).2.2.2.1,(hf b hb).2.1,(hf b hb).2.2.2.2.1,(hf b hb).2.2.2.2.2⟩
  ·refine thn (T.item (cy X N scope C s H fp) rfl rfl rfl hc i [] s3 _ H3 (fun _ _=>False) I3 (fp1 fr3) st3 go) fun r s4 ⟨u,hr,h4⟩=>?_
   subst hr;refine thn h4 fun _ s5 ⟨x,H5,I5,r5,y5,st5,fr5⟩=>?_;have I5':=I5.pinned (fp1 fr5) (T.obj _ _ st5);refine thn (hg C s H fp _ s5 _ H5 x u _ I5' r5 (step x H5 y5)) fun _ s6 ⟨σ6,H6,I6,q6⟩=>?_;have later:∀{s7:Shared} {H7:Hp} {acc':List V} {σ7:St},Inv (cy X N scope C s H fp) ([]++mO fp s5.heap) σ7 H7 s7->(∃m',m'<n/\W (i+1) m' acc' H7)->
     ∃m,m<n/\∃i acc H',Inv (cy X N scope C s H fp) [] (sub ix σ) H' s7/\tn i s7.heap/\(∀b∈fp,H' b=none)/\W i m acc H':=fun{s7 H7 acc' σ7} I7 ⟨m',hm,w7⟩=>by
    refine⟨m',hm,i+1,acc',H7,back (I7.unpinned (pins:=[])),T.keep _ _ _ st5 fun b hb o e=>(I7.pin (b,o) (Kh _ (Kh _ (fN hb e)))).1,fun b hb=>?_,w7⟩;obtain⟨o,e,d⟩:=T.obj _ _ st5 b hb;exact(I7.pin (b,o) (Kh _ (Kh _ (fN hb e)))).2.1
   refine thn (ht C s H fp _ s6 σ6 H6 _ I6 q6) fun ok s7 ⟨H7,I7,q7⟩=>?_;cases ok with
   |false=>exact later I7 (hN' _ _ q7)
   |true=>
    refine thn (he C s H fp _ s7 σ6 H7 _ I7 q7) fun y s8 ⟨v8,H8,I8,r8,hacc8,w8⟩=>?_;refine thn (cW (X:=cy X N scope C s H fp) _ s8 σ6 H8 (.ref p) [v8] (.ref p) [y] (fun _ H9=>H9=upd H8 p (.lst (acc++[v8]))) I8 rfl (.cons r8 .nil) ⟨p,acc,v8,rfl,rfl,hacc8,hln,rfl⟩) fun _ s9 ⟨_,H9,I9,_,e9⟩=>?_;subst e9;exact later I9 (hN' _ _ w8)
 exact Qd loop (T.self _ 0 _ _ _ st1 loop)
theorem bp(hc:X.calm=true)(S:oP sc scope NX N ix)(hi:PI X tg iter wi)
  (hg:∀C s H fp,PG (cy X N scope C s H fp) tg (g C s H fp)) (ht:∀C s H fp,PTL (cy X N scope C s H fp) ifs (tt C s H fp)) (he:∀C s H fp,PE (cy X N scope C s H fp) elt (te C s H fp))
  (hsc:X.env.scope=sc:=by rfl) (hNX:X.N=NX:=by rfl) (hs:∀x,Nf iter X.env x=pure x:=by intro _;rfl):
  PE X (.ListComp elt [⟨tg,iter,ifs,0⟩] scope pos) (bo wi g tt te ix):=by
 intro pins s σ H Q I h;rw[eval_ListComp];have hcells:Ol scope X.env=pure (cR X.env scope.names []):=kF fun y hy hk=>by
  refine I.ok.has y.1 ?_;show X.env.scope.names.lookup y.1=some .cell\/X.env.scope.names.lookup y.1=some .free;rw[hsc];exact S.free y hy hk
 refine MP (use:=none) rfl hs hcells S.kind S.names (thn (hi pins s σ H _ I h) fun v s1 h1=>thn h1 fun itv s2 h2=>?_);obtain⟨it,fp,tn,J,H2,e,I2,T,st2,f2,hq⟩:=h2;subst e;refine rZ (Q:=Q) (RR:=fun acc C=>RS (model X.prog X.w) X.A X.xe none (EP X pins σ Q) acc C) hc hsc hNX S hg ht he I2 T st2 f2 hq ?_;intro p C s' H' m hp hC hn hfree q I';exact⟨m,hn,fun h'' hs''=>⟨.ref p,H',I'.gone I2 hC hfree hs'',rfl,q⟩⟩
theorem dn{i:Nat}{y:Str}{py spos:Pos}(hN:X.N.Nodup)(hy:X.N[i]?=some y)(hl:X.env.scope.names.lookup y=some .local)(hc:X.calm=true)(S:oP sc scope NX N ix)(hi:PI X tg iter wi)
  (hg:∀C s H fp,PG (cy X N scope C s H fp) tg (g C s H fp)) (ht:∀C s H fp,PTL (cy X N scope C s H fp) ifs (tt C s H fp)) (he:∀C s H fp,PE (cy X N scope C s H fp) elt (te C s H fp))
  (hsw:OM (.ListComp elt [⟨tg,iter,ifs,0⟩] scope pos) (some (.Name y py)) spos.line X.env=pure true:=by rfl)
  (hsc:X.env.scope=sc:=by rfl) (hNX:X.N=NX:=by rfl) (hs:∀x,Nf iter X.env x=pure x:=by intro _;rfl):
  PS X (.Assign [.Name y py] (.ListComp elt [⟨tg,iter,ifs,0⟩] scope pos) spos) (aA (bo wi g tt te ix) (ag i)):=by
 intro pins s σ H D I h;rw[Qm _ _ _ _ hsw];have hcells:Ol scope X.env=pure (cR X.env scope.names []):=kF fun z hz hk=>by
  refine I.ok.has z.1 ?_;show X.env.scope.names.lookup z.1=some .cell\/X.env.scope.names.lookup z.1=some .free;rw[hsc];exact S.free z hz hk
 refine Jz (OZ (Jz ?_));show wpAny _ X.A (do let _ <-comprehension (.ListComp elt [⟨tg,iter,ifs,0⟩] scope pos) scope X.env _ (newList []) false (eval iter X.env) (some (assign (.Name y py) X.env))) _ _ s;refine Jz (thn (MP (use:=some (assign (.Name y py) X.env)) (Q:=fun _ s'=>SP X pins D .next s') rfl hs hcells S.kind S.names (thn (hi pins s σ H _ I h) fun v s1 h1=>thn h1 fun itv s2 h2=>?_)) fun _ s' q=>JC (JC q));obtain⟨it,fp,tn,J,H2,e,I2,T,st2,f2,hq⟩:=h2;subst e;refine rZ (Q:=fun x H1=>ag i x σ H1 D.nx) (RR:=fun acc C=>RS (model X.prog X.w) X.A X.xe (some (assign (.Name y py) X.env)) (fun _ s'=>SP X pins D .next s') acc C) hc hsc hNX S hg ht he I2 T st2 f2 hq ?_;intro p C s' H' m hp hC hn hfree q I';refine Pc (oE (v:=.ref p) I' hN hy (.inl hl) rfl (fun s'' I'' ⟨a,hsb,ha⟩=>?_) (.inr hl));have ne:C≠a:=by
  rcases ha with rfl|ha
  ·exact LA (J2 I2.lt hC)
  ·obtain⟨v,o,ho,_⟩:=I2.cell y a ha
   exact LA (J2 (JL ho) hC)
 exact⟨m,hn.sameBut hsb ne,fun h'' hs''=>⟨_,H',I''.gone I2 hC hfree hs'',q⟩⟩
end
section
variable{g:CF TG}{tt:CF TT}{te:CF TE}{σ₀:St}{p:Addr}{Q:VK}{H:Hp}
theorem mQ{J:It}{n:Nat}{Y:Nat->Hp->V->Hp->Prop}(Pv:Nat->List V->Hp->Prop)(h0:Pv 0 [] (upd H p (.lst [])))(hp:∀i acc H,i<=n->Pv i acc H->H p=some (.lst acc)/\acc.length<=i)(hz:n<=JP)
  (hgo:∀i acc H,i<n->Pv i acc H->J.go i H) (hst:∀acc H,Pv n acc H->J.stop n H) (hy:∀i acc H x H1,i<n->Pv i acc H->J.yld i H x H1->Y i H x H1)
  (hs:∀C s' H' fp,∀i x acc H H1,i<n->Pv i acc H->Y i H x H1->g C s' H' fp x σ₀ H1 fun σ2 H2=>tt C s' H' fp σ2 H2 fun b H3=>if b=true then te C s' H' fp σ2 H3 fun y H4=>H4 p=some (.lst acc)/\Pv (i+1) (acc++[y]) (upd H4 p (.lst (acc++[y])))else Pv (i+1) acc H3)
  (hd:∀acc H,Pv n acc H->Q (.ref p) H):
  ∃W:Nat->Nat->List V->Hp->Prop,(∃m,W 0 m [] (upd H p (.lst [])))/\∀C s' H' fp,bE J (g C s' H' fp) (tt C s' H' fp) (te C s' H' fp) σ₀ p Q W:=by
 refine⟨fun i m acc H=>m=n-i/\i<=n/\Pv i acc H,⟨n,by simp,Ks _,h0⟩,?_⟩;rintro C s' H' fp i m acc H ⟨rfl,hi,w⟩;obtain⟨h1,h2⟩:=hp i acc H hi w;refine⟨h1,?_⟩;by_cases hlt:i<n
 ·exact .inr ⟨hgo i acc H hlt w,by omega,Pv (i+1),fun acc' H' q=>⟨n-(i+1),by omega,rfl,hlt,q⟩,fun x H1 y=>hs C s' H' fp i x acc H H1 hlt w (hy i acc H x H1 hlt w y)⟩
 ·have e:i=n:=by omega
  subst e;exact .inl ⟨hst acc H w,hd acc H w⟩
theorem oR{K:Fg}{a:Addr}{xs:List V}(Pv:Nat->List V->Hp->Prop)(h0:Pv 0 [] (upd H p (.lst [])))(hp:∀i acc H,i<=xs.length->Pv i acc H->H p=some (.lst acc)/\acc.length<=i)(hl:∀i acc H,i<=xs.length->Pv i acc H->SqL K H a xs)(hz:xs.length<=JP)
  (hs:∀C s' H' fp,∀i x acc H,xs[i]?=some x->Pv i acc H->g C s' H' fp x σ₀ H fun σ2 H2=>tt C s' H' fp σ2 H2 fun b H3=>if b=true then te C s' H' fp σ2 H3 fun y H4=>H4 p=some (.lst acc)/\Pv (i+1) (acc++[y]) (upd H4 p (.lst (acc++[y])))else Pv (i+1) acc H3)
  (hd:∀acc H,Pv xs.length acc H->Q (.ref p) H):
  ∃W:Nat->Nat->List V->Hp->Prop,(∃m,W 0 m [] (upd H p (.lst [])))/\∀C s' H' fp,bE (Itl K a) (g C s' H' fp) (tt C s' H' fp) (te C s' H' fp) σ₀ p Q W:=
 mQ (Y:=fun i H x H1=>H1=H/\xs[i]?=some x) Pv h0 hp hz (fun i acc H hi w=>⟨xs,xs[i],hl i acc H (KJ hi) w,by simp[hi]⟩) (fun acc H w=>⟨xs,hl _ acc H (JF _) w,JF _⟩)
  (fun i acc H x H1 hi w y=>⟨y.1,y.2 xs (hl i acc H (KJ hi) w)⟩) (fun C s' H' fp i x acc H H1 hi w y=>by
   obtain⟨e,y⟩:=y;subst e;exact hs C s' H' fp i x acc _ y w) hd
theorem Eg{K:Fg}{a:Addr}{xs:List V}(Pv:Nat->List V->Hp->Prop)(h0:Pv 0 [] (upd H p (.lst [])))(hp:∀i acc H,i<=xs.length->Pv i acc H->H p=some (.lst acc)/\acc.length<=i)(hl:∀i acc H,i<=xs.length->Pv i acc H->SqT K H a xs)(hz:xs.length<=JP)
  (hs:∀C s' H' fp,∀i x acc H,xs[i]?=some x->Pv i acc H->g C s' H' fp x σ₀ H fun σ2 H2=>tt C s' H' fp σ2 H2 fun b H3=>if b=true then te C s' H' fp σ2 H3 fun y H4=>H4 p=some (.lst acc)/\Pv (i+1) (acc++[y]) (upd H4 p (.lst (acc++[y])))else Pv (i+1) acc H3)
  (hd:∀acc H,Pv xs.length acc H->Q (.ref p) H):
  ∃W:Nat->Nat->List V->Hp->Prop,(∃m,W 0 m [] (upd H p (.lst [])))/\∀C s' H' fp,bE (Itt K a) (g C s' H' fp) (tt C s' H' fp) (te C s' H' fp) σ₀ p Q W:=
 mQ (Y:=fun i H x H1=>H1=H/\xs[i]?=some x) Pv h0 hp hz (fun i acc H hi w=>⟨xs,xs[i],hl i acc H (KJ hi) w,by simp[hi]⟩) (fun acc H w=>⟨xs,hl _ acc H (JF _) w,JF _⟩)
  (fun i acc H x H1 hi w y=>⟨y.1,y.2 xs (hl i acc H (KJ hi) w)⟩) (fun C s' H' fp i x acc H H1 hi w y=>by
   obtain⟨e,y⟩:=y;subst e;exact hs C s' H' fp i x acc _ y w) hd
theorem np{lo:Int}{n:Nat}(Pv:Nat->List V->Hp->Prop)(h0:Pv 0 [] (upd H p (.lst [])))(hp:∀i acc H,i<=n->Pv i acc H->H p=some (.lst acc)/\acc.length<=i)(hz:n<=JP)
  (hs:∀C s' H' fp,∀i acc H,i<n->Pv i acc H->g C s' H' fp (.int (lo+i)) σ₀ H fun σ2 H2=>tt C s' H' fp σ2 H2 fun b H3=>if b=true then te C s' H' fp σ2 H3 fun y H4=>H4 p=some (.lst acc)/\Pv (i+1) (acc++[y]) (upd H4 p (.lst (acc++[y])))else Pv (i+1) acc H3)
  (hd:∀acc H,Pv n acc H->Q (.ref p) H):
  ∃W:Nat->Nat->List V->Hp->Prop,(∃m,W 0 m [] (upd H p (.lst [])))/\∀C s' H' fp,bE (Itr lo n) (g C s' H' fp) (tt C s' H' fp) (te C s' H' fp) σ₀ p Q W:=
 mQ (Y:=fun i H x H1=>H1=H/\x=.int (lo+i)) Pv h0 hp hz (fun i acc H hi w=>hi) (fun acc H w=>JF _) (fun i acc H x H1 hi w y=>y) (fun C s' H' fp i x acc H H1 hi w y=>by
   obtain⟨e,e2⟩:=y;subst e e2;exact hs C s' H' fp i acc _ hi w) hd
end
end
section
open PySem.Spec
section
variable{prog:Program}{w:World}{A:Around}{E:Value->Shared->Prop}{s:Shared}
theorem r0{jt t:Addr}{i:Nat}{its:Array Value}{y:Value}{Q:Value->Shared->Prop}(h1:s.heap.IsTupleIter jt t i)(h2:s.heap.IsTuple t its)(hy:its[i]?=some y)
  (k:∀h',h'.IsTupleIter jt t (i+1)->J0 jt s.heap h'->Q y { s with heap:=h' }):wpAny (model prog w) A (Kq (.ref jt)) Q E s:=by
 obtain⟨o,ho,hc,hd⟩:=id h1;obtain⟨ot,hot,_,nt,hdt⟩:=h2;unfold Kq;refine Jz (KD (name:=LN "__next__") h1.typeIs MC (Ko MC h1.typeIs OR ?_ (OF _)));show wpAny _ _ (field (.ref jt) 0>>=_) _ _ s;refine Jz (KO ho hd (x:=.ref t) rfl ?_);show wpAny _ _ (if(J8 t==K8)=true then _ else _) _ _ s;rw[if_neg (show¬((J8 t==K8)=true)from JQ)];show wpAny _ _ (field (.ref jt) 1>>=_) _ _ s;refine Jz (KO ho hd (x:=.int i 0) rfl ?_);show wpAny _ _ (seqItems? (.ref t)>>=_) _ _ s;refine Jz (K2 hot hdt ?_);simp only[Ng,hy];refine Jz (Mq ho hd (by simp) (JC ⟨y,rfl,JC (k _ ?_ (KI ..))⟩));exact⟨_,KH _ ho (N9 (Mt hd _)),(Pg ..).trans hc,by rw[Mt hd];simp[rawInt]⟩
theorem uU{jt t:Addr}{i:Nat}{its:Array Value}{Q:Value->Shared->Prop}(hh:A.handled=none)(h1:s.heap.IsTupleIter jt t i)(h2:s.heap.IsTuple t its)(hy:its[i]?=none)
  (k:∀h' e,Nt jt s.heap h'->(∃o,h'.get? e=some o/\o.cls=.type "StopIteration")->E (.ref e) { s with heap:=h' }):wpAny (model prog w) A (Kq (.ref jt)) Q E s:=by
 obtain⟨o,ho,hc,hd⟩:=id h1;obtain⟨ot,hot,_,nt,hdt⟩:=h2;unfold Kq;refine Jz (KD (name:=LN "__next__") h1.typeIs MC (Ko MC h1.typeIs OR ?_ (OF _)));show wpAny _ _ (field (.ref jt) 0>>=_) _ _ s;refine Jz (KO ho hd (x:=.ref t) rfl ?_);show wpAny _ _ (if(J8 t==K8)=true then _ else _) _ _ s;rw[if_neg (show¬((J8 t==K8)=true)from JQ)];show wpAny _ _ (field (.ref jt) 1>>=_) _ _ s;refine Jz (KO ho hd (x:=.int i 0) rfl ?_);show wpAny _ _ (seqItems? (.ref t)>>=_) _ _ s;refine Jz (K2 hot hdt ?_);simp only[Ng,hy];refine Jz (Ma (Jz (Mq ho hd (by simp) ?_)));show wpAny _ _ (newExc (.type "StopIteration") []>>=_) _ _ _;refine Jz ?_;simp only[newExc,RU];refine Jz (Ky ?_ (by size_fits));refine Jz (m:=firstArgMember _ _) (OL (a:=K8) (by first|rfl| (simp only[firstArgMember];rfl)) ?_);refine Ky ?_ (by size_fits);simp only[raiseNew];refine Jz (QQ ?_)
 first|rw[show A.in1.handled=none from hh]|rw[hh]
 refine Jz (JC (RG ?_));exact k _ _ (((KI ..).extBut.push _).push _) ⟨_,JM _ rfl,rfl⟩
end
theorem zh{prog:Program}{w:World}{A:Around}(hh:A.handled=none)(jt t:Addr)(hne:t≠jt)(its:Array Value):
  Draws prog w A jt [jt,t] its.size (fun i v=>its[i]?=some v) (fun i h=>h.IsTupleIter jt t i/\h.IsTuple t its) where
 live:=fun _ _ st=>let⟨o,ho,_⟩:=st.1;⟨o,ho⟩
 frame:=fun _ _ _ st hk=>⟨st.1.at fun o e=>hk jt (by simp) o e,let⟨o,ho,r⟩:=st.2;⟨o,hk t (by simp) o ho,r⟩⟩
 item:=fun i s Q E hi st hQ=>r0 st.1 st.2 (y:=its[i]) (by simp[hi]) fun h' a b=>hQ _ h' s.toks (by simp[hi]) ⟨a,st.2.extBut b.extBut hne⟩ b
 done:=fun s Q E st hE=>uU hh st.1 st.2 (by simp) hE
theorem Inv.offBase{X:Cx}{pins:List (Addr×Obj)}{σ:St}{H:Hp}{s:Shared}{c:Addr}{o:Obj}(I:Inv X pins σ H s)(f:ip X pins H c)(e:X.base.get? c=some o):False:=by
 rcases f.2.2.2.1 with z|z
 ·exact I.ok.noex c o e z
 ·exact absurd (J2 (JL e) (Kc I.ok.bsz z)) (Lv _)
set_option genInjectivity false in
structure Src where
 Sq:Fg->Hp->Addr->List V->Prop
 Is:Heap->Addr->Array Value->Prop
 It:Heap->Addr->Addr->Nat->Prop
 icls:String
 get:∀{X:Cx} {pins:List (Addr×Obj)} {σ:St} {H:Hp} {s:Shared} {a:Addr} {xs:List V},Inv X pins σ H s->Sq X.K H a xs->∃its:List Value,aL xs its/\Is s.heap a its.toArray/\xs.length<=JP
 inj:∀{X:Cx} {pins:List (Addr×Obj)} {σ:St} {H:Hp} {s:Shared} {a:Addr} {xs ys:List V},Inv X pins σ H s->Sq X.K H a xs->Sq X.K H a ys->xs=ys
 off:∀{X:Cx} {pins:List (Addr×Obj)} {σ:St} {H:Hp} {s:Shared} {a c:Addr} {xs:List V},Inv X pins σ H s->Sq X.K H a xs->ip X pins H c->c≠a
 isSeq:∀{h:Heap} {a:Addr} {its:Array Value},Is h a its->∃o n,h.get? a=some o/\o.data=.seq its n
 isIt:∀{h:Heap} {jt a:Addr} {i:Nat},It h jt a i->∃o,h.get? jt=some o/\o.cls=.type icls/\o.data=.fields #[.ref a,.int i 0]
 mkI:∀{h:Heap} {jt a:Addr} {i:Nat} {o:Obj},h.get? jt=some o->o.cls=.type icls->o.data=.fields #[.ref a,.int i 0]->It h jt a i
 itKeep:∀{h h':Heap} {jt a:Addr} {i:Nat},It h jt a i->(∀o,h.get? jt=some o->h'.get? jt=some o)->It h' jt a i
 isKeep:∀{h h':Heap} {a:Addr} {its:Array Value},Is h a its->(∀o,h.get? a=some o->h'.get? a=some o)->Is h' a its
 draws:∀{prog:Program} {w:World} {A:Around},A.handled=none->∀(jt a:Addr),a≠jt->∀its:Array Value,Draws prog w A jt [jt,a] its.size (fun i v=>its[i]?=some v) (fun i h=>It h jt a i/\Is h a its)
 iter:∀{prog:Program} {w:World} {A:Around} {E:Value->Shared->Prop} {s:Shared} {a:Addr} {its:Array Value} {Q:Value->Shared->Prop},Is s.heap a its->
  Q (.ref s.heap.objs.size) { s with heap:=s.heap.push { cls:=.type icls,data:=.fields #[.ref a,.int 0 0] } }->wpAny (model prog w) A (pyIter (.ref a)) Q E s
noncomputable def aV:Src where
 Sq:=SqL
 Is:=fun h a its=>h.IsList a its
 It:=fun h jt a i=>h.IsListIter jt a i
 icls:="list_iterator"
 get:=fun I h=>let⟨its,r,p,z⟩:=I.list h;⟨its,r,p.isList,z⟩
 inj:=fun I h h'=>I.list_inj h h'
 off:=fun{X pins σ H s a c xs} I h f e=>by
  subst e;rcases h with(h|⟨o,h⟩)|⟨o,its,n,hk,_⟩
  ·rw[f.1]at h;cases h
  ·rw[f.1]at h;cases h
  ·exact I.offBase f (I.ok.mod.kin _ _ hk)
 isSeq:=fun h=>let⟨o,ho,_,n,hd⟩:=h;⟨o,n,ho,hd⟩
 isIt:=fun h=>h
 mkI:=fun h1 h2 h3=>⟨_,h1,h2,h3⟩
 itKeep:=fun h k=>h.at k
 isKeep:=fun h k=>h.at k
 draws:=fun hh jt a hne its=>Draws.list hh jt a hne its
 iter:=fun h q=>Nd h q
noncomputable def ee:Src where
 Sq:=SqT
 Is:=fun h a its=>h.IsTuple a its
 It:=fun h jt a i=>h.IsTupleIter jt a i
 icls:="tuple_iterator"
 get:=fun I h=>let⟨its,r,p,z⟩:=I.tuple h;⟨its,r,p,z⟩
 inj:=fun I h h'=>I.tuple_inj h h'
 off:=fun{X pins σ H s a c xs} I h f e=>by
  subst e;rcases h with(h|⟨o,h⟩)|⟨o,its,n,hk,_⟩
  ·rw[f.1]at h;cases h
  ·rw[f.1]at h;cases h
  ·exact I.offBase f (I.ok.mod.kin _ _ hk)
 isSeq:=fun h=>let⟨o,ho,_,n,hd⟩:=h;⟨o,n,ho,hd⟩
 isIt:=fun h=>h
 mkI:=fun h1 h2 h3=>⟨_,h1,h2,h3⟩
 itKeep:=fun h k=>h.at k
 isKeep:=fun h k=>let⟨o,ho,r⟩:=h;⟨o,k o ho,r⟩
 draws:=fun hh jt a hne its=>zh hh jt a hne its
 iter:=fun h q=>Q4 h q
theorem Inv.turns{X:Cx}{pins:List (Addr×Obj)}{σ:St}{H:Hp}{s:Shared}{h':Heap}{t':Nat}{ch:List Addr}{T:Addr}{o:HO}(I:Inv X pins σ H s)(hf:∀b∈ch,ip X pins H b)
  (k:∀b ob,b∉ch->s.heap.get? b=some ob->h'.get? b=some ob) (hT:s.heap.objs.size<=T) (new:bI X.prog X.w (upd H T o) h' T o):Inv X pins σ (upd H T o) { s with heap:=h',toks:=t' }:=by
 have hn:H T=none:=I.hok.fresh hT;have nc:∀b u,H b=some u->b∉ch:=fun b u e z=>by
  have:=(hf b z).1;rw[e]at this;cases this
 refine I.step (g':=s.gens) (d':=s.drawn) (ch:=ch) (fun b hb=>⟨(hf b hb).2.2.2.1,(hf b hb).2.1,(hf b hb).2.2.2.2.1,(hf b hb).2.2.2.2.2⟩) (fun b ob _ _ hc e _=>k b ob hc e) (fun b ob _ _ hc e _=>⟨ob.slots,k b ob hc e⟩)
  (fun b ob _ e n=>?_) (fun b ob hc e=>⟨ob,k b ob hc e⟩) (fun b xs e=>?_) (fun b ob xs e=>?_) (fun b ps e=>⟨#[],?_⟩) (fun m hm=>?_) (fun b u e=>?_) I.bare
 ·rw[aR (kj (JL e) hT)]
  exact n
 ·rw[aR (aY e hn)]
  exact e
 ·rw[aR (aY e hn)]
  exact e
 ·rw[aR (aY e hn),e]
  simp
 ·obtain⟨ob,es,ep,ho,r⟩:=hm
  exact⟨ob,es,ep,k _ ob (fun z=>(hf _ z).2.1 rfl) ho,r⟩
 ·by_cases hb:b=T
  ·subst hb
   rw[az]at e;cases e;exact new
  ·rw[aR hb]at e
   refine(I.hok b u e).stay (fun c v hc q=>k c v ?_ q) (fun c q=>by rw[aR (aY q hn)];exact q) fun c xs q=>by rw[aR (aY q hn)];exact q
   rcases hc with z|z
   ·rw[z];exact nc b u e
   ·exact nc c _ z
theorem Inv.turnsN{X:Cx}{pins:List (Addr×Obj)}{σ:St}{H:Hp}{s:Shared}{h':Heap}{t':Nat}{ch:List Addr}(I:Inv X pins σ H s)(hf:∀b∈ch,ip X pins H b)
  (k:∀b ob,b∉ch->s.heap.get? b=some ob->h'.get? b=some ob):Inv X pins σ H { s with heap:=h',toks:=t' }:=by
 have nc:∀b u,H b=some u->b∉ch:=fun b u e z=>by
  have:=(hf b z).1;rw[e]at this;cases this
 refine I.step (g':=s.gens) (d':=s.drawn) (ch:=ch) (fun b hb=>⟨(hf b hb).2.2.2.1,(hf b hb).2.1,(hf b hb).2.2.2.2.1,(hf b hb).2.2.2.2.2⟩) (fun b ob _ _ hc e _=>k b ob hc e) (fun b ob _ _ hc e _=>⟨ob.slots,k b ob hc e⟩)
  (fun b ob _ e n=>n) (fun b ob hc e=>⟨ob,k b ob hc e⟩) (fun b xs e=>e) (fun b ob xs e=>e) (fun b ps e=>⟨#[],by rw[e];simp⟩) (fun m hm=>?_) (fun b u e=>?_) I.bare
 ·obtain⟨ob,es,ep,ho,r⟩:=hm
  exact⟨ob,es,ep,k _ ob (fun z=>(hf _ z).2.1 rfl) ho,r⟩
 ·refine(I.hok b u e).stay (fun c v hc q=>k c v ?_ q) (fun c q=>q) fun c xs q=>q
  rcases hc with z|z
  ·rw[z];exact nc b u e
  ·exact nc c _ z
noncomputable def Ite(S:Src)(K:Fg)(a:Addr):It:=
 ⟨fun i H=>∃xs x,S.Sq K H a xs/\xs[i]?=some x,fun i H x H'=>∃T v,H T=none/\x=.ref T/\H'=upd H T (.tup [.int i,v])/\∀xs,S.Sq K H a xs->xs[i]?=some v,fun i H=>∃xs,S.Sq K H a xs/\xs.length=i⟩
theorem Cz{P:Program}{w:World}{K:Fg}{elts:List Expr}{k0:Nat}{pos:Pos}(S:Src)(a e it:Addr)(hl:S.icls≠"enumerate"):
  oI P w K (.Tuple elts k0 pos) (Ite S K a) [e,it] e (fun i h=>(∃old,IsEnum h e it i old)/\S.It h it a i) where
 mem:=by simp
 obj:=fun i h st b hb=>by
  obtain⟨⟨old,he⟩,hi⟩:=st;rcases JH.mp hb with rfl|hb
  ·exact⟨_,he,fun v z=>nomatch z⟩
  ·obtain rfl:=JE.mp hb
   obtain⟨o,ho,_,hd⟩:=S.isIt hi;exact⟨o,ho,fun v z=>by rw[hd]at z;cases z⟩
 keep:=fun i h h' st k=>by
  obtain⟨⟨old,he⟩,hi⟩:=st;exact⟨⟨old,k e (by simp) _ he⟩,S.itKeep hi fun o q=>k it (by simp) o q⟩
 item:=by
  intro X hP hw hK hc i pins s σ H E I hf st hg;subst hP hw hK;obtain⟨xs,x,hq,hx⟩:=hg;obtain⟨its,rv,p,hz⟩:=S.get I hq;obtain⟨⟨old,he⟩,hi⟩:=st;obtain⟨u,hu,ru⟩:=rv.get hx;obtain⟨oa,na,hoa,hda⟩:=S.isSeq p;obtain⟨oi,hoi,hci,hdi⟩:=S.isIt hi;have nei:e≠it:=fun z=>by
   have he':s.heap.get? e=some _:=he;rw[z,hoi]at he';cases he';exact hl (by simpa using hci.symm)
  have nae:e≠a:=S.off I hq (hf e (by simp));have nai:a≠it:=fun z=>by
   rw[z,hoi]at hoa;cases hoa;rw[hdi]at hda;cases hda
  have hlt:i<its.toArray.size:=by
   have:=(JG.mp hu).1;simpa using this
  refine wpAny_pyNext_enum_itemD (S.draws (A:=X.A.in1) (show X.A.in1.handled=none from I.ok.hd hc) it a nai its.toArray) he ⟨hi,p⟩ hlt nei (by simp[nei,nae]) fun y h1 tk hP ho hs1 hT hsz hk=>⟨_,rfl,?_⟩;have hy:y=u:=by
   have:its.toArray[i]?=some u:=by simpa using hu
   rw[this]at hP;exact(JR hP).symm
  subst hy;refine wpAny_letOwnedTupleGo_enum ho fun h2 he2 hs2=>?_;have elt:e<s.heap.objs.size:=JL he;have hT2:h2.get? s.heap.objs.size=some { cls:=.type "tuple",data:=.seq #[.int i tk,y] }:=hs2.extBut _ _ (HL (JF _) elt) hT;have kept:∀b ob,b∉[e,it]->s.heap.get? b=some ob->h2.get? b=some ob:=fun b ob hb q=>by
   have h1':b≠e:=fun z=>hb (by simp[z]);exact hs2.extBut _ _ h1' (hk b ob h1' (fun z=>hb (by simp[z])) q)
  refine⟨.ref s.heap.objs.size,upd H s.heap.objs.size (.tup [.int i,x]),?_,rfl,⟨_,x,I.fresh,rfl,rfl,fun ys hy=>by rw[S.inj I hy hq];exact hx⟩,⟨⟨_,he2⟩,S.itKeep hs1.1 fun o q=>hs2.extBut _ _ (Lg nei) q⟩,fun b hb=>?_⟩
  ·refine I.turns (t':=tk+1) hf kept (JF _) ⟨(by show 2<=JP;decide),[.int i tk,y],.cons ⟨tk,rfl⟩ (.cons ru .nil),_,hT2,rfl,⟨0,rfl⟩,rfl⟩
  ·have lt:b<s.heap.objs.size:=by
    rcases JH.mp hb with rfl|hb
    ·exact elt
    ·obtain rfl:=JE.mp hb
     exact JL hoi
   rw[aR (kj lt (JF _))];exact(hf b hb).1
 done:=by
  intro X hP hw hK hc i pins s σ H E I hf st hg;subst hP hw hK;obtain⟨xs,hq,hx⟩:=hg;obtain⟨its,rv,p,hz⟩:=S.get I hq;obtain⟨⟨old,he⟩,hi⟩:=st;obtain⟨oa,na,hoa,hda⟩:=S.isSeq p;obtain⟨oi,hoi,hci,hdi⟩:=S.isIt hi;have nai:a≠it:=fun z=>by
   rw[z,hoi]at hoa;cases hoa;rw[hdi]at hda;cases hda
  have hsz:i=its.toArray.size:=by
   have:=rv.length;simp only[JU];omega
  subst hsz;exact wpAny_pyNext_enum_endD (S.draws (A:=X.A.in1) (show X.A.in1.handled=none from I.ok.hd hc) it a nai its.toArray) he ⟨hi,p⟩ fun h' hx'=>⟨rfl,I.turnsN (t':=s.toks) hf fun b ob hb q=>hx' b ob (fun z=>hb (by simp[z])) q⟩
 self:=fun _ _ _ _ _ st h=>by
  obtain⟨⟨old,he⟩,_⟩:=st;exact Rp he h
section
variable{X:Cx}{elts:List Expr}{k0:Nat}{tpos:Pos}
theorem Eh(S:Src)(l:Addr)(its:Array Value):
  Meets (Builtin.«enumerate.__new__» ⟨[.type "enumerate",.ref l],[]⟩) (fun _ R s=>S.Is s.heap l its/\
   R (.ok (.ret (.ref (s.heap.push { cls:=.type S.icls,data:=.fields #[.ref l,.int 0 0] }).objs.size)))
    { s with heap:=(s.heap.push { cls:=.type S.icls,data:=.fields #[.ref l,.int 0 0] }).push { cls:=.type "enumerate",data:=.fields #[.none,.bool false,.ref s.heap.objs.size,rawInt 0,.none,.none] } }):=
 .of_wp fun prog w A R s h=>by
  obtain⟨hp,g,d,tk,os⟩:=s;obtain⟨hl,h⟩:=h;have hsub:=sub_enumerate;have hL:S.Is (RH ⟨hp,g,d,tk,os⟩) l its:=hl
  wp_walk
  refine wpAny_stack_any fun st=>JC ?_
  split
  ·rename_i c _ _ _ _ _
   cases (c==K9 "enumerate")
   ·wp_walk using S.iter hL
    exact⟨_,rfl,h⟩
   ·wp_walk using S.iter hL
    exact⟨_,rfl,h⟩
  ·wp_walk using S.iter hL
   exact⟨_,rfl,h⟩
theorem CA(S:Src){prog:Program}{w:World}{A:Around}{E:Value->Shared->Prop}{s:Shared}{l:Addr}{its:Array Value}{Q:Value->Shared->Prop}(hL:S.Is s.heap l its)
  (h:∀h',IsEnum h' (s.heap.objs.size+1) s.heap.objs.size 0 .none->S.It h' s.heap.objs.size l 0->(∀b o,s.heap.get? b=some o->h'.get? b=some o)->Q (.ref (s.heap.objs.size+1)) { s with heap:=h' }):
  wpAny (model prog w) A (call (.type "enumerate") [.ref l]) Q E s:=by
 refine Re F.called_enumerate (by decide) (F.typeCall_enumerate_1 _) (F.newCall_enumerate_1 _) (fun obj=>QF obj _) F.entry_enumerate_new (Eh S l its) ⟨hL,?_⟩;have hz:(s.heap.push { cls:=.type S.icls,data:=.fields #[.ref l,.int 0 0] }).objs.size=s.heap.objs.size+1:=Kk ..;show _/\_;rw[hz];have he:=JM (s.heap.push { cls:=.type S.icls,data:=.fields #[.ref l,.int 0 0] }) (o:={ cls:=.type "enumerate",data:=.fields #[.none,.bool false,.ref s.heap.objs.size,rawInt 0,.none,.none] }) rfl;rw[hz]at he;exact⟨⟨_,he,rfl⟩,h _ he (S.mkI (JA _ (JM _ rfl)) rfl rfl) fun b o q=>JA _ (JA _ q)⟩
noncomputable def jy(S:Src)(K:Fg)(ta:TA):TI:=fun σ H R=>ta σ H fun vs H1=>∃a xs,vs=[.ref a]/\S.Sq K H1 a xs/\R (Ite S K a) H1
theorem ib(S:Src){a:Expr}{ta:TA}{p pos:Pos}(hg:Gl X "enumerate")(hm:X.mg "enumerate"=none)(hS:S.icls≠"enumerate")(ha:PA X [a] ta)(hs:J4 [a] X.env=[(false,eval a X.env)]:=by rfl):
  PI X (.Tuple elts k0 tpos) (.Call (.Name "enumerate" p) [a] [] pos) (jy S X.K ta):=by
 intro pins s σ H R I h;refine Call_ (gk I hg hm boot_enumerate (Lc (thn (ha pos pins s σ H _ I h) fun us s1 ⟨vs,H1,I1,r1,q1⟩=>?_) hs rfl));obtain⟨l,xs,e,hq,q⟩:=q1;subst e;obtain⟨u,rfl,ru⟩:=r1.one;cases ru;obtain⟨its,rv,p',hz⟩:=S.get I1 hq;refine CA S p' fun h' he hi kp=>Rp he ?_;have I2:Inv X pins σ H1 { s1 with heap:=h' }:=I1.kept (t':=s1.toks) kp;refine⟨s1.heap.objs.size+1,[s1.heap.objs.size+1,s1.heap.objs.size],_,_,H1,rfl,I2,Cz S l _ _ hS,⟨⟨_,he⟩,hi⟩,fun b hb=>?_,q⟩;have hb':s1.heap.objs.size<=b:=by
  rcases JH.mp hb with rfl|hb
  ·exact L8 _
  ·obtain rfl:=JE.mp hb
   exact JF _
 exact I1.fpOk hb' (I1.hok.fresh hb')
end
end
section
open PySem.Spec
section
variable{X:Cx}
noncomputable def iu(K:Fg):List V->Hp->VK->Prop:=fun xs H Q=>∃x T t b,xs=[x,.ty T]/\eI K H x t/\Ku K t (.type T)=some b/\Q (.bl b) H
theorem da:cU X (.builtin "isinstance") (iu X.K):=by
 intro pins s σ H xs us Q I r h;obtain⟨x,T,t,b,rfl,ty,e,q⟩:=h;obtain⟨u,v,rfl,ru,rv⟩:=r.two;cases (show v=K9 T from rv);exact Cm I ru ty e fun tk=>⟨.bl b,H,I.tok tk,rfl,q⟩
theorem zi(K:Fg):Ku K (.type "int") (.type "int")=some true:=by unfold Ku;rw[if_pos (beq_self_eq_true _)]
theorem xE(K:Fg):Ku K (.type "int") (.type "bool")=some false:=by show(if(K9 "int"==K9 "bool")=true then some true else if PZ "bool"=true then(Qn "int").map (·.contains (.type "bool"))else none)=some false;decide+kernel
theorem wo(K:Fg):Ku K (.type "bool") (.type "bool")=some true:=by unfold Ku;rw[if_pos (beq_self_eq_true _)]
theorem jz(K:Fg):Ku K (.type "tuple") (.type "tuple")=some true:=by unfold Ku;rw[if_pos (beq_self_eq_true _)]
theorem jA(K:Fg):Ku K (.type "list") (.type "list")=some true:=by unfold Ku;rw[if_pos (beq_self_eq_true _)]
theorem Gk:∀(bs:List Bool),(JT bs.length).all (fun i=>bs.getD i false)=bs.all id:=by
 intro bs
 induction bs with
 |nil=>rfl
 |cons b r ih=>
  rw[Kd,Qe,MX,Om,MX];show(b&&_)=(b&&_);rw[<-ih];rfl
theorem Gm{bs:List Bool}{us:List Value}(r:aL (bs.map V.bl) us):us=bs.map KP:=by
 induction bs generalizing us with
 |nil=>cases r;rfl
 |cons b t ih=>
  cases r with
  |cons q r'=>
   rw[JZ,<-ih r',show _=KP b from q]
theorem Inv.walked{pins:List (Addr×Obj)}{σ:St}{H:Hp}{s:Shared}{h':Heap}{tk:Nat}{o:Obj}(I:Inv X pins σ H s)(hk:∀b ob,b∉[s.heap.objs.size]->(s.heap.push o).get? b=some ob->h'.get? b=some ob):Inv X pins σ H { s with heap:=h',toks:=tk }:=
 I.kept fun b ob e=>hk b ob (fun z=>absurd (JE.mp z) (Kg (JL e))) (JA _ e)
theorem lO(hc:X.calm=true):cU X (.builtin "all") (fun xs H Q=>∃(p:Addr)(bs:List Bool),xs=[.ref p]/\SqL X.K H p (bs.map V.bl)/\Q (.bl (bs.all id)) H):=by
 intro pins s σ H xs us Q I r h;obtain⟨p,bs,rfl,hq,q⟩:=h;obtain⟨u,rfl,rx⟩:=r.one;cases rx;obtain⟨its,rv,pl,hz⟩:=I.list hq;have e:=Gm rv;subst e;refine call_all_walk (Nd pl.isList ⟨s.heap.objs.size,_,_,_,_,_,fun i=>bs.getD i false,rfl,So (show X.A.in1.handled=none from I.ok.hd hc) _ p (by obtain⟨o,ho,_⟩:=pl.isList;exact Kg (JL ho)) (bs.map KP).toArray,
  ⟨⟨_,JM _ rfl,rfl,rfl⟩,pl.isList.push _⟩,?_,fun h' tk hk=>?_⟩)
 ·intro i v s' Q' E' hP hQ
  have hP':(bs.map KP)[i]?=some v:=by simpa using hP
  rw[JS]at hP';cases e:bs[i]? with
  |none=>rw[e]at hP';cases hP'
  |some b=>
   rw[e]at hP';cases hP';have:bs.getD i false=b:=by rw[JN,e];rfl
   have hQ':Q' (bs.getD i false) s':=hQ;rw[this]at hQ';exact LX hQ'
 ·refine⟨.bl (bs.all id),H,I.walked hk,?_,q⟩
  show KP _=KP _;rw[<-Gk];simp
theorem zj(ns:List Int):∀k,k<=ns.length->preSum (fun i=>ns.getD i 0) k=(ns.take k).sum:=by
 intro k
 induction k with
 |zero=>intro _;simp[preSum]
 |succ k ih=>
  intro hk;have hlt:k<ns.length:=hk;rw[preSum,ih (KJ hlt),Ls,Ll,JD hlt,JN,JD hlt];simp
theorem j3(hc:X.calm=true):cU X (.builtin "sum") (fun xs H Q=>∃(p:Addr)(ns:List Int),xs=[.ref p]/\SqL X.K H p (ns.map V.int)/\Q (.int ns.sum) H):=by
 intro pins s σ H xs us Q I r h;obtain⟨p,ns,rfl,hq,q⟩:=h;obtain⟨u,rfl,rx⟩:=r.one;cases rx;obtain⟨its,rv,pl,hz⟩:=I.list hq;have hlen:ns.length=its.length:=by have:=rv.length;simpa using this
 have ia:=ng rv;refine call_sum_walkG (Nd pl.isList ⟨s.heap.objs.size,_,_,_,_,_,fun i=>ns.getD i 0,rfl,So (show X.A.in1.handled=none from I.ok.hd hc) _ p (by obtain⟨o,ho,_⟩:=pl.isList;exact Kg (JL ho)) its.toArray,
  ⟨⟨_,JM _ rfl,rfl,rfl⟩,pl.isList.push _⟩,fun b hb=>?_,?_,fun h' tk t' hk=>?_⟩)
 ·have hp:p<s.heap.objs.size:=by
   obtain⟨o,ho,_⟩:=pl.isList;exact JL ho
  show b<(s.heap.push _).objs.size;rw[Kk];rcases JH.mp hb with rfl|hb
  ·exact Lp _
  ·obtain rfl:=JE.mp hb
   exact Le hp
 ·intro i v hP
  have hP':its[i]?=some v:=by simpa using hP
  have hlt:i<ns.length:=by
   have:=(JG.mp hP').1;omega
  obtain⟨u',hu',ru'⟩:=rv.get (x:=.int ns[i]) (i:=i) (by rw[JS,JD hlt]<;>rfl);rw[hP']at hu';cases hu';obtain⟨t,e⟩:=(show∃t,v=MJ ns[i] t from ru');refine⟨t,?_⟩;show v=MJ (ns.getD i 0) t;rw[e,JN,JD hlt];rfl
 ·refine⟨.int ns.sum,H,I.walked hk,⟨t',?_⟩,q⟩
  rw[show its.toArray.size=ns.length by simp;omega,zj ns _ (JF _),Ki]
noncomputable def EqE(x y:V)(b:Bool):Prop:=(dm x=true/\dm y=true/\b=eqV x y)\/(∃a,x=.ref a/\y=.ref a/\b=true)
theorem EqE.at{A:Around}{s:Shared}{x y:V}{b:Bool}{u v:Value}(h:EqE x y b)(ru:aO x u)(rv:aO y v):Ke A s u v b:=by
 rcases h with⟨f1,f2,rfl⟩|⟨a,rfl,rfl,rfl⟩
 ·exact Cp ru rv f1 f2
 ·cases ru
  cases rv;exact PY _
noncomputable def AM(xs ys:List V)(e:Nat->Bool):Prop:=∀j x y,xs[j]?=some x->ys[j]?=some y->EqE x y (e j)
theorem uV{A:Around}{s:Shared}{xs ys:List V}{e:Nat->Bool}{us vs:List Value}(h:AM xs ys e)(ru:aL xs us)(rv:aL ys vs):
  ∀j (h1:j<us.toArray.size) (h2:j<vs.toArray.size),Ke A s us.toArray[j] vs.toArray[j] (e j):=by
 intro j h1 h2;have h1':j<xs.length:=by rw[ru.length];simpa using h1
 have h2':j<ys.length:=by rw[rv.length];simpa using h2
 obtain⟨u,eu,r1⟩:=ru.get (JD h1');obtain⟨v,ev,r2⟩:=rv.get (JD h2');have q:=(h j _ _ (JD h1') (JD h2')).at (A:=A) (s:=s) r1 r2;have e1:us.toArray[j]=u:=by
  have:=(JG.mp eu).2;simpa using this
 have e2:vs.toArray[j]=v:=by
  have:=(JG.mp ev).2;simpa using this
 rw[e1,e2];exact q
noncomputable def eZ(xs ys:List V)(e:Nat->Bool):Bool:=(JT (min xs.length ys.length)).all e&&xs.length==ys.length
noncomputable def iw(Sq:Hp->Addr->List V->Prop)(neg:Bool):R2:=fun x y H Q=>∃a b xs ys e,x=.ref a/\y=.ref b/\Sq H a xs/\Sq H b ys/\AM xs ys e/\Q (.bl (if neg then !eZ xs ys e else eZ xs ys e)) H
theorem HM(hu:X.A.units<cLine):OpR X (Lk .Eq) (iw (SqT X.K) false):=by
 intro pins s σ H x y v u Q I r1 r2 h;obtain⟨a,b,xs,ys,e,rfl,rfl,ha,hb,he,q⟩:=h;cases r1;cases r2;obtain⟨us,ru,pu,_⟩:=I.tuple ha;obtain⟨vs,rv,pv,_⟩:=I.tuple hb;refine SeqAt.eq_tupleAt (e:=e) pu pv hu (uV he ru rv) ⟨.bl (eZ xs ys e),H,I,?_,q⟩;show KP _=KP _;unfold eZ;rw[JU,JU,ru.length,rv.length]
theorem CB(hu:X.A.units<cLine):OpR X (Lk .NotEq) (iw (SqT X.K) true):=by
 intro pins s σ H x y v u Q I r1 r2 h;obtain⟨a,b,xs,ys,e,rfl,rfl,ha,hb,he,q⟩:=h;cases r1;cases r2;obtain⟨us,ru,pu,_⟩:=I.tuple ha;obtain⟨vs,rv,pv,_⟩:=I.tuple hb;refine SeqAt.RcNeAt.tuples (e:=e) pu pv hu (uV he ru rv) _ _ _ _ ⟨.bl (!eZ xs ys e),H,I,?_,q⟩;show KP _=KP _;unfold eZ;rw[JU,JU,ru.length,rv.length]
theorem xF(hu:X.A.units<cLine):OpR X (Lk .Eq) (iw (SqL X.K) false):=by
 intro pins s σ H x y v u Q I r1 r2 h;obtain⟨a,b,xs,ys,e,rfl,rfl,ha,hb,he,q⟩:=h;cases r1;cases r2;obtain⟨us,ru,pu,_⟩:=I.list ha;obtain⟨vs,rv,pv,_⟩:=I.list hb;have h1:=ru.length;have h2:=rv.length;by_cases hl:xs.length=ys.length
 ·refine SeqAt.eq_listAt (e:=e) pu.isList pv.isList (by simp only[JU];omega) hu (uV he ru rv) ⟨.bl (eZ xs ys e),H,I,?_,q⟩
  show KP _=KP _;unfold eZ;rw[JU,<-h1,hl,Mu,beq_self_eq_true,Bool.and_true]
 ·refine SeqAt.eq_list_lengthsAt pu.isList pv.isList (by simp only[JU,bne_iff_ne];omega) hu ⟨.bl (eZ xs ys e),H,I,?_,q⟩
  show KP _=KP _;unfold eZ;rw[beq_eq_false_iff_ne.mpr hl,OD]
end
theorem oS(ns ms:List Int):AM (ns.map V.int) (ms.map V.int) (fun j=>decide (ns[j]?=ms[j]?)):=by
 intro j x y hx hy;rw[JS]at hx hy;cases e1:ns[j]? with
 |none=>rw[e1]at hx;cases hx
 |some n=>
  cases e2:ms[j]? with
  |none=>rw[e2]at hy;cases hy
  |some m=>
   rw[e1]at hx;rw[e2]at hy;cases hx;cases hy;refine .inl ⟨rfl,rfl,?_⟩;show decide (ns[j]?=ms[j]?)=(n==m);rw[e1,e2];by_cases h:n=m
   ·subst h;simp
   ·simp[h]
theorem nr(ns ms:List Int):eZ (ns.map V.int) (ms.map V.int) (fun j=>decide (ns[j]?=ms[j]?))=decide (ns=ms):=by
 unfold eZ;rw[JB,JB];by_cases h:ns=ms
 ·subst h
  simp
 ·rw[decide_eq_false h]
  by_cases hl:ns.length=ms.length
  ·rw[Bool.and_eq_false_iff]
   left
   rw[<-RV,N6];intro q;apply h;apply Lu;intro j;by_cases hj:j<ns.length
   ·have:=q j (by rw[K1];omega)
    exact of_decide_eq_true this
   ·rw[J5 (by omega),J5 (by omega)]
  ·rw[beq_eq_false_iff_ne.mpr hl,OD]
end
section
open PySem.Spec
noncomputable def FnB(P:Program)(w:World)(K:Fg)(mg:Str->Option Value)(base:Heap)(k:Nat)(x:Str)(ps:List Str)(sp:Sp):Prop:=
 ∃f fd,gi P w K mg base CX0 k f fd ps sp/\mg x=some (.ref f)/\Nh K (.ref f)=true/\eK K fd ps []
theorem ai{X:Cx}{k:Nat}{x:Str}{ps:List Str}{sp:Sp}{p pos:Pos}{e:Expr}{es:List Expr}{t:TA}(F:FnB X.prog X.w X.K X.mg X.base k x ps sp)(hr:cc k X.A)(ha:PA X (e::es) t)(hg:Gl X x:=by rfl)
  (hdb:(x==("__debug__":Str))=false:=by decide) (he:J4 (e::es) X.env=(false,eval e X.env)::J4 es X.env:=by rfl) (hpl:(backTo pos (J4 es X.env)).any (·.1)=false:=by rfl):
  PE X (.Call (.Name x p) (e::es) [] pos) (ap sp [] E0 t):=by
 obtain⟨f,fd,ok,m,kp,b⟩:=F;exact Gd ok hr hg m kp b .nil w5 ha hdb he hpl
structure Def(K:Fg)(mg:Str->Option Value)(x:Str)(st:Stmt)(ps:List Str)(f:Addr)(fd:JV):Prop where
 fn:Fun K x x st f fd
 m:mg x=some (.ref f)
 b:eK K fd ps []
theorem Def.ok{P:Program}{w:World}{K:Fg}{mg:Str->Option Value}{base:Heap}{x:Str}{st:Stmt}{N ps:List Str}{f:Addr}{fd:JV}{k:Nat}{sp:Sp}(D:Def K mg x st ps f fd)(S:ax N ps (aj st))(len:∀vs H Q E,sp vs H Q E->vs.length=ps.length)
  (hbody:∀(cdv:Value)(A:Around)(outer:List Env)(s:Shared)(H:Hp)(vs:List V)(Q:VK)(E:XK),cc k (A.deeper (envOfC x (aj st) s.heap.objs.size f cdv))->sp vs H Q E->
   ∃t,PSs (m9 CX0 P w K mg base N x (aj st) f cdv A outer s H E).nox (d9 st) t/\t { nx:=fun _ H'=>Q .non H',rt:=Q } (start N vs) H):FnB P w K mg base (k+1) x ps sp:=
 ⟨f,fd,D.fn.ok S len hbody,D.m,D.fn.kp,D.b⟩
theorem dL{X:Cx}:OpR X (MA .Mult) (rI Mp fun i j=>.int (i*j)):=opI fun _ _ _ _ _ _ _ hc q=>mul_int q hc
theorem r6:∀(ns:List Int),∀n∈ns,KB n<=PK (ns.map NS)
 | [],n,h=>(nomatch h)
 |m::r,n,h=>by
  rw[JZ,PK];have e:Nm (.int m)=KB m:=by
   rw[Nm];rfl
  rw[e];rcases JH.mp h with rfl|h
  ·omega
  ·have:=r6 r n h
   omega
theorem zk{ns:List Int}(h:Pz [OS (ns.map NS)]=true):∀n∈ns,KB n<=1048576:=by
 intro n hn;have h1:Qo (OS (ns.map NS))=true:=by
  unfold Pz at h;rw[MX,K5]at h;exact h.1
 unfold Qo at h1;rw[K5]at h1;have h2:Nm (OS (ns.map NS))<=2^20:=of_decide_eq_true h1.2;rw[Nm]at h2;have h3:=r6 ns n hn;have e:(2:Nat)^20=1048576:=by decide
 omega
noncomputable def eM(K:Fg)(H:Hp)(a:Addr)(ns:List Int):Prop:=SqL K H a (ns.map V.int)/\ns.length<=63/\∀n∈ns,KB n<=1048576
noncomputable def sf(K:Fg):Sp:=fun vs H Q _=>∃(a:Addr)(ns:List Int),vs=[.ref a]/\eM K H a ns/\∀H',Q (.bl true) H'
theorem Ei{l:PySem.W.OpenLaw}{k:Nat}{q:Program}{loose:List Str}{XP:(Str->Option Value)->Heap->Prop}{YP:World->Heap->Prop}{d:DefRec}{K:Params->Fg}{x:Str}
  (hn:l.most=some 63) (hdf:d.params.defaults=[]) (hr:cc k callerA) (hY:∀(w:World)(h:Heap),YP w h->(K w.params).In h)
  (F:∀(w:World)(mg:Str->Option Value)(fa:Addr)(h:Heap),(K w.params).In h->h.Ns Kb mg->mg d.name=some (.ref fa)->
   ∃fd:JV,(∀(s:Shared)(u:Value),BindsTo s fd ⟨[u],[]⟩ [(x,u)])/\
    ∀base:Heap,(K w.params).In base->base.Ns Kb mg->gi l.prog w (K w.params) mg base CX0 k fa fd [x] (sf (K w.params))):
  PySem.W.WalkO q loose XP YP l.row.toRowW d [] (fun f vs=>PySem.call f vs):=by
 intro w s₀ s₁ mg mb G Y fa o pm cd doc dV kV ho hd hcd hD hmg hg args vals as hpre hlay hrd hwl hlo;obtain rfl:dV=.none:=PySem.W.Dflts.none hD hdf;obtain rfl:kV=.none:=PySem.W.Dflts.noKw hD;obtain⟨a,vs,ns,rfl,rfl,hobj,hints,hlen⟩:=Att.Cu hn hpre hwl;have hbits:=zk hlay;have KX:=hY w _ Y;obtain⟨fd,hb,hF⟩:=F w mg fa _ KX G.T.g hmg;have c:=Ef KX G.T.g G.T.b G.T.builtins G.T.nolimit hg hobj hints (Kc hlen (by decide)) hr hF hb (fun H hO hS=>⟨a,ns,rfl,⟨hS,hlen,hbits⟩,fun _=>rfl⟩) fun H e s' z=>z;refine PySem.W.enter_call (MN c fun r s' hq=>?_);obtain⟨rfl,h2,h3,h4⟩:=hq;exact⟨.inl ⟨.bool true,.bool true,[],rfl,fun _=>rfl,.bool true,Att.Cv l _,fun _=>⟨List.Pairwise.nil,fun _ hm=>(nomatch hm)⟩⟩,h2,h3,h4⟩
theorem CC{J:It}{n:Nat}{g:TG}{tb:TS}{D:jk}{σ:St}{H:Hp}{Y:Nat->Hp->V->Hp->Prop}(Pv:Nat->St->Hp->Prop)(h0:Pv 0 σ H)(hgo:∀i σ H,i<n->Pv i σ H->J.go i H)(hst:∀σ H,Pv n σ H->J.stop n H)
  (hy:∀i σ H x H1,i<n->Pv i σ H->J.yld i H x H1->Y i H x H1) (hs:∀i x σ H H1,i<n->Pv i σ H->Y i H x H1->g x σ H1 fun σ2 H2=>tb { D with nx:=Pv (i+1),ct:=Pv (i+1),bk:=D.nx } σ2 H2) (hd:∀σ H,Pv n σ H->D.nx σ H):
  ∃W:Nat->Nat->St->Hp->Prop,(∃m,W 0 m σ H)/\∀i m σ H,W i m σ H->
   (J.stop i H/\D.nx σ H)\/(J.go i H/\∃N:St->Hp->Prop,(∀σ' H',N σ' H'->∃m',m'<m/\W (i+1) m' σ' H')/\∀x H',J.yld i H x H'->g x σ H' fun σ2 H2=>tb { D with nx:=N,ct:=N,bk:=D.nx } σ2 H2):=by
 refine⟨fun i m σ H=>m=n-i/\i<=n/\Pv i σ H,⟨n,by simp,Ks _,h0⟩,?_⟩;rintro i m σ H ⟨rfl,hi,p⟩;by_cases hlt:i<n
 ·exact .inr ⟨hgo i σ H hlt p,Pv (i+1),fun σ' H' p'=>⟨n-(i+1),by omega,rfl,hlt,p'⟩,fun x H' y=>hs i x σ H H' hlt p (hy i σ H x H' hlt p y)⟩
 ·have e:i=n:=by omega
  subst e;exact .inl ⟨hst σ H p,hd σ H p⟩
theorem xG{S:Src}{K:Fg}{a:Addr}{xs:List V}{g:TG}{tb:TS}{D:jk}{σ:St}{H:Hp}(Pv:Nat->St->Hp->Prop)(h0:Pv 0 σ H)(hl:∀i σ H,i<=xs.length->Pv i σ H->S.Sq K H a xs)
  (hs:∀i x T σ H,xs[i]?=some x->Pv i σ H->H T=none->g (.ref T) σ (upd H T (.tup [.int i,x])) fun σ2 H2=>tb { D with nx:=Pv (i+1),ct:=Pv (i+1),bk:=D.nx } σ2 H2) (hd:∀σ H,Pv xs.length σ H->D.nx σ H):
  ∃W:Nat->Nat->St->Hp->Prop,(∃m,W 0 m σ H)/\∀i m σ H,W i m σ H->
   ((Ite S K a).stop i H/\D.nx σ H)\/((Ite S K a).go i H/\∃N:St->Hp->Prop,(∀σ' H',N σ' H'->∃m',m'<m/\W (i+1) m' σ' H')/\∀x H',(Ite S K a).yld i H x H'->g x σ H' fun σ2 H2=>tb { D with nx:=N,ct:=N,bk:=D.nx } σ2 H2):=
 CC (J:=Ite S K a) (n:=xs.length) (Y:=fun i H x H1=>∃T v,H T=none/\x=.ref T/\H1=upd H T (.tup [.int i,v])/\xs[i]?=some v) Pv h0 (fun i σ H hi w=>⟨xs,xs[i],hl i σ H (KJ hi) w,by simp[hi]⟩) (fun σ H w=>⟨xs,hl _ σ H (JF _) w,rfl⟩)
  (fun i σ H x H1 hi w y=>by
   obtain⟨T,v,e1,e2,e3,e4⟩:=y;exact⟨T,v,e1,e2,e3,e4 xs (hl i σ H (KJ hi) w)⟩) (fun i x σ H H1 hi w y=>by
   obtain⟨T,v,e1,rfl,rfl,e4⟩:=y;exact hs i v T σ H e4 w e1) hd
theorem vQ{S:Src}{K:Fg}{a:Addr}{xs:List V}{g:CF TG}{tt:CF TT}{te:CF TE}{σ₀:St}{p:Addr}{Q:VK}{H:Hp}(Pv:Nat->List V->Hp->Prop)(h0:Pv 0 [] (upd H p (.lst [])))(hp:∀i acc H,i<=xs.length->Pv i acc H->H p=some (.lst acc)/\acc.length<=i)(hl:∀i acc H,i<=xs.length->Pv i acc H->S.Sq K H a xs)(hz:xs.length<=JP)
  (hs:∀C s' H' fp,∀i x T acc H,xs[i]?=some x->Pv i acc H->H T=none->g C s' H' fp (.ref T) σ₀ (upd H T (.tup [.int i,x])) fun σ2 H2=>tt C s' H' fp σ2 H2 fun b H3=>if b=true then te C s' H' fp σ2 H3 fun y H4=>H4 p=some (.lst acc)/\Pv (i+1) (acc++[y]) (upd H4 p (.lst (acc++[y])))else Pv (i+1) acc H3)
  (hd:∀acc H,Pv xs.length acc H->Q (.ref p) H):
  ∃W:Nat->Nat->List V->Hp->Prop,(∃m,W 0 m [] (upd H p (.lst [])))/\∀C s' H' fp,bE (Ite S K a) (g C s' H' fp) (tt C s' H' fp) (te C s' H' fp) σ₀ p Q W:=
 mQ (Y:=fun i H x H1=>∃T v,H T=none/\x=.ref T/\H1=upd H T (.tup [.int i,v])/\xs[i]?=some v) Pv h0 hp hz (fun i acc H hi w=>⟨xs,xs[i],hl i acc H (KJ hi) w,by simp[hi]⟩) (fun acc H w=>⟨xs,hl _ acc H (JF _) w,rfl⟩)
  (fun i acc H x H1 hi w y=>by
   obtain⟨T,v,e1,e2,e3,e4⟩:=y;exact⟨T,v,e1,e2,e3,e4 xs (hl i acc H (KJ hi) w)⟩) (fun C s' H' fp i x acc H H1 hi w y=>by
   obtain⟨T,v,e1,rfl,rfl,e4⟩:=y;exact hs C s' H' fp i v T acc H e4 w e1) hd
theorem bc{H:Hp}{p:Addr}(h:H p=none)(o:HO):am H (upd H p o):=fun b u q=>by rw[aR (aY q h)];exact q
theorem am.upd{H H':Hp}{p:Addr}(s:am H H')(h:H p=none)(o:HO):am H (upd H' p o):=fun b u q=>by rw[aR (aY q h)];exact s b u q
theorem am.tup{K:Fg}{H H':Hp}{a:Addr}{xs:List V}(e:am H H')(h:SqT K H a xs):SqT K H' a xs:=by
 rcases h with(h|⟨o,h⟩)|h
 ·exact .inl (.inl (e _ _ h))
 ·exact .inl (.inr ⟨o,e _ _ h⟩)
 ·exact .inr h
theorem small{n:Nat}(h:n<=1000):n<=JP:=KJ (Cy h)
theorem xH{ns:List Int}{k:Int}(h0:0<=k)(h1:k<(ns.length:Int)):atI (ns.map V.int) k=some (.int (ns.getD k.toNat 0)):=by
 have hk:k.toNat<ns.length:=by omega
 have e:k=((k.toNat:Nat):Int):=by omega
 have q:atI (ns.map V.int) ((k.toNat:Nat):Int)=some (.int (ns.getD k.toNat 0)):=b8 (by rw[JS,JD hk,JN,JD hk]<;>rfl);rw[<-e]at q;exact q
theorem iz{c:Bool}{A B:Prop}(h1:c=true->A)(h2:c=false->B):if c=true then A else B:=by
 cases c with
 |true=>rw[if_pos rfl];exact h1 rfl
 |false=>rw[if_neg JQ];exact h2 rfl
noncomputable def bv(ns:List Int)(k:Int):Int:=
 if k<(ns.length:Int)then ns.getD k.toNat 0 else
  let n0:=if 0<(ns.length:Int)then ns.getD ((k*7)%(ns.length:Int)).toNat 0*48271+k*7919 else k*7919+5
  let n1:=n0*n0%2147483629
  (n1+k)*(n1+69621)%2147483587
noncomputable def HN(K:Fg):Sp:=fun vs H Q _=>∃(a:Addr)(ns:List Int)(k:Int),vs=[.ref a,.int k]/\eM K H a ns/\0<=k/\k<=1000000/\Q (.int (bv ns k)) H
theorem eM.same{K:Fg}{H H':Hp}{a:Addr}{ns:List Int}(h:eM K H a ns)(s:am H H'):eM K H' a ns:=⟨s.seq h.1,h.2⟩
structure Blt(mg:Str->Option Value):Prop where
 len:mg "len"=none
 range:mg "range"=none
 tuple:mg "tuple"=none
 list:mg "list"=none
 int:mg "int"=none
 bool:mg "bool"=none
 str:mg "str"=none
 dict:mg "dict"=none
 sum:mg "sum"=none
 all:mg "all"=none
 min:mg "min"=none
 max:mg "max"=none
 sorted:mg "sorted"=none
 enumerate:mg "enumerate"=none
 zip:mg "zip"=none
 isinstance:mg "isinstance"=none
theorem CD{ns:List Int}(h:∀n∈ns,KB n<=1048576)(i:Nat):KB (ns.getD i 0)<=1048576:=by
 rw[JN];cases e:ns[i]? with
 |none=>show KB 0<=_;decide
 |some n=>exact h n (JK e)
end
section
open PySem.Spec
structure iA(z TI TO j1 j2:Addr)(fp1 fp2:List Addr):Prop where
 a1:TI≠z
 a2:TO≠z
 a3:j1≠z
 a4:j2≠z
 a5:TI≠TO
 a6:TI≠j1
 a7:TI≠j2
 a8:TO≠j1
 a9:TO≠j2
 b0:j1≠j2
 b1:z∉fp1
 b2:TO∉fp1
 b3:j2∉fp1
 b4:z∉fp2
 b5:TO∉fp2
 b6:j1∉fp2
section
variable{prog:Program}{w:World}{A:Around}{E:Value->Shared->Prop}{s:Shared}
theorem _root_.PySem.Draws.but{it:Addr}{fp:List Addr}{n i:Nat}{P:Nat->Value->Prop}{St:Nat->Heap->Prop}{h h':Heap}{c:Addr}(D:Draws prog w A it fp n P St)(hst:St i h)(hs:J0 c h h')(hc:c∉fp):St i h':=
 D.frame i _ _ hst fun b hb o e=>hs.extBut b o (fun z=>hc (by rw[<-z];exact hb)) e
theorem vR{z TI TO j1 j2:Addr}{fp1 fp2:List Addr}{n1 n2 k:Nat}{P1 P2:Nat->Value->Prop}{S1 S2:Nat->Heap->Prop}{a b:Value}{Q:Value->Shared->Prop}(Z:iA z TI TO j1 j2 fp1 fp2)
  (D1:Draws prog w A j1 fp1 n1 P1 S1) (D2:Draws prog w A j2 fp2 n2 P2 S2) (hz:IsZip s.heap z TI TO .none) (hTI:IsPair s.heap TI (.ref j1) (.ref j2)) (hTO:IsPair s.heap TO a b) (h1:S1 k s.heap) (h2:S2 k s.heap) (l1:k<n1) (l2:k<n2)
  (hQ:∀x y h' tk,P1 k x->P2 k y->IsZip h' z TI TO (rawInt s.heap.objs.size)->(∃a b,IsPair h' TO a b)->S1 (k+1) h'->S2 (k+1) h'->IsPair h' s.heap.objs.size x y->
   (∀c o,c∉[z,TI,TO,j1,j2]->s.heap.get? c=some o->h'.get? c=some o)->IsPair h' TI (.ref j1) (.ref j2)->Q (.ref s.heap.objs.size) { s with heap:=h',toks:=tk }):
  wpAny (model prog w) A (Builtin.«zip.__next__» ⟨[.ref z],[]⟩) (fun fin s'=>∃v,fin=.done (.ret v)/\Q v s') E s:=by
 obtain⟨hp,g,d,tk₀,os⟩:=s;show wpAny _ _ (field (.ref z) 2>>=_) _ _ _;refine Jz (KO hz rfl (x:=.bool false) rfl ?_);show wpAny _ _ (field (.ref z) 3>>=_) _ _ _;refine Jz (KO hz rfl (x:=.ref TI) rfl ?_);refine Jz (K2 hTI rfl ?_);show wpAny _ _ (Kv (.ref z)>>=_) _ _ _;refine Jz ?_;unfold Kv;refine Jz (KO hz rfl (x:=.none) rfl (JC ?_));simp only[if_true];refine Jz (Ma ?_);refine Jz (KO hz rfl (x:=.ref TO) rfl ?_);refine Jz (Mc hz (by simp) fun g1 hz1 hs1=>?_);replace hz1:IsZip g1 z TI TO .ellipsis:=hz1;replace hs1:J0 z hp g1:=hs1;refine Jz ?_;simp only[RW,Sr,Nw,NJ];refine Jz (Jz (O4 ?_));show wpAny _ _ (Kq (.ref j1)>>=_) _ _ _;refine Jz (D1.item k ⟨g1,g,d,tk₀,os⟩ _ _ l1 (D1.but h1 hs1 Z.b1) fun x g2 tk1 px st1 hs2=>JC ?_);replace hs2:J0 j1 g1 g2:=hs2;have hTO2:IsPair g2 TO a b:=hs2.extBut _ _ Z.a8 (hs1.extBut _ _ Z.a2 hTO);refine Jz (K2 hTO2 rfl ?_);refine Jz (On hTO2 fun g3 hTO3 hs3=>?_);replace hTO3:IsPair g3 TO x b:=hTO3;replace hs3:J0 TO g2 g3:=hs3;refine Jz (Qf (JC ?_));refine Jz (Jz (O4 ?_));show wpAny _ _ (Kq (.ref j2)>>=_) _ _ _;refine Jz (D2.item k ⟨g3,g,d,tk1,os⟩ _ _ l2 (D2.but (D2.but (D2.but h2 hs1 Z.b4) hs2 Z.b6) hs3 Z.b5) fun y g4 tk2 py st2 hs4=>JC ?_);replace hs4:J0 j2 g3 g4:=hs4;have hTO4:IsPair g4 TO x b:=hs4.extBut _ _ Z.a9 hTO3;refine Jz (K2 hTO4 rfl ?_);refine Jz (On hTO4 fun g5 hTO5 hs5=>?_);replace hTO5:IsPair g5 TO x y:=hTO5;replace hs5:J0 TO g4 g5:=hs5;refine Jz (Qf (JC (JC ?_)));refine Jz (K2 hTO5 rfl ?_);refine Jz (Qp ?_);have hsz:g5.objs.size=hp.objs.size:=by rw[hs5.1,hs4.1,hs3.1,hs2.1,hs1.1]
 have hz5:IsZip g5 z TI TO .ellipsis:=hs5.extBut _ _ Z.a2.symm (hs4.extBut _ _ Z.a4.symm (hs3.extBut _ _ Z.a2.symm (hs2.extBut _ _ Z.a3.symm hz1)));have k5:∀c o,c≠z->c≠TO->c≠j1->c≠j2->hp.get? c=some o->g5.get? c=some o:=fun c o c1 c2 c3 c4 e=>
  hs5.extBut _ _ c2 (hs4.extBut _ _ c4 (hs3.extBut _ _ c2 (hs2.extBut _ _ c3 (hs1.extBut _ _ c1 e))))
 have st15:S1 (k+1) g5:=D1.but (D1.but (D1.but st1 hs3 Z.b2) hs4 Z.b3) hs5 Z.b2;have st25:S2 (k+1) g5:=D2.but st2 hs5 Z.b5;have zlt:z<g5.objs.size:=JL hz5;show wpAny _ _ (NB (.ref z) (.ref g5.objs.size)>>=_) _ _ _;refine Jz ?_;unfold NB;have hz6:IsZip (g5.push { cls:=.type "tuple",data:=.seq #[x,y] }) z TI TO .ellipsis:=JA _ hz5;refine Jz (Mc hz6 (by simp) fun g7 hz7 hs7=>?_);replace hz7:IsZip g7 z TI TO (rawInt g5.objs.size):=hz7;refine Mc hz7 (by simp) fun g8 hz8 hs8=>?_;replace hz8:IsZip g8 z TI TO (rawInt g5.objs.size):=hz8;have up:∀c o,c≠z->g5.get? c=some o->g8.get? c=some o:=fun c o c1 e=>hs8.extBut _ _ c1 (hs7.extBut _ _ c1 (JA _ e));have hT8:IsPair g8 g5.objs.size x y:=hs8.extBut _ _ (LA zlt) (hs7.extBut _ _ (LA zlt) (JM _ rfl));rw[hsz]at hz8 hT8;refine JC ⟨_,rfl,?_⟩;show Q (.ref g5.objs.size) _;rw[hsz];exact hQ x y g8 tk2 px py hz8 ⟨x,y,up _ _ Z.a2 hTO5⟩ (D1.frame _ _ _ st15 fun c hc o e=>up c o (fun q=>Z.b1 (by rw[<-q];exact hc)) e) (D2.frame _ _ _ st25 fun c hc o e=>up c o (fun q=>Z.b4 (by rw[<-q];exact hc)) e) hT8
  (fun c o hc e=>by
   simp only[JH,KL,or_false,not_or]at hc;exact up c o hc.1 (k5 c o hc.1 hc.2.2.1 hc.2.2.2.1 hc.2.2.2.2 e)) (up _ _ Z.a1 (k5 _ _ Z.a1 Z.a5 Z.a6 Z.a7 hTI))
theorem xI{z TI TO j1 j2:Addr}{fp1 fp2:List Addr}{n1 n2 k:Nat}{P1 P2:Nat->Value->Prop}{S1 S2:Nat->Heap->Prop}{a b:Value}{Q:Fin->Shared->Prop}(Z:iA z TI TO j1 j2 fp1 fp2)
  (D1:Draws prog w A j1 fp1 n1 P1 S1) (D2:Draws prog w A j2 fp2 n2 P2 S2) (hz:IsZip s.heap z TI TO .none) (hTI:IsPair s.heap TI (.ref j1) (.ref j2)) (hTO:IsPair s.heap TO a b) (h1:S1 k s.heap) (h2:S2 k s.heap) (l:k=min n1 n2)
  (hE:∀h' e tk,(∀c o,c∉[z,TI,TO,j1,j2]->s.heap.get? c=some o->h'.get? c=some o)->(∃o,h'.get? e=some o/\o.cls=.type "StopIteration")->E (.ref e) { s with heap:=h',toks:=tk }):
  wpAny (model prog w) A (Builtin.«zip.__next__» ⟨[.ref z],[]⟩) Q E s:=by
 obtain⟨hp,g,d,tk₀,os⟩:=s;have kp:∀{h':Heap},(∀c o,c≠z->c≠TO->c≠j1->c≠j2->hp.get? c=some o->h'.get? c=some o)->∀c o,c∉[z,TI,TO,j1,j2]->hp.get? c=some o->h'.get? c=some o:=fun{h'} q c o hc e=>by
  simp only[JH,KL,or_false,not_or]at hc;exact q c o hc.1 hc.2.2.1 hc.2.2.2.1 hc.2.2.2.2 e
 show wpAny _ _ (field (.ref z) 2>>=_) _ _ _;refine Jz (KO hz rfl (x:=.bool false) rfl ?_);show wpAny _ _ (field (.ref z) 3>>=_) _ _ _;refine Jz (KO hz rfl (x:=.ref TI) rfl ?_);refine Jz (K2 hTI rfl ?_);show wpAny _ _ (Kv (.ref z)>>=_) _ _ _;refine Jz ?_;unfold Kv;refine Jz (KO hz rfl (x:=.none) rfl (JC ?_));simp only[if_true];refine Jz (Ma ?_);refine Jz (KO hz rfl (x:=.ref TO) rfl ?_);refine Jz (Mc hz (by simp) fun g1 hz1 hs1=>?_);replace hz1:IsZip g1 z TI TO .ellipsis:=hz1;replace hs1:J0 z hp g1:=hs1;refine Jz ?_;simp only[RW,Sr,Nw,NJ];refine Jz (Jz (O4 ?_));show wpAny _ _ (Kq (.ref j1)>>=_) _ _ _;by_cases hk:k=n1
 ·subst hk
  refine Jz (D1.done ⟨g1,g,d,tk₀,os⟩ _ _ (D1.but h1 hs1 Z.b1) fun g2 e hs2 he=>?_);replace hs2:Nt j1 g1 g2:=hs2;obtain⟨oe,hoe,hce⟩:=he;have hz2:IsZip g2 z TI TO .ellipsis:=hs2 _ _ Z.a3.symm hz1;have nez:e≠z:=fun q=>by
   subst q;rw[hz2]at hoe;cases hoe;simp at hce
  refine Mc hz2 (by simp) fun g3 _ hs3=>hE g3 e tk₀ (kp fun c o c1 _ c3 _ q=>hs3.extBut _ _ c1 (hs2 _ _ c3 (hs1.extBut _ _ c1 q))) ⟨oe,hs3.extBut _ _ nez hoe,hce⟩
 ·have hlt:k<n1:=by omega
  have hk2:k=n2:=by omega
  refine Jz (D1.item k ⟨g1,g,d,tk₀,os⟩ _ _ hlt (D1.but h1 hs1 Z.b1) fun x g2 tk1 px st1 hs2=>JC ?_);replace hs2:J0 j1 g1 g2:=hs2;have hTO2:IsPair g2 TO a b:=hs2.extBut _ _ Z.a8 (hs1.extBut _ _ Z.a2 hTO);refine Jz (K2 hTO2 rfl ?_);refine Jz (On hTO2 fun g3 hTO3 hs3=>?_);replace hs3:J0 TO g2 g3:=hs3;refine Jz (Qf (JC ?_));refine Jz (Jz (O4 ?_));show wpAny _ _ (Kq (.ref j2)>>=_) _ _ _;subst hk2;refine Jz (D2.done ⟨g3,g,d,tk1,os⟩ _ _ (D2.but (D2.but (D2.but h2 hs1 Z.b4) hs2 Z.b6) hs3 Z.b5) fun g4 e hs4 he=>?_);replace hs4:Nt j2 g3 g4:=hs4;obtain⟨oe,hoe,hce⟩:=he;have hz4:IsZip g4 z TI TO .ellipsis:=hs4 _ _ Z.a4.symm (hs3.extBut _ _ Z.a2.symm (hs2.extBut _ _ Z.a3.symm hz1));have nez:e≠z:=fun q=>by
   subst q;rw[hz4]at hoe;cases hoe;simp at hce
  refine Mc hz4 (by simp) fun g5 _ hs5=>hE g5 e tk1 (kp fun c o c1 c2 c3 c4 q=>hs5.extBut _ _ c1 (hs4 _ _ c4 (hs3.extBut _ _ c2 (hs2.extBut _ _ c3 (hs1.extBut _ _ c1 q))))) ⟨oe,hs5.extBut _ _ nez hoe,hce⟩
end
noncomputable abbrev zh1(S1:Src)(h:Heap)(l1:Addr):Heap:=h.push { cls:=.type S1.icls,data:=.fields #[.ref l1,.int 0 0] }
noncomputable abbrev zh2(S1 S2:Src)(h:Heap)(l1 l2:Addr):Heap:=(zh1 S1 h l1).push { cls:=.type S2.icls,data:=.fields #[.ref l2,.int 0 0] }
noncomputable abbrev zh3(S1 S2:Src)(h:Heap)(l1 l2:Addr):Heap:=(zh2 S1 S2 h l1 l2).push { cls:=.type "tuple",data:=.seq #[.ref h.objs.size,.ref (zh1 S1 h l1).objs.size] }
noncomputable abbrev zh4(S1 S2:Src)(h:Heap)(l1 l2:Addr):Heap:=(zh3 S1 S2 h l1 l2).push { cls:=.type "tuple",data:=.seq #[.none,.none] }
noncomputable abbrev zh5(S1 S2:Src)(h:Heap)(l1 l2:Addr):Heap:=(zh4 S1 S2 h l1 l2).push { cls:=.type "zip",data:=.fields #[.none,.bool false,.bool false,.ref (zh2 S1 S2 h l1 l2).objs.size,.ref (zh3 S1 S2 h l1 l2).objs.size] }
theorem zX(S1 S2:Src)(l1 l2:Addr)(xs ys:Array Value):
  Meets (Builtin.«zip.__new__» ⟨[.type "zip",.ref l1,.ref l2],[]⟩) (fun _ R s=>S1.Is s.heap l1 xs/\S2.Is s.heap l2 ys/\R (.ok (.ret (.ref (zh4 S1 S2 s.heap l1 l2).objs.size))) { s with heap:=zh5 S1 S2 s.heap l1 l2 }):=
 .of_wp fun prog w A R s h=>by
  obtain⟨hp,g,d,tk,os⟩:=s;obtain⟨q1,q2,h⟩:=h;have hsub:=sub_zip;have hL1:S1.Is (RH ⟨hp,g,d,tk,os⟩) l1 xs:=q1;have hL2:S2.Is (RH ⟨zh1 S1 hp l1,g,d,tk,os⟩) l2 ys:=S2.isKeep q2 fun o e=>JA _ e
  wp_walk using S1.iter hL1,S2.iter hL2
  exact⟨_,rfl,h⟩
noncomputable def Itz(S1 S2: Src)(K: Fg)(a b: Addr): It:=
  ⟨fun i H=> ∃xs ys x y, S1.Sq K H a xs ∧ S2.Sq K H b ys ∧ xs[i]? = some x ∧ ys[i]? = some y,
   fun i H x H'=> ∃T u v, H T= none ∧ x= .ref T ∧ H'= upd H T (.tup [u, v]) ∧ ∀xs ys, S1.Sq K H a xs → S2.Sq K H b ys → xs[i]? = some u ∧ ys[i]? = some v,
   fun i H=> ∃xs ys, S1.Sq K H a xs ∧ S2.Sq K H b ys ∧ min xs.length ys.length= i⟩
theorem zap{z TI TO j1 j2 a b:Addr}(nd:[z,TI,TO,j1,j2].Nodup)(h1:∀c∈[z,TI,TO,j1,j2],c≠a)(h2:∀c∈[z,TI,TO,j1,j2],c≠b):iA z TI TO j1 j2 [j1,a] [j2,b]:=by
 simp only[Mg,JH,KL,or_false,not_or]at nd;obtain⟨⟨c1,c2,c3,c4⟩,⟨c5,c6,c7⟩,⟨c8,c9⟩,c10,_⟩:=nd;have g1:=h1 z (by simp);have g2:=h1 TO (by simp);have g3:=h1 j2 (by simp);have g4:=h2 z (by simp);have g5:=h2 TO (by simp);have g6:=h2 j1 (by simp);exact⟨Lg c1,Lg c2,Lg c3,Lg c4,c5,c6,c7,c8,c9,c10,by simp[c3,g1],by simp[c8,g2],by simp[Lg c10,g3],by simp[c4,g4],by simp[c9,g5],by simp[c10,g6]⟩
theorem Ej{P:Program}{w:World}{K:Fg}{elts:List Expr}{k0:Nat}{pos:Pos}(S1 S2:Src)(a b z TI TO j1 j2:Addr)(nd:[z,TI,TO,j1,j2].Nodup):
  oI P w K (.Tuple elts k0 pos) (Itz S1 S2 K a b) [z,TI,TO,j1,j2] z (fun i h=>IsZip h z TI TO .none/\IsPair h TI (.ref j1) (.ref j2)/\(∃u v,IsPair h TO u v)/\S1.It h j1 a i/\S2.It h j2 b i) where
 mem:=by simp
 obj:=fun i h st c hc=>by
  obtain⟨q1,q2,⟨u,v,q3⟩,q4,q5⟩:=st;simp only[JH,KL,or_false]at hc;rcases hc with rfl|rfl|rfl|rfl|rfl
  ·exact⟨_,q1,fun v z=>nomatch z⟩
  ·exact⟨_,q2,fun v z=>nomatch z⟩
  ·exact⟨_,q3,fun v z=>nomatch z⟩
  ·obtain⟨o,ho,_,hd⟩:=S1.isIt q4
   exact⟨o,ho,fun v z=>by rw[hd]at z;cases z⟩
  ·obtain⟨o,ho,_,hd⟩:=S2.isIt q5
   exact⟨o,ho,fun v z=>by rw[hd]at z;cases z⟩
 keep:=fun i h h' st k=>by
  obtain⟨q1,q2,⟨u,v,q3⟩,q4,q5⟩:=st;exact⟨k z (by simp) _ q1,k TI (by simp) _ q2,⟨u,v,k TO (by simp) _ q3⟩,S1.itKeep q4 fun o q=>k j1 (by simp) o q,S2.itKeep q5 fun o q=>k j2 (by simp) o q⟩
 item:=by
  intro X hP hw hK hc i pins s σ H E I hf st hg;subst hP hw hK;obtain⟨xs,ys,x,y,hq1,hq2,hx,hy⟩:=hg;obtain⟨us,r1,p1,_⟩:=S1.get I hq1;obtain⟨vs,r2,p2,_⟩:=S2.get I hq2;obtain⟨q1,q2,⟨u0,v0,q3⟩,q4,q5⟩:=st;obtain⟨u,hu,ru⟩:=r1.get hx;obtain⟨v,hv,rv⟩:=r2.get hy;have Z:=zap nd (fun c hc'=>S1.off I hq1 (hf c hc')) (fun c hc'=>S2.off I hq2 (hf c hc'));have hh:X.A.in1.handled=none:=I.ok.hd hc;have n1:a≠j1:=Lg (S1.off I hq1 (hf j1 (by simp)));have n2:b≠j2:=Lg (S2.off I hq2 (hf j2 (by simp)));have l1:i<us.toArray.size:=by have:=(JG.mp hu).1;simpa using this
  have l2:i<vs.toArray.size:=by have:=(JG.mp hv).1;simpa using this
  have hT:s.TypeIs (.ref z) "zip":=⟨_,q1,rfl⟩;unfold pyNext;refine Jz (MD (KD (name:=LN "__next__") hT Mh (Ko Mh hT N7
   (vR (A:=X.A.in1) Z (S1.draws hh j1 a n1 us.toArray) (S2.draws hh j2 b n2 vs.toArray) q1 q2 q3 ⟨q4,p1⟩ ⟨q5,p2⟩ l1 l2 fun x' y' h' tk px py z1 z2 z3 z4 z5 z6 z7=>JC ?_) (NT _))))
  have ex:x'=u:=by
   have:us.toArray[i]?=some u:=by simpa using hu
   rw[this]at px;exact(JR px).symm
  have ey:y'=v:=by
   have:vs.toArray[i]?=some v:=by simpa using hv
   rw[this]at py;exact(JR py).symm
  subst ex ey;refine⟨_,rfl,wpAny_letOwnedTupleGo_zip z1 fun h2 w1 hs2=>?_⟩;have nz:∀c,c∈[TI,TO,j1,j2]->c≠z:=fun c hc' e=>by
   subst e;exact(Mg.mp nd).1 hc'
  have zlt:z<s.heap.objs.size:=JL q1;have hT2:h2.get? s.heap.objs.size=some { cls:=.type "tuple",data:=.seq #[x',y'] }:=hs2.extBut _ _ (HL (JF _) zlt) z5;have kept:∀c ob,c∉[z,TI,TO,j1,j2]->s.heap.get? c=some ob->h2.get? c=some ob:=fun c ob hc' q=>hs2.extBut _ _ (fun e=>hc' (by simp[e])) (z6 c ob hc' q);obtain⟨u1,v1,z2⟩:=z2;refine⟨.ref s.heap.objs.size,upd H s.heap.objs.size (.tup [x,y]),?_,rfl,⟨_,x,y,I.fresh,rfl,rfl,fun xs' ys' h1 h2=>by rw[S1.inj I h1 hq1,S2.inj I h2 hq2];exact⟨hx,hy⟩⟩,
   ⟨w1,hs2.extBut _ _ (nz TI (by simp)) z7,⟨u1,v1,hs2.extBut _ _ (nz TO (by simp)) z2⟩,S1.itKeep z3.1 fun o q=>hs2.extBut _ _ (nz j1 (by simp)) q,S2.itKeep z4.1 fun o q=>hs2.extBut _ _ (nz j2 (by simp)) q⟩,fun c hc'=>?_⟩
  ·exact I.turns (t':=tk) hf kept (JF _) ⟨(by show 2<=JP;decide),[x',y'],.cons ru (.cons rv .nil),_,hT2,rfl,⟨0,rfl⟩,rfl⟩
  ·have lt:c<s.heap.objs.size:=by
    have st':IsZip s.heap z TI TO .none/\IsPair s.heap TI (.ref j1) (.ref j2)/\(∃u v,IsPair s.heap TO u v)/\S1.It s.heap j1 a i/\S2.It s.heap j2 b i:=⟨q1,q2,⟨u0,v0,q3⟩,q4,q5⟩;simp only[JH,KL,or_false]at hc';rcases hc' with rfl|rfl|rfl|rfl|rfl
    ·exact zlt
    ·exact JL q2
    ·exact JL q3
    ·obtain⟨o,ho,_⟩:=S1.isIt q4
     exact JL ho
    ·obtain⟨o,ho,_⟩:=S2.isIt q5
     exact JL ho
   rw[aR (kj lt (JF _))];exact(hf c hc').1
 done:=by
  intro X hP hw hK hc i pins s σ H E I hf st hg;subst hP hw hK;obtain⟨xs,ys,hq1,hq2,hi⟩:=hg;obtain⟨us,r1,p1,_⟩:=S1.get I hq1;obtain⟨vs,r2,p2,_⟩:=S2.get I hq2;obtain⟨q1,q2,⟨u0,v0,q3⟩,q4,q5⟩:=st;have Z:=zap nd (fun c hc'=>S1.off I hq1 (hf c hc')) (fun c hc'=>S2.off I hq2 (hf c hc'));have hh:X.A.in1.handled=none:=I.ok.hd hc;have n1:a≠j1:=Lg (S1.off I hq1 (hf j1 (by simp)));have n2:b≠j2:=Lg (S2.off I hq2 (hf j2 (by simp)));have hT:s.TypeIs (.ref z) "zip":=⟨_,q1,rfl⟩;have hl:i=min us.toArray.size vs.toArray.size:=by
   have:=r1.length;have:=r2.length;simp only[JU];omega
  unfold pyNext;refine Jz (MD (KD (name:=LN "__next__") hT Mh (Ko Mh hT N7
   (xI (A:=X.A.in1) Z (S1.draws hh j1 a n1 us.toArray) (S2.draws hh j2 b n2 vs.toArray) q1 q2 q3 ⟨q4,p1⟩ ⟨q5,p2⟩ hl fun h' e tk kp he=>?_) (NT _))))
  obtain⟨o,ho,hcl⟩:=he;refine Jz (LQ (T:="StopIteration") (b:=true) ⟨o,ho,hcl⟩ NK ?_);exact JC ⟨rfl,I.turnsN (t':=tk) hf kp⟩
 self:=fun _ _ _ _ _ st h=>PB st.1 h
section
variable{X:Cx}{elts:List Expr}{k0:Nat}{tpos:Pos}
noncomputable def kl(S1 S2:Src)(K:Fg)(ta:TA):TI:=fun σ H R=>ta σ H fun vs H1=>∃a b xs ys,vs=[.ref a,.ref b]/\S1.Sq K H1 a xs/\S2.Sq K H1 b ys/\R (Itz S1 S2 K a b) H1
theorem gp(S1 S2:Src){a b:Expr}{ta:TA}{p pos:Pos}(hg:Gl X "zip")(hm:X.mg "zip"=none)(ha:PA X [a,b] ta)(hs:J4 [a,b] X.env=[(false,eval a X.env),(false,eval b X.env)]:=by rfl)(hs2:J4 [b] X.env=[(false,eval b X.env)]:=by rfl):
  PI X (.Tuple elts k0 tpos) (.Call (.Name "zip" p) [a,b] [] pos) (kl S1 S2 X.K ta):=by
 intro pins s σ H R I h;refine Call_ (gk I hg hm boot_zip (Lc (thn (ha pos pins s σ H _ I h) fun us s1 ⟨vs,H1,I1,r1,q1⟩=>?_) (by rw[hs,hs2]) (by rw[hs2];rfl)));obtain⟨l1,l2,xs,ys,e,hq1,hq2,q⟩:=q1;subst e;obtain⟨u,v,rfl,ru,rv⟩:=r1.two;cases ru;cases rv;obtain⟨us1,_,p1,_⟩:=S1.get I1 hq1;obtain⟨us2,_,p2,_⟩:=S2.get I1 hq2;refine Re F.called_zip (by decide) (RX _ _) (Ss _ _) (fun obj=>QG obj _ _) Su (zX S1 S2 l1 l2 us1.toArray us2.toArray) ⟨p1,p2,?_⟩;generalize hn:s1.heap.objs.size=n;have z1:(zh1 S1 s1.heap l1).objs.size=n+1:=by rw[Kk,hn]
 have z2:(zh2 S1 S2 s1.heap l1 l2).objs.size=n+2:=by rw[Kk,z1]
 have z3:(zh3 S1 S2 s1.heap l1 l2).objs.size=n+3:=by rw[Kk,z2]
 have z4:(zh4 S1 S2 s1.heap l1 l2).objs.size=n+4:=by rw[Kk,z3]
 have g5:(zh5 S1 S2 s1.heap l1 l2).get? (zh4 S1 S2 s1.heap l1 l2).objs.size=some _:=JM _ rfl;have g4:(zh5 S1 S2 s1.heap l1 l2).get? (zh3 S1 S2 s1.heap l1 l2).objs.size=some _:=JA _ (JM _ rfl);have g3:(zh5 S1 S2 s1.heap l1 l2).get? (zh2 S1 S2 s1.heap l1 l2).objs.size=some _:=JA _ (JA _ (JM _ rfl));have g2:(zh5 S1 S2 s1.heap l1 l2).get? (zh1 S1 s1.heap l1).objs.size=some _:=JA _ (JA _ (JA _ (JM _ rfl)));have g1:(zh5 S1 S2 s1.heap l1 l2).get? s1.heap.objs.size=some _:=JA _ (JA _ (JA _ (JA _ (JM _ rfl))));have kp:∀c o,s1.heap.get? c=some o->(zh5 S1 S2 s1.heap l1 l2).get? c=some o:=fun c o e=>
  JA _ (JA _ (JA _ (JA _ (JA _ e))))
 show _/\_;rw[z2,z3,z4]at g5;rw[z1,z2,hn]at g3;rw[z3]at g4;rw[z1]at g2;rw[hn]at g1;rw[z4];refine⟨⟨_,g5,rfl⟩,PB g5 ?_⟩;have I2:Inv X pins σ H1 { s1 with heap:=zh5 S1 S2 s1.heap l1 l2 }:=I1.kept (t':=s1.toks) kp;refine⟨n+4,[n+4,n+2,n+3,n,n+1],_,_,H1,rfl,I2,Ej S1 S2 l1 l2 _ _ _ _ _ (by simp),⟨g5,g3,⟨_,_,g4⟩,S1.mkI g1 rfl rfl,S2.mkI g2 rfl rfl⟩,fun c hc=>?_,q⟩;have hc':s1.heap.objs.size<=c:=by
  rw[hn];simp only[JH,KL,or_false]at hc;rcases hc with rfl|rfl|rfl|rfl|rfl
  ·exact Lz _ _
  ·exact Lz _ _
  ·exact Lz _ _
  ·exact JF _
  ·exact Lz _ _
 exact I1.fpOk hc' (I1.hok.fresh hc')
end
end
section
open PySem.Spec
section
variable{X:Cx}
noncomputable def FE(K:Fg):R2:=fun x y H Q=>∃a b xs ys,x=.ref a/\y=.ref b/\SqT K H a xs/\SqT K H b ys/\xs.length+ys.length<=JP/\
 (xs=[]->Q (.ref b) H)/\(xs≠[]->ys=[]->Q (.ref a) H)/\(xs≠[]->ys≠[]->∀p,H p=none->Q (.ref p) (upd H p (.tup (xs++ys))))
theorem Gn:OpR X (MA .Add) (FE X.K):=by
 intro pins s σ H x y v u Q I rx ry h;obtain⟨a,b,xs,ys,rfl,rfl,ha,hb,hz,q0,q1,q2⟩:=h;by_cases hx:xs=[]
 ·cases rx
  cases ry;obtain⟨its,r1,p1,_⟩:=I.tuple ha;obtain⟨its2,r2,p2,_⟩:=I.tuple hb;obtain⟨⟨cls,dd,data,sl⟩,ho,hc,n,hd⟩:=id p1;obtain⟨⟨cls2,dd2,data2,sl2⟩,ho2,hc2,n2,hd2⟩:=id p2;simp only at hc hd hc2 hd2;subst hc hd hc2 hd2;have e:its=[]:=r1.nil_iff.mpr hx;exact Ra ⟨_,ho,rfl⟩ ⟨_,ho2,rfl⟩ Px QO NW NP (NA _ _)
   (tuple_addW0 a b its.toArray its2.toArray n n2 dd dd2 sl sl2 (by simp[e])) ⟨ho,ho2,⟨.ref b,H,I,rfl,q0 hx⟩⟩
 ·exact Gh pins s σ H _ _ v u Q I rx ry ⟨a,b,xs,ys,rfl,rfl,ha,hb,hx,hz,q1 hx,q2 hx⟩
theorem vS{x:V}:∀{xs:List V} {us:List Value},aL xs us->xs.all dm=true->us.countP (eqU x)=xs.countP fun y=>eqV y x
 |_,_,.nil,_=>rfl
 |y::xs,u::us,.cons r t,f=>by
  rw[MX,K5]at f;rw[RY,RY,xz r f.1,vS t f.2]
noncomputable def tBT(r:V->List V->Hp->VK->Prop)(to:TE)(t:TA):TE:=fun σ H Q=>to σ H fun x H1=>(∃a xs,x=.ref a/\H1 a=some (.tup xs))/\t σ H1 fun xs H2=>r x xs H2 Q
theorem II{o e:Expr}{es:List Expr}{to:TE}{t:TA}{name:Str}{apos cpos:Pos}{id:String}{r:V->List V->Hp->VK->Prop}(pa:Sk "tuple")(slot:Slot "tuple" name id)(hty:typeOf (.builtin id)=pure (.type "method_descriptor"))(hm:MtR X id r)(ho:PE X o to)(ha:PA X (e::es) t)
  (hbase:MW o name X.env (eval o X.env)=eval o X.env:=by rfl)
  (hfew:((backTo cpos (J4 (e::es) X.env)).all (fun x=>!x.1)&&(N4 cpos (M8 [] X.env)).all (fun x=>x.1.isSome)
   &&decide ((e::es).length+([]:List Keyword).length+(if([]:List Keyword).isEmpty then 0 else 1)<30))=true:=by rfl)
  (hline:(apos.endLine==cpos.line)=true:=by rfl) (hs:J4 (e::es) X.env=(false,eval e X.env)::J4 es X.env:=by rfl) (hplain:(backTo cpos (J4 es X.env)).any (·.1)=false:=by rfl):
  PE X (.Call (.Attribute o name apos) (e::es) [] cpos) (tBT r to t):=by
 intro pins s σ H Q I h;refine NY hbase hfew hline rfl (thn (ho pins s σ H _ I h) fun v s1 ⟨x,H1,I1,r1,ty,q1⟩=>?_);obtain⟨a,xs,rfl,hx⟩:=ty;cases r1;obtain⟨_,its,_,o',ho',hc',_,hd'⟩:=I1.hok a _ hx;refine⟨"tuple",id,pa,slot,hty,⟨o',ho',hc'⟩,fun b e=>?_,?_⟩
 ·cases e
  exact⟨o',ho',hd'⟩
 have hA:=ha cpos pins s1 σ H1 _ I1 q1;rw[hs]at hA ⊢;refine M9 (by show(false||(backTo cpos (J4 es X.env)).any (·.1))=false;rw[hplain]<;>rfl) (Oj ?_);exact thn hA fun us s2 ⟨vs,H2,I2,r2,q2⟩=>hm pins s2 σ H2 (.ref a) vs (.ref a) us Q I2 rfl r2 q2
noncomputable def zY:V->List V->Hp->VK->Prop:=fun x vs H Q=>∃l xs y,x=.ref l/\vs=[y]/\H l=some (.tup xs)/\dm y=true/\xs.all dm=true/\Q (.int (xs.countP fun z=>eqV z y:Nat)) H
theorem CG:MtR X "tuple.count" zY:=by
 intro pins s σ H x vs v us Q I rx rv h;obtain⟨l,xs,y,rfl,rfl,hH,fy,fx,q⟩:=h;cases rx;obtain⟨u,rfl,ru⟩:=rv.one;obtain⟨_,its,r,⟨cls,dd,data,sl⟩,ho,hc,⟨n,hd⟩,hdd⟩:=I.hok l _ hH;simp only at hc hd hdd;subst hc hd hdd;refine NI PC ⟨_,ho,rfl⟩ PySem.F.entry_tuple_count (PySem.F.args_tuple_count_2 _ _) (SeqAt.tuple_countAt l its.toArray n none sl u (eqU y)) ⟨ho,fun z hz=>kZ ru fy r fx z (by simpa using hz),?_⟩;refine⟨.int (xs.countP fun z=>eqV z y:Nat),H,I.tok _,⟨s.toks,?_⟩,q⟩;show MJ ((its.toArray.toList.countP (eqU y):Nat):Int) s.toks=_;rw[show its.toArray.toList=its from rfl,vS r fx]
theorem oT(hc:X.calm=true):cU X (.builtin "max") (fun xs H Q=>∃(p:Addr)(ns:List Int),xs=[.ref p]/\SqL X.K H p (ns.map V.int)/\ns≠[]/\∀M,M∈ns->(∀a∈ns,a<=M)->Q (.int M) H):=by
 intro pins s σ H xs us Q I r h;obtain⟨p,ns,rfl,hq,hne,q⟩:=h;obtain⟨u,rfl,rx⟩:=r.one;cases rx;obtain⟨its,rv,pl,hz⟩:=I.list hq;have hi:=ng rv;obtain⟨zs,ez⟩:=(hi.allInts).items;have hl:s.heap.IsList p (intItems zs):=by rw[<-ez];exact pl.isList
 have hnum:zs.toList.map (·.1)=ns:=by
  rw[<-nums_intItems,<-ez];exact hi.numsOf
 have hsz:zs.size=ns.length:=by rw[<-hnum];simp
 have hpos:0<zs.size:=by
  rw[hsz];exact Oz.mpr hne
 refine max_intList (I.ok.hd hc) hl hpos fun v h' tk hv hk=>?_;obtain⟨t,rfl⟩:=intItems_at hv;obtain⟨h1,h2⟩:=argBest_gt (numAt zs) (zs.size-1);refine⟨.int _,H,I.kept hk,⟨t,rfl⟩,q _ ?_ fun a ha=>?_⟩
 ·rw[numAt_eq,hnum]
  exact getD_mem (by omega)
 ·rw[<-hnum]at ha
  obtain⟨j,hj,rfl⟩:=mem_getD ha;rw[JB,Kj]at hj;rw[<-numAt_eq];exact h2 j (by omega)
noncomputable def xJ:V->List V->Hp->VK->Prop:=fun x vs H Q=>∃(l:Addr)(ns:List Int)(m:Int)(j:Nat),x=.ref l/\vs=[.int m]/\H l=some (.lst (ns.map V.int))/\ns[j]?=some m/\(∀i,i<j->ns[i]?≠some m)/\j<=1000/\Q (.int j) H
theorem Ek:MtR X "list.index" xJ:=by
 intro pins s σ H x vs v us Q I rx rv h;obtain⟨l,ns,m,j,rfl,rfl,hH,hj,hno,h1000,q⟩:=h;cases rx;obtain⟨u,rfl,t,rfl⟩:=rv.one;obtain⟨z,its,n,r,hl,e⟩:=I.lstM hH;have at_:∀(i:Nat)(hi:i<its.toArray.size),∃k t',ns[i]?=some k/\its.toArray[i]=.int k t':=fun i hi=>by
  have hi':i<ns.length:=by
   rw[JB]at hl;have:i<its.length:=by simpa using hi
   omega
  obtain⟨w',hw,rw'⟩:=r.get (i:=i) (x:=.int ns[i]) (by rw[JS,JD hi']<;>rfl);obtain⟨t',e'⟩:=(show∃t',w'=MJ ns[i] t' from rw');have:=(JG.mp hw).2;exact⟨ns[i],t',JD hi',by rw[<-e'];simpa using this⟩
 have hjs:j<its.toArray.size:=by
  have:=(JG.mp hj).1;rw[JB]at hl;simp only[JU];omega
 refine NI PL ⟨_,e,rfl⟩ PySem.F.entry_list_index (PySem.F.args_list_index_2 _ _) (SeqAt.list_indexAt l its.toArray n none #[] (.int m t) (eqU (.int m)) j hjs (by omega) ?_ ?_) ⟨e,fun y hy=>?_,?_⟩
 ·obtain⟨k,t',e1,e2⟩:=at_ j hjs
  rw[e2];rw[hj]at e1;cases e1;exact beq_self_eq_true m
 ·intro i hi hlt
  obtain⟨k,t',e1,e2⟩:=at_ i hi;rw[e2];show(k==m)=false;exact beq_eq_false_iff_ne.mpr fun z=>hno i hlt (by rw[e1,z])
 ·exact kZ (x:=.int m) ⟨t,rfl⟩ rfl r (by rw[Om];simp[dm]) y (by simpa using hy)
 ·exact⟨.int j,H,I.tok _,⟨_,rfl⟩,q⟩
end
end
end L2
section
namespace L2
open PySem
section
variable{σ:St}{H:Hp}{Q:VK}{D:jk}{K:Fg}
theorem cG{t u:TS}(h:t { nx:=u D,rt:=D.rt,bk:=D.bk,ct:=D.ct } σ H):ao t u D σ H:=h
theorem b9{t u:TS}(h:∀NX:St->Hp->Prop,(∀σ H,u D σ H->NX σ H)->t { nx:=NX,rt:=D.rt,bk:=D.bk,ct:=D.ct } σ H):ao t u D σ H:=h _ fun _ _ h=>h
theorem CH(h:D.nx σ H):ba D σ H:=h
theorem kG{te:TE}{g:TG}(h:te σ H fun x H1=>g x σ H1 D.nx):aA te g D σ H:=h
theorem IJ{te:TE}(h:te σ H D.rt):aI te D σ H:=h
theorem HP{te:TE}(h:te σ H fun _ H1=>D.nx σ H1):cE te D σ H:=h
theorem FF{c:TT}{t u:TS}(h:c σ H fun b H1=>if b=true then t D σ H1 else u D σ H1):br c t u D σ H:=h
theorem iB{i:Nat}{v:V}{R:St->Hp->Prop}(h:R (σ.set i (some v)) H):ag i v σ H R:=h
theorem HQ{to ti:TE}{t:xr}{v:V}{R:St->Hp->Prop}(h:to σ H fun o H1=>ti σ H1 fun i H2=>t o i v H2 fun H3=>R σ H3):kW to ti t v σ H R:=h
theorem oU{p:Addr}{xs:List V}{k:Int}{v:V}{R:Hp->Prop}{j:Nat}(e:H p=some (.lst xs))(hj:ixN xs.length k=some j)(h:R (upd H p (.lst (xs.set j v)))):lM (.ref p) (.int k) v H R:=⟨p,xs,k,j,rfl,rfl,e,hj,h⟩
theorem nu{i:Nat}{v:V}(e:σ[i]?=some (some v))(h:Q v H):aa i σ H Q:=⟨v,e,h⟩
theorem r_c{v:V}(h:Q v H):tC v σ H Q:=h
theorem rg{r:R2}{ta tb:TE}(h:ta σ H fun x H1=>tb σ H1 fun y H2=>r x y H2 Q):tOp r ta tb σ H Q:=h
theorem Jn{r:V->Hp->VK->Prop}{ta:TE}(h:ta σ H fun x H1=>r x H1 Q):tUn r ta σ H Q:=h
theorem Jo{g:Int->Int->V}{i j:Int}(h:Q (g i j) H):rI0 g (.int i) (.int j) H Q:=⟨i,j,rfl,rfl,h⟩
theorem r_I{C:Int->Int->Prop}{g:Int->Int->V}{i j:Int}(c:C i j)(h:Q (g i j) H):rI C g (.int i) (.int j) H Q:=⟨i,j,rfl,rfl,c,h⟩
theorem r_U{g:Int->V}{i:Int}(h:Q (g i) H):rU g (.int i) H Q:=⟨i,rfl,h⟩
theorem IL{i j:Int}(h:Q (.bl (decide (i=j))) H):rEq (.int i) (.int j) H Q:=⟨rfl,by rw[show decide (V.int i=V.int j)=decide (i=j)from decide_eq_decide.mpr ⟨fun e=>by injection e,fun e=>by rw[e]⟩];exact h⟩
theorem IM{i j:Int}(h:Q (.bl (!decide (i=j))) H):rNe (.int i) (.int j) H Q:=⟨rfl,by rw[show decide (V.int i=V.int j)=decide (i=j)from decide_eq_decide.mpr ⟨fun e=>by injection e,fun e=>by rw[e]⟩];exact h⟩
theorem HR{t:TE}{R:Bool->Hp->Prop}(h:t σ H fun x H'=>∃k,x=.bl k/\R k H'):aU t σ H R:=h
theorem Jp{t:TE}{R:Bool->Hp->Prop}(h:t σ H fun x H'=>∃k,x=.bl k/\R k H'):tB t σ H R:=h
theorem HS{b:Bool}{R:Bool->Prop}(h:R b):∃k,V.bl b=.bl k/\R k:=⟨b,rfl,h⟩
theorem IN{t u:TT}{R:Bool->Hp->Prop}(h:t σ H fun c H1=>if c=true then u σ H1 R else R false H1):uN t u σ H R:=h
theorem Jq{t u:TT}{R:Bool->Hp->Prop}(h:t σ H fun c H1=>if c=true then R true H1 else u σ H1 R):tOr t u σ H R:=h
theorem IO{t:TT}{R:Bool->Hp->Prop}(h:t σ H fun c H1=>R (!c) H1):dH t σ H R:=h
theorem HU{ta tb:TE}(h:ta σ H fun x H1=>∃c,x=.bl c/\if c=true then tb σ H1 Q else Q (.bl false) H1):fM ta tb σ H Q:=h
theorem IP{ta tb:TE}(h:ta σ H fun x H1=>∃c,x=.bl c/\if c=true then Q (.bl true) H1 else tb σ H1 Q):uP ta tb σ H Q:=h
theorem HV{ta:TE}(h:ta σ H fun x H1=>∃c,x=.bl c/\Q (.bl (!c)) H1):rR ta σ H Q:=h
theorem Jr{t:TT}{ta tb:TE}(h:t σ H fun c H1=>if c=true then ta σ H1 Q else tb σ H1 Q):tIf t ta tb σ H Q:=h
theorem FG{R:List V->Hp->Prop}(h:R [] H):af σ H R:=h
theorem CI{ta:TE}{tr:TA}{R:List V->Hp->Prop}(h:ta σ H fun x H1=>tr σ H1 fun xs H2=>R (x::xs) H2):ab ta tr σ H R:=h
theorem HW{sp:Sp}{E:XK}{t:TA}(h:t σ H fun vs H1=>sp vs H1 Q E):ap sp [] E t σ H Q:=by
 show t σ H fun vs H1=>sp (vs++[]) H1 Q E;simpa only[LH]using h
theorem Js{r:List V->Hp->VK->Prop}{t:TA}(h:t σ H fun vs H1=>r vs H1 Q):tCB r t σ H Q:=h
theorem Jt{T:String}{r:V->List V->Hp->VK->Prop}{to:TE}{t:TA}(h:to σ H fun x H1=>tyV K T x H1/\t σ H1 fun xs H2=>r x xs H2 Q):tBM K T r to t σ H Q:=h
theorem IQ{T:String}{r:V->List V->Hp->VK->Prop}{to:TE}(h:to σ H fun x H1=>tyV K T x H1/\r x [] H1 Q):Ed K T r to σ H Q:=h
theorem Ju{r:V->Option Int->Option Int->Hp->VK->Prop}{te:TE}{tl th:TO}(h:te σ H fun x H1=>tl σ H1 fun l H2=>th σ H2 fun u H3=>r x l u H3 Q):tSl r te tl th σ H Q:=h
theorem El{R:Option Int->Hp->Prop}(h:R none H):mP σ H R:=h
theorem HX{t:TE}{R:Option Int->Hp->Prop}(h:t σ H fun x H1=>∃i,x=.int i/\R (some i) H1):rX t σ H R:=h
theorem IR{i:Int}{R:Int->Prop}(h:R i):∃j,V.int i=.int j/\R j:=⟨i,rfl,h⟩
theorem IS{wi:TI}{g:TG}{tb:TS} (h:wi σ H fun J H1=>∃W:Nat->Nat->St->Hp->Prop,(∃m,W 0 m σ H1)/\∀i m σ H,W i m σ H->
  (J.stop i H/\D.nx σ H)\/(J.go i H/\∃N:St->Hp->Prop,(∀σ' H',N σ' H'->∃m',m'<m/\W (i+1) m' σ' H')/\∀x H',J.yld i H x H'->g x σ H' fun σ2 H2=>tb { D with nx:=N,ct:=N,bk:=D.nx } σ2 H2)):cQ wi g tb D σ H:=h
theorem HY{wi:TI}{g:CF TG}{tt:CF TT}{te:CF TE}{ix:List (Option Nat)} (h:wi σ H fun J H1=>∀p,H1 p=none->
  ∃W:Nat->Nat->List V->Hp->Prop,(∃m,W 0 m [] (upd H1 p (.lst [])))/\∀C s' H' fp,bE J (g C s' H' fp) (tt C s' H' fp) (te C s' H' fp) (sub ix σ) p Q W):bo wi g tt te ix σ H Q:=h
section
variable{R:It->Hp->Prop}
theorem Go{tl:TE}(h:tl σ H fun x H1=>∃a,x=.ref a/\(∃xs,SqL K H1 a xs)/\R (Itl K a) H1):ca K tl σ H R:=h
theorem HZ{tl:TE}(h:tl σ H fun x H1=>∃a,x=.ref a/\(∃xs,SqT K H1 a xs)/\R (Itt K a) H1):qX K tl σ H R:=h
theorem Gp{ta:TA}(h:ta σ H fun vs H1=>∃j:Int,vs=[.int j]/\-(2^62)<=j/\j<2^62/\R (Itr 0 j.toNat) H1):cZ ta σ H R:=h
theorem Gq{S:Src}{ta:TA}(h:ta σ H fun vs H1=>∃a xs,vs=[.ref a]/\S.Sq K H1 a xs/\R (Ite S K a) H1):jy S K ta σ H R:=h
theorem Ia{S1 S2:Src}{ta:TA}(h:ta σ H fun vs H1=>∃a b xs ys,vs=[.ref a,.ref b]/\S1.Sq K H1 a xs/\S2.Sq K H1 b ys/\R (Itz S1 S2 K a b) H1):kl S1 S2 K ta σ H R:=h
end
noncomputable def Off(l:Addr)(H H':Hp):Prop:=∀b,b≠l->H' b=H b
theorem fO{l:Addr}{o:HO}:Off l H (upd H l o):=fun b hb=>aR hb
theorem am.off{H0 H':Hp}{l:Addr}(s:am H0 H)(h:H0 l=none)(o:Off l H H'):am H0 H':=fun b u q=>by rw[o b (aY q h)];exact s b u q
noncomputable def cS(H H':Hp):Prop:=∀b xs,H b=some (.tup xs)->H' b=some (.tup xs)
theorem cS.refl(H:Hp):cS H H:=fun _ _ h=>h
theorem am.keep{H':Hp}(s:am H H'):cS H H':=fun b _ h=>s b _ h
theorem cS.trans{H1 H2:Hp}(a:cS H H1)(b:cS H1 H2):cS H H2:=fun c o h=>b c o (a c o h)
theorem Off.keep{H':Hp}{l:Addr}{xs:List V}(o:Off l H H')(e:H l=some (.lst xs)):cS H H':=fun b ys q=>by
 rw[o b (wY q e (by intro z;cases z))];exact q
theorem fq{l:Addr}{xs:List V}{y:V}(e:H l=some (.lst xs))(hz:xs.length<JP)(h:∀H',Off l H H'->H' l=some (.lst (xs++[y]))->Q .non H'):d8 (.ref l) [y] H Q:=⟨l,xs,y,rfl,rfl,e,hz,h _ fO az⟩
theorem pT{l:Addr}{xs:List V}(e:H l=some (.lst xs)):tyV K "list" (.ref l) H:=.inl ⟨rfl,xs,SqL.of e⟩
theorem bz{l:Addr}{xs:List V}{i:Int}{v:V}(e:SqL K H l xs)(hv:atI xs i=some v)(h:Q v H):bT K (.ref l) (.int i) H Q:=⟨l,xs,i,v,rfl,rfl,e,hv,h⟩
theorem aB{l:Addr}{xs:List V}{i:Int}{v:V}(e:SqT K H l xs)(hv:atI xs i=some v)(h:Q v H):bH K (.ref l) (.int i) H Q:=⟨l,xs,i,v,rfl,rfl,e,hv,h⟩
end
theorem bW{p A B:Prop}[Decidable p](h1:p->A)(h2:¬p->B):if decide p=true then A else B:=by
 by_cases h:p
 ·rw[if_pos (decide_eq_true h)];exact h1 h
 ·rw[if_neg (by rw[decide_eq_false h];exact JQ)];exact h2 h
theorem rh{p A B:Prop}[Decidable p](h1:¬p->A)(h2:p->B):if(!decide p)=true then A else B:=by
 by_cases h:p
 ·rw[if_neg (by rw[decide_eq_true h];exact JQ)];exact h2 h
 ·rw[if_pos (by rw[decide_eq_false h];rfl)];exact h1 h
theorem cj{p A B:Prop}[Decidable p](h:p)(h1:A):if decide p=true then A else B:=bW (fun _=>h1) (fun n=>absurd h n)
theorem aE{p A B:Prop}[Decidable p](h:¬p)(h1:B):if decide p=true then A else B:=bW (fun n=>absurd n h) (fun _=>h1)
theorem AN{A B:Prop}(h:B):if(!true)=true then A else B:=by exact kh h
theorem IT{A B:Prop}(h:A):if(!false)=true then A else B:=by exact ki h
theorem xK{σ:St}{H:Hp}{R:Bool->Hp->Prop}(h:R true H):aS σ H R:=h
theorem pU{B:(St->Hp->Prop)->Prop}{R:St->Hp->Prop}(h:B R):∃N:St->Hp->Prop,(∀σ' H',N σ' H'->R σ' H')/\B N:=⟨R,fun _ _ h=>h,h⟩
theorem pV{c:TT}{tb:TS}{D:jk}{σ:St}{H:Hp}(W:Nat->St->Hp->Prop)(m:Nat)(h0:W m σ H)(h:∀m σ H,W m σ H->c σ H fun b H1=>if b=true then∃N:St->Hp->Prop,(∀σ' H',N σ' H'->∃m',m'<m/\W m' σ' H')/\tb { D with nx:=N,ct:=N,bk:=D.nx } σ H1 else D.nx σ H1):
  im c tb D σ H:=⟨W,⟨m,h0⟩,h⟩
noncomputable def bY(K:Fg):List V->Hp->VK->Prop:=fun xs H Q=>∃p ys,xs=[.ref p]/\(SqL K H p ys\/SqT K H p ys)/\Q (.int ys.length) H
noncomputable def rj(K:Fg):List V->Hp->VK->Prop:=fun xs H Q=>∃(p:Addr)(ns:List Int),xs=[.ref p]/\SqL K H p (ns.map V.int)/\Q (.int ns.sum) H
noncomputable def AO(K:Fg):List V->Hp->VK->Prop:=fun xs H Q=>∃(p:Addr)(bs:List Bool),xs=[.ref p]/\SqL K H p (bs.map V.bl)/\Q (.bl (bs.all id)) H
noncomputable def uW(K:Fg):List V->Hp->VK->Prop:=fun xs H Q=>∃(p:Addr)(ns:List Int),xs=[.ref p]/\SqL K H p (ns.map V.int)/\ns≠[]/\∀M,M∈ns->(∀a∈ns,a<=M)->Q (.int M) H
noncomputable def AQ:List V->Hp->VK->Prop:=fun xs H Q=>∃i j,xs=[.int i,.int j]/\Q (.int (if j<i then j else i)) H
noncomputable def FH:List V->Hp->VK->Prop:=fun xs H Q=>∃i j,xs=[.int i,.int j]/\Q (.int (if j>i then j else i)) H
noncomputable def Em:List V->Hp->VK->Prop:=fun xs H Q=>(∃i,xs=[.int i]/\Q (.int i) H)\/∃k,xs=[.bl k]/\Q (.int (if k then 1 else 0)) H
noncomputable def Ib(K:Fg):List V->Hp->VK->Prop:=fun xs H Q=>∃p ys,xs=[.ref p]/\((SqL K H p ys/\∀l,H l=none->Q (.ref l) (upd H l (.tup ys)))\/(SqT K H p ys/\Q (.ref p) H))
section
variable{K:Fg}{H:Hp}{Q:VK}
theorem gG{l:Addr}{ys:List V}(e:SqL K H l ys)(h:Q (.int ys.length) H):bY K [.ref l] H Q:=⟨l,ys,rfl,.inl e,h⟩
theorem zZ{l:Addr}{ys:List V}(e:SqT K H l ys)(h:Q (.int ys.length) H):bY K [.ref l] H Q:=⟨l,ys,rfl,.inr e,h⟩
theorem AR{l:Addr}{ns:List Int}(e:SqL K H l (ns.map V.int))(h:Q (.int ns.sum) H):rj K [.ref l] H Q:=⟨l,ns,rfl,e,h⟩
theorem Ic{i j:Int}(h:Q (.int (if j<i then j else i)) H):AQ [.int i,.int j] H Q:=⟨i,j,rfl,h⟩
theorem Id{i j:Int}(h:Q (.int (if j>i then j else i)) H):FH [.int i,.int j] H Q:=⟨i,j,rfl,h⟩
theorem Ie{k:Bool}(h:Q (.int (if k then 1 else 0)) H):Em [.bl k] H Q:=.inr ⟨k,rfl,h⟩
end
noncomputable def New(H:Hp)(o:HO)(Q:Addr->Hp->Prop):Prop:=∀p H',H p=none->am H H'->H' p=some o->Q p H'
theorem New.upd{H:Hp}{o:HO}{Q:Addr->Hp->Prop}(h:New H o Q):∀p,H p=none->Q p (upd H p o):=fun p hp=>h p _ hp (bc hp _) az
noncomputable def cD(t:TA):TE:=fun σ H Q=>t σ H fun xs H1=>xs.length<=JP/\New H1 (.tup xs) fun p H2=>Q (.ref p) H2
noncomputable def db(t:TA):TE:=fun σ H Q=>t σ H fun xs H1=>xs.length<=JP/\New H1 (.lst xs) fun p H2=>Q (.ref p) H2
noncomputable def oV:R2:=fun x y H Q=>∃l b xs zs,x=.ref l/\y=.ref b/\H l=some (.lst xs)/\H b=some (.lst zs)/\xs.length+zs.length<=JP/\New H (.lst (xs++zs)) fun p H2=>Q (.ref p) H2
noncomputable def En:R2:=fun x y H Q=>∃l k xs,x=.ref l/\y=.int k/\H l=some (.lst xs)/\-(2^63)<=k/\k<2^63/\xs.length*k.toNat<=JP/\New H (.lst (Km k.toNat xs).flatten) fun p H2=>Q (.ref p) H2
noncomputable def fv(K:Fg):List V->Hp->VK->Prop:=fun xs H Q=>∃p ys,xs=[.ref p]/\(SqL K H p ys\/SqT K H p ys)/\New H (.lst ys) fun l H2=>Q (.ref l) H2
noncomputable def pW(K:Fg):List V->Hp->VK->Prop:=fun xs H Q=>∃p ys,xs=[.ref p]/\SqL K H p ys/\New H (.tup ys) fun l H2=>Q (.ref l) H2
section
variable{σ:St}{H:Hp}{Q:VK}{K:Fg}
theorem IU{t:TA}(h:t σ H fun xs H1=>xs.length<=JP/\New H1 (.tup xs) fun p H2=>Q (.ref p) H2):cD t σ H Q:=h
theorem pX{t:TA}(h:t σ H fun xs H1=>xs.length<=JP/\New H1 (.lst xs) fun p H2=>Q (.ref p) H2):db t σ H Q:=h
theorem pY{l b:Addr}{xs zs:List V}(h1:H l=some (.lst xs))(h2:H b=some (.lst zs))(hz:xs.length+zs.length<=JP)(h:∀p H',H p=none->am H H'->H' p=some (.lst (xs++zs))->Q (.ref p) H'):oV (.ref l) (.ref b) H Q:=⟨l,b,xs,zs,rfl,rfl,h1,h2,hz,h⟩
theorem iC{p:Addr}{ys:List V}(e:SqL K H p ys)(h:∀l H',H l=none->am H H'->H' l=some (.lst ys)->Q (.ref l) H'):fv K [.ref p] H Q:=⟨p,ys,rfl,.inl e,h⟩
theorem Aa{p:Addr}{ys:List V}(e:SqL K H p ys)(h:∀l H',H l=none->am H H'->H' l=some (.tup ys)->Q (.ref l) H'):pW K [.ref p] H Q:=⟨p,ys,rfl,e,h⟩
end
section
variable{g:TG}{tb:TS}{NX:St->Hp->Prop}{RT:VK}{σ:St}{H:Hp}{K:Fg}
theorem k9{j:Int}(n:Nat)(hn:j.toNat=n)(hj:j<=1000000000)(hj0:-1000000000<=j)(Pv:Nat->St->Hp->Prop)(h0:Pv 0 σ H)(hs:∀i σ H,i<n->Pv i σ H->g (.int i) σ H fun σ2 H2=>tb { nx:=Pv (i+1),rt:=RT,bk:=NX,ct:=Pv (i+1) } σ2 H2)(hd:∀σ H,Pv n σ H->NX σ H):
  ∃j':Int,[V.int j]=[.int j']/\-(2^62)<=j'/\j'<2^62/\∃W:Nat->Nat->St->Hp->Prop,(∃m,W 0 m σ H)/\∀i m σ H,W i m σ H->
   ((Itr 0 j'.toNat).stop i H/\NX σ H)\/((Itr 0 j'.toNat).go i H/\∃N:St->Hp->Prop,(∀σ' H',N σ' H'->∃m',m'<m/\W (i+1) m' σ' H')/\∀x H',(Itr 0 j'.toNat).yld i H x H'->g x σ H' fun σ2 H2=>tb { nx:=N,rt:=RT,bk:=NX,ct:=N } σ2 H2):=by
 refine⟨j,rfl,by omega,by omega,?_⟩;subst hn;exact oK (lo:=0) (D:={ nx:=NX,rt:=RT }) Pv h0 (fun i σ H hi p=>by rw[PD];exact hs i σ H hi p) hd
theorem mR{a:Addr}(xs:List V)(hx:SqL K H a xs)(Pv:Nat->St->Hp->Prop)(h0:Pv 0 σ H)(hl:∀i σ H,i<=xs.length->Pv i σ H->SqL K H a xs)(hs:∀i x σ H,xs[i]?=some x->Pv i σ H->g x σ H fun σ2 H2=>tb { nx:=Pv (i+1),rt:=RT,bk:=NX,ct:=Pv (i+1) } σ2 H2)(hd:∀σ H,Pv xs.length σ H->NX σ H):
  ∃a',V.ref a=.ref a'/\(∃xs,SqL K H a' xs)/\∃W:Nat->Nat->St->Hp->Prop,(∃m,W 0 m σ H)/\∀i m σ H,W i m σ H->
   ((Itl K a').stop i H/\NX σ H)\/((Itl K a').go i H/\∃N:St->Hp->Prop,(∀σ' H',N σ' H'->∃m',m'<m/\W (i+1) m' σ' H')/\∀x H',(Itl K a').yld i H x H'->g x σ H' fun σ2 H2=>tb { nx:=N,rt:=RT,bk:=NX,ct:=N } σ2 H2):=
 ⟨a,rfl,⟨xs,hx⟩,qY (D:={ nx:=NX,rt:=RT }) Pv h0 hl hs hd⟩
theorem sg{a:Addr}(xs:List V)(hx:SqT K H a xs)(Pv:Nat->St->Hp->Prop)(h0:Pv 0 σ H)(hl:∀i σ H,i<=xs.length->Pv i σ H->SqT K H a xs)(hs:∀i x σ H,xs[i]?=some x->Pv i σ H->g x σ H fun σ2 H2=>tb { nx:=Pv (i+1),rt:=RT,bk:=NX,ct:=Pv (i+1) } σ2 H2)(hd:∀σ H,Pv xs.length σ H->NX σ H):
  ∃a',V.ref a=.ref a'/\(∃xs,SqT K H a' xs)/\∃W:Nat->Nat->St->Hp->Prop,(∃m,W 0 m σ H)/\∀i m σ H,W i m σ H->
   ((Itt K a').stop i H/\NX σ H)\/((Itt K a').go i H/\∃N:St->Hp->Prop,(∀σ' H',N σ' H'->∃m',m'<m/\W (i+1) m' σ' H')/\∀x H',(Itt K a').yld i H x H'->g x σ H' fun σ2 H2=>tb { nx:=N,rt:=RT,bk:=NX,ct:=N } σ2 H2):=
 ⟨a,rfl,⟨xs,hx⟩,F9 (D:={ nx:=NX,rt:=RT }) Pv h0 hl hs hd⟩
theorem mS{S:Src}{a:Addr}(xs:List V)(hx:S.Sq K H a xs)(Pv:Nat->St->Hp->Prop)(h0:Pv 0 σ H)(hl:∀i σ H,i<=xs.length->Pv i σ H->S.Sq K H a xs)
  (hs:∀i x T σ H H',xs[i]?=some x->Pv i σ H->H T=none->am H H'->H' T=some (.tup [.int i,x])->g (.ref T) σ H' fun σ2 H2=>tb { nx:=Pv (i+1),rt:=RT,bk:=NX,ct:=Pv (i+1) } σ2 H2) (hd:∀σ H,Pv xs.length σ H->NX σ H):
  ∃a' xs',[V.ref a]=[.ref a']/\S.Sq K H a' xs'/\∃W:Nat->Nat->St->Hp->Prop,(∃m,W 0 m σ H)/\∀i m σ H,W i m σ H->
   ((Ite S K a').stop i H/\NX σ H)\/((Ite S K a').go i H/\∃N:St->Hp->Prop,(∀σ' H',N σ' H'->∃m',m'<m/\W (i+1) m' σ' H')/\∀x H',(Ite S K a').yld i H x H'->g x σ H' fun σ2 H2=>tb { nx:=N,rt:=RT,bk:=NX,ct:=N } σ2 H2):=
 ⟨a,xs,rfl,hx,xG (D:={ nx:=NX,rt:=RT }) Pv h0 hl (fun i x T σ H e p hT=>hs i x T σ H _ e p hT (bc hT _) az) hd⟩
end
theorem xL{α:Type}[DecidableEq α]:∀{xs:List α} {m:α},m∈xs->∃j:Nat,xs[j]?=some m/\∀i:Nat,i<j->xs[i]?≠some m
 |x::r,m,h=>by
  by_cases e:x=m
  ·exact⟨0,by rw[e];rfl,fun i hi=>absurd hi (by omega)⟩
  ·have hm:m∈r:=by
    rcases JH.mp h with h|h
    ·exact absurd h.symm e
    ·exact h
   obtain⟨j,h1,h2⟩:=xL hm;refine⟨j+1,h1,fun i hi=>?_⟩;cases i with
   |zero=>intro z;exact e (JR z)
   |succ i=>exact h2 i (by omega)
theorem dh{K:Fg}{i j:Nat}{a:Addr}{x y:V}{σ:St}{H:Hp}{R:St->Hp->Prop}(e:SqT K H a [x,y])(h:R ((σ.set i (some x)).set j (some y)) H):cM K 2 (aZ (ag i) (aZ (ag j) cL)) (.ref a) σ H R:=
 ⟨a,[x,y],rfl,e,rfl,x,[y],rfl,y,[],rfl,rfl,h⟩
noncomputable def aW(H:Hp)(p:Addr)(R:Nat->List V->Hp->Prop)(i:Nat)(acc:List V)(H2:Hp):Prop:=am H H2/\H2 p=some (.lst acc)/\acc.length<=i/\R i acc H2
theorem aW.put{H H4:Hp}{p:Addr}{R:Nat->List V->Hp->Prop}{i:Nat}{acc:List V}{y:V}(hp:H p=none)(st:∀i acc H H',R i acc H->cS H H'->R i acc H')(s:am H H4)(e:H4 p=some (.lst acc))(l:acc.length<=i)(r:R (i+1) (acc++[y]) H4):
  H4 p=some (.lst acc)/\aW H p R (i+1) (acc++[y]) (upd H4 p (.lst (acc++[y]))):=
 ⟨e,s.upd hp _,az,by rw[JX];exact QH l 1,st _ _ _ _ r (fO.keep e)⟩
theorem aW.skip{H H4:Hp}{p:Addr}{R:Nat->List V->Hp->Prop}{i:Nat}{acc:List V}(s:am H H4)(e:H4 p=some (.lst acc))(l:acc.length<=i)(r:R (i+1) acc H4):aW H p R (i+1) acc H4:=⟨s,e,by omega,r⟩
section
variable{g:CF TG}{tt:CF TT}{te:CF TE}{σ₀:St}{Q:VK}{H:Hp}{K:Fg}
theorem jp{j:Int}(n:Nat)(hn:j.toNat=n)(hj:j<=1000000)(hj0:-1000000<=j)(R:Nat->List V->Hp->Prop)(h0:∀H',am H H'->R 0 [] H')
  (hs:∀p,H p=none->∀C s' H' fp,∀i acc H2,i<n->aW H p R i acc H2->g C s' H' fp (.int i) σ₀ H2 fun σ2 H3=>tt C s' H' fp σ2 H3 fun b H4=>if b=true then te C s' H' fp σ2 H4 fun y H5=>H5 p=some (.lst acc)/\aW H p R (i+1) (acc++[y]) (upd H5 p (.lst (acc++[y])))else aW H p R (i+1) acc H4)
  (hd:∀p acc H2,H p=none->am H H2->H2 p=some (.lst acc)->R n acc H2->Q (.ref p) H2):
  ∃j':Int,[V.int j]=[.int j']/\-(2^62)<=j'/\j'<2^62/\∀p,H p=none->∃W:Nat->Nat->List V->Hp->Prop,(∃m,W 0 m [] (upd H p (.lst [])))/\∀C s' H' fp,bE (Itr 0 j'.toNat) (g C s' H' fp) (tt C s' H' fp) (te C s' H' fp) σ₀ p Q W:=by
 refine⟨j,rfl,by omega,by omega,fun p hp=>?_⟩;subst hn;exact np (lo:=0) (aW H p R) ⟨bc hp _,az,JF _,h0 _ (bc hp _)⟩ (fun i acc H2 _ c=>⟨c.2.1,c.2.2.1⟩) (by rw[JJ];omega) (fun C s' H' fp i acc H2 hi c=>by rw[PD];exact hs p hp C s' H' fp i acc H2 hi c) fun acc H2 c=>hd p acc H2 hp c.1 c.2.1 c.2.2.2
theorem cK{a:Addr}(xs:List V)(hx:SqL K H a xs)(hz:xs.length<=1000000)(R:Nat->List V->Hp->Prop)(h0:∀H',am H H'->R 0 [] H')
  (hs:∀p,H p=none->∀C s' H' fp,∀i x acc H2,xs[i]?=some x->aW H p R i acc H2->g C s' H' fp x σ₀ H2 fun σ2 H3=>tt C s' H' fp σ2 H3 fun b H4=>if b=true then te C s' H' fp σ2 H4 fun y H5=>H5 p=some (.lst acc)/\aW H p R (i+1) (acc++[y]) (upd H5 p (.lst (acc++[y])))else aW H p R (i+1) acc H4)
  (hd:∀p acc H2,H p=none->am H H2->H2 p=some (.lst acc)->R xs.length acc H2->Q (.ref p) H2):
  ∃a',V.ref a=.ref a'/\(∃xs,SqL K H a' xs)/\∀p,H p=none->∃W:Nat->Nat->List V->Hp->Prop,(∃m,W 0 m [] (upd H p (.lst [])))/\∀C s' H' fp,bE (Itl K a') (g C s' H' fp) (tt C s' H' fp) (te C s' H' fp) σ₀ p Q W:=
 ⟨a,rfl,⟨xs,hx⟩,fun p hp=>oR (aW H p R) ⟨bc hp _,az,JF _,h0 _ (bc hp _)⟩ (fun i acc H2 _ c=>⟨c.2.1,c.2.2.1⟩) (fun i acc H2 _ c=>c.1.seq hx) (by rw[JJ];omega) (fun C s' H' fp i x acc H2 hi c=>hs p hp C s' H' fp i x acc H2 hi c) fun acc H2 c=>hd p acc H2 hp c.1 c.2.1 c.2.2.2⟩
end
section
variable{g:TG}{tb:TS}{NX:St->Hp->Prop}{RT:VK}{σ:St}{H:Hp}{K:Fg}
theorem Ig{S1 S2:Src}{a b:Addr}(xs ys:List V)(hx:S1.Sq K H a xs)(hy:S2.Sq K H b ys)(Pv:Nat->St->Hp->Prop)(h0:Pv 0 σ H)(hl:∀i σ H,Pv i σ H->S1.Sq K H a xs/\S2.Sq K H b ys)
  (hs:∀i x y T σ H H',xs[i]?=some x->ys[i]?=some y->Pv i σ H->H T=none->am H H'->H' T=some (.tup [x,y])->g (.ref T) σ H' fun σ2 H2=>tb { nx:=Pv (i+1),rt:=RT,bk:=NX,ct:=Pv (i+1) } σ2 H2) (hd:∀σ H,Pv (min xs.length ys.length) σ H->NX σ H):
  ∃a' b' xs' ys',[V.ref a,V.ref b]=[.ref a',.ref b']/\S1.Sq K H a' xs'/\S2.Sq K H b' ys'/\∃W:Nat->Nat->St->Hp->Prop,(∃m,W 0 m σ H)/\∀i m σ H,W i m σ H->
   ((Itz S1 S2 K a' b').stop i H/\NX σ H)\/((Itz S1 S2 K a' b').go i H/\∃N:St->Hp->Prop,(∀σ' H',N σ' H'->∃m',m'<m/\W (i+1) m' σ' H')/\∀x H',(Itz S1 S2 K a' b').yld i H x H'->g x σ H' fun σ2 H2=>tb { nx:=N,rt:=RT,bk:=NX,ct:=N } σ2 H2):=by
 refine⟨a,b,xs,ys,rfl,hx,hy,CC (J:=Itz S1 S2 K a b) (n:=min xs.length ys.length) (D:={ nx:=NX,rt:=RT }) (Y:=fun i H x H1=>∃T u v,H T=none/\x=.ref T/\H1=upd H T (.tup [u,v])/\xs[i]?=some u/\ys[i]?=some v) Pv h0 (fun i σ H hi w=>?_) (fun σ H w=>?_) (fun i σ H x H1 hi w y=>?_) (fun i x σ H H1 hi w y=>?_) hd⟩
 ·obtain⟨q1,q2⟩:=hl i σ H w
  exact⟨xs,ys,xs[i],ys[i],q1,q2,by simp[show i<xs.length by omega],by simp[show i<ys.length by omega]⟩
 ·obtain⟨q1,q2⟩:=hl _ σ H w
  exact⟨xs,ys,q1,q2,rfl⟩
 ·obtain⟨T,u,v,e1,e2,e3,e4⟩:=y
  obtain⟨q1,q2⟩:=hl _ σ H w;obtain⟨e5,e6⟩:=e4 xs ys q1 q2;exact⟨T,u,v,e1,e2,e3,e5,e6⟩
 ·obtain⟨T,u,v,e1,rfl,rfl,e4,e5⟩:=y
  exact hs i u v T σ H _ e4 e5 w e1 (bc e1 _) az
end
section
variable{K:Fg}{H:Hp}{Q:VK}{a b:Addr}{ns ms:List Int}
theorem FI(h1:SqL K H a (ns.map V.int))(h2:SqL K H b (ms.map V.int))(h:Q (.bl (decide (ns=ms))) H):iw (SqL K) false (.ref a) (.ref b) H Q:=⟨a,b,_,_,_,rfl,rfl,h1,h2,oS ns ms,by rw[nr];exact h⟩
theorem IV(h1:SqT K H a (ns.map V.int))(h2:SqT K H b (ms.map V.int))(h:Q (.bl (decide (ns=ms))) H):iw (SqT K) false (.ref a) (.ref b) H Q:=⟨a,b,_,_,_,rfl,rfl,h1,h2,oS ns ms,by rw[nr];exact h⟩
theorem IW(h1:SqT K H a (ns.map V.int))(h2:SqT K H b (ms.map V.int))(h:Q (.bl (!decide (ns=ms))) H):iw (SqT K) true (.ref a) (.ref b) H Q:=⟨a,b,_,_,_,rfl,rfl,h1,h2,oS ns ms,by rw[nr];exact h⟩
theorem gH{x:V}{T:String}{t:Value}{c:Bool}(ty:eI K H x t)(e:Ku K t (.type T)=some c)(h:Q (.bl c) H):iu K [x,.ty T] H Q:=⟨x,T,t,c,rfl,ty,e,h⟩
end
section
variable{g:CF TG}{tt:CF TT}{te:CF TE}{σ₀:St}{Q:VK}{H:Hp}{K:Fg}
theorem lc{S1 S2:Src}{a b:Addr}(xs ys:List V)(hx:S1.Sq K H a xs)(hy:S2.Sq K H b ys)(kx:∀H',am H H'->S1.Sq K H' a xs)(ky:∀H',am H H'->S2.Sq K H' b ys)(hz:xs.length<=1000000)(R:Nat->List V->Hp->Prop)(h0:∀H',am H H'->R 0 [] H')
  (hs:∀p,H p=none->∀C s' H' fp,∀i x y T acc H2 H3,xs[i]?=some x->ys[i]?=some y->aW H p R i acc H2->H2 T=none->am H2 H3->H3 T=some (.tup [x,y])->H3 p=some (.lst acc)->g C s' H' fp (.ref T) σ₀ H3 fun σ2 H3=>tt C s' H' fp σ2 H3 fun b H4=>if b=true then te C s' H' fp σ2 H4 fun y H5=>H5 p=some (.lst acc)/\aW H p R (i+1) (acc++[y]) (upd H5 p (.lst (acc++[y])))else aW H p R (i+1) acc H4)
  (hd:∀p acc H2,H p=none->am H H2->H2 p=some (.lst acc)->R (min xs.length ys.length) acc H2->Q (.ref p) H2):
  ∃a' b' xs' ys',[V.ref a,V.ref b]=[.ref a',.ref b']/\S1.Sq K H a' xs'/\S2.Sq K H b' ys'/\∀p,H p=none->∃W:Nat->Nat->List V->Hp->Prop,(∃m,W 0 m [] (upd H p (.lst [])))/\∀C s' H' fp,bE (Itz S1 S2 K a' b') (g C s' H' fp) (tt C s' H' fp) (te C s' H' fp) σ₀ p Q W:=by
 refine⟨a,b,xs,ys,rfl,hx,hy,fun p hp=>mQ (n:=min xs.length ys.length) (Y:=fun i H x H1=>∃T u v,H T=none/\x=.ref T/\H1=upd H T (.tup [u,v])/\xs[i]?=some u/\ys[i]?=some v) (aW H p R)
  ⟨bc hp _,az,JF _,h0 _ (bc hp _)⟩ (fun i acc H2 _ c=>⟨c.2.1,c.2.2.1⟩) (by rw[JJ];omega) (fun i acc H2 hi c=>?_) (fun acc H2 c=>?_) (fun i acc H2 x H3 hi c y=>?_) (fun C s' H' fp i x acc H2 H3 hi c y=>?_) fun acc H2 c=>hd p acc H2 hp c.1 c.2.1 c.2.2.2⟩
 ·exact⟨xs,ys,xs[i],ys[i],kx _ c.1,ky _ c.1,by simp[show i<xs.length by omega],by simp[show i<ys.length by omega]⟩
 ·exact⟨xs,ys,kx _ c.1,ky _ c.1,rfl⟩
 ·obtain⟨T,u,v,e1,e2,e3,e4⟩:=y
  obtain⟨e5,e6⟩:=e4 xs ys (kx _ c.1) (ky _ c.1);exact⟨T,u,v,e1,e2,e3,e5,e6⟩
 ·obtain⟨T,u,v,e1,rfl,rfl,e4,e5⟩:=y
  exact hs p hp C s' H' fp i u v T acc H2 _ e4 e5 c e1 (bc e1 _) az (by rw[aR (aY c.2.1 e1)];exact c.2.1)
noncomputable def xM(K:Fg):V->Option Int->Option Int->Hp->VK->Prop:=fun x lo hi H Q=>∃a xs,x=.ref a/\SqT K H a xs/\¬(HT.sIx xs.length 0 lo=0/\HT.sIx xs.length xs.length hi=xs.length)/\New H (.tup (oN xs lo hi)) fun p H2=>Q (.ref p) H2
theorem AS{a:Addr}{xs:List V}{lo hi:Option Int}(e:SqT K H a xs)(hn:¬(HT.sIx xs.length 0 lo=0/\HT.sIx xs.length xs.length hi=xs.length))(h:∀p H',H p=none->am H H'->H' p=some (.tup (oN xs lo hi))->Q (.ref p) H'):xM K (.ref a) lo hi H Q:=⟨a,xs,rfl,e,hn,h⟩
theorem rk(x:V)(xs:List V):oN (x::xs) (some 1) none=xs:=by
 unfold oN;have e:HT.sIx (x::xs).length 0 (some 1)=min 1 (x::xs).length:=rfl;rw[e,show min 1 (x::xs).length=1 by simp];show((x::xs).drop 1).take ((x::xs).length-1)=xs;rw[Na (by simp)];rfl
theorem mr(x:V)(xs:List V):¬(HT.sIx (x::xs).length 0 (some 1)=0/\HT.sIx (x::xs).length (x::xs).length none=(x::xs).length):=fun h=>by
 have e:HT.sIx (x::xs).length 0 (some 1)=min 1 (x::xs).length:=rfl;rw[e,show min 1 (x::xs).length=1 by simp]at h;exact absurd h.1 (by decide)
theorem IX{x y:Str}(h:Q (.bl (decide (x=y))) H):rEq (.str x) (.str y) H Q:=⟨rfl,by rw[show decide (V.str x=V.str y)=decide (x=y)from decide_eq_decide.mpr ⟨fun e=>by injection e,fun e=>by rw[e]⟩];exact h⟩
noncomputable def AT(kvs:List (Str×V))(a:Addr):R2:=fun x y H Q=>x=.ref a/\∃k v,y=.str k/\kvs.lookup k=some v/\Q v H
theorem FJ{kvs:List (Str×V)}{a:Addr}{k:Str}{v:V}(e:kvs.lookup k=some v)(h:Q v H):AT kvs a (.ref a) (.str k) H Q:=⟨rfl,k,v,rfl,e,h⟩
noncomputable def xN(kvs:List (Str×V))(a:Addr)(neg:Bool):R2:=fun x y H Q=>y=.ref a/\∃k,x=.str k/\Q (.bl (if neg then !(kvs.lookup k).isSome else(kvs.lookup k).isSome)) H
end
noncomputable def km(K:Fg)(a:Addr)(xs:List V):Prop:=∃(o:Obj)(its:Array Value)(n:Nat),K.lookup a=some o/\o.cls=.type "tuple"/\o.data=.seq its n/\its.size<=JP/\aL xs its.toList
theorem km.sq{K:Fg}{a:Addr}{xs:List V}(h:km K a xs)(H:Hp):SqT K H a xs:=.inr h
section
variable{H:Hp}{Q:VK}{K:Fg}
theorem Eo{l b:Addr}{xs zs:List V}(e:H l=some (.lst xs))(eb:H b=some (.lst zs))(hz:xs.length+zs.length<=JP)(h:∀H',Off l H H'->H' l=some (.lst (xs++zs))->Q .non H'):uT (.ref l) [.ref b] H Q:=⟨l,b,xs,zs,rfl,rfl,e,eb,hz,h _ fO az⟩
theorem IY{a:Addr}{x:V}{xs:List V}{c:Bool}(e:SqT K H a xs)(fx:dm x=true)(fs:xs.all dm=true)(hc:inV x xs=c)(h:Q (.bl c) H):rIn K false x (.ref a) H Q:=⟨a,xs,rfl,.inr e,fx,fs,by rw[<-hc]at h;exact h⟩
end
theorem CJ(xs:List V)(z:Int){m:Nat}(hl:xs.length=m)(hm:0<m):∃x,atI xs (z%(m:Int))=some x/\x∈xs:=by
 have m1:=My z (b:=(m:Int)) (by omega);have m2:=Md z (b:=(m:Int)) (by omega);have hk:(z%(m:Int)).toNat<xs.length:=by omega
 refine⟨xs[(z%(m:Int)).toNat],?_,MQ hk⟩;have e:z%(m:Int)=(((z%(m:Int)).toNat:Nat):Int):=by omega
 have q:atI xs (((z%(m:Int)).toNat:Nat):Int)=some xs[(z%(m:Int)).toNat]:=b8 (JD hk);rw[<-e]at q;exact q
end L2
end
local macro_rules | `(tactic| walk_at "rb1")=>`(tactic| first
 | ((with_reducible refine' L2.nu (v:=?v) ?e ?h);(case e=>exact rfl))
 | (with_reducible first|refine L2.CH ?_|refine L2.kG ?_|refine L2.IJ ?_|refine L2.HP ?_|refine L2.iB ?_|refine L2.HQ ?_|refine L2.r_c ?_|refine L2.rg ?_|refine L2.Jn ?_|refine L2.Jo ?_|refine L2.r_U ?_|refine L2.IL ?_|refine L2.IM ?_|refine L2.IX ?_|refine L2.HR ?_|refine L2.Jp ?_|refine L2.HS ?_|refine L2.IR ?_|refine L2.IN ?_|refine L2.Jq ?_|refine L2.IO ?_|refine L2.HU ?_|refine L2.IP ?_|refine L2.HV ?_|refine L2.Jr ?_|refine L2.FG ?_|refine L2.CI ?_|refine L2.HW ?_|refine L2.Js ?_|refine L2.Jt ?_|refine L2.IQ ?_|refine L2.Ju ?_|refine L2.El ?_|refine L2.HX ?_|refine L2.IS ?_|refine L2.HY ?_|refine L2.Go ?_|refine L2.HZ ?_|refine L2.Gp ?_|refine L2.Gq ?_|refine L2.Ia ?_|refine L2.IU ?_|refine L2.pX ?_|refine L2.Ic ?_|refine L2.Id ?_|refine L2.Ie ?_|refine L2.ki ?_|refine L2.kh ?_|refine L2.AN ?_|refine L2.IT ?_|refine L2.xK ?_)
 | ((with_reducible refine L2.r_I ?_ ?_);(first| (show(0:Int)<_;omega)| (show(0:Int)<_;decide)|exact⟨by decide,by decide,by decide⟩|exact And.intro (by omega) (by omega)|exact(PySem.IntMulOk.of_right (QX (by omega) (by omega)))|exact(PySem.IntMulOk.of_left (QX (by omega) (by omega)))))
 | ((with_reducible refine' L2.gG (ys:=?y) ?e ?h);(case e=>first|assumption|exact L2.SqL.of (by assumption)))
 | ((with_reducible refine' L2.zZ (ys:=?y) ?e ?h);(case e=>first|assumption|exact L2.SqT.of (by assumption)))
 |dsimp only[LR,LS,L2.sub,JZ,Ni,List.getElem?_cons_zero,List.getElem?_cons_succ])
local macro_rules | `(tactic| walk_at "rd")=>`(tactic| repeat (first | (with_reducible first | refine L2.cG ?_ | refine L2.FF ?_) | walk_at "rb1"))
local macro_rules | `(tactic| walk_at "rs")=>`(tactic| repeat (first | (with_reducible refine L2.FF ?_) | walk_at "rb1"))
local macro_rules | `(tactic| walk_at "ra")=>`(tactic| repeat (walk_at "rb1"))
local macro_rules | `(tactic| right) => `(tactic| walk_at "rd")
local macro_rules | `(tactic| nofun) => `(tactic| walk_at "rs")
namespace L2
open PySem PyProof.Rows
noncomputable abbrev IA:=Option Int
noncomputable abbrev IK:=Sum IA (List IA)
noncomputable abbrev MK:=Sum IA (List IK)
noncomputable def iaV:V->Option IA
 | .non=>some none
 | .bl b=>some (some (if b then 1 else 0))
 | .int i=>some (some i)
 |_=>none
noncomputable def lP(H:Hp)(x:V):IK->Prop
 | .inl a=>iaV x=some a
 | .inr as=>∃c ys,x=.ref c/\H c=some (.tup ys)/\ys.map iaV=as.map some
noncomputable def ck(H:Hp)(x:V):MK->Prop
 | .inl a=>iaV x=some a
 | .inr is=>∃c xs,x=.ref c/\H c=some (.tup xs)/\Paired (lP H) xs is
noncomputable def eN:MK->Bool
 | .inl _=>false
 | .inr _=>true
theorem lP.keep{H H':Hp}{x:V}{k:IK}(h:lP H x k)(kp:cS H H'):lP H' x k:=by
 cases k with
 |inl a=>exact h
 |inr as=>obtain⟨c,ys,e,q,r⟩:=h;exact⟨c,ys,e,kp _ _ q,r⟩
theorem ck.keep{H H':Hp}{x:V}{k:MK}(h:ck H x k)(kp:cS H H'):ck H' x k:=by
 cases k with
 |inl a=>exact h
 |inr as=>obtain⟨c,xs,e,q,r⟩:=h;exact⟨c,xs,e,kp _ _ q,Paired.mapP r fun _ _ z=>lP.keep z kp⟩
theorem vT{H H':Hp}{xs:List V}{ks:List MK}(h:Paired (ck H) xs ks)(kp:cS H H'):Paired (ck H') xs ks:=Paired.mapP h fun _ _ z=>ck.keep z kp
theorem bG{α β:Type}{F:α->β->Prop}:∀{xs:List α} {ys:List β} {i:Nat} {x:α},Paired F xs ys->xs[i]?=some x->∃y,ys[i]?=some y/\F x y
 |_,_,_,_,.nil,e=>by simp at e
 |_,_,0,_,.cons r _,e=>by simp at e;subst e;exact⟨_,rfl,r⟩
 |_,_,i+1,x,.cons _ t,e=>by
  obtain⟨u,h1,h2⟩:=bG (i:=i) (x:=x) t (by simpa using e);exact⟨u,by simpa using h1,h2⟩
theorem si(H:Hp):∀ns:List Int,Paired (lP H) (ns.map V.int) (ns.map fun n=>(Ml (some n):IK))
 | []=>.nil
 |n::r=>.cons rfl (si H r)
theorem Gr{H:Hp}{c:Addr}{ns:List Int}(e:H c=some (.tup (ns.map V.int))):ck H (.ref c) (.inr (ns.map fun n=>(Ml (some n):IK))):=⟨c,_,rfl,e,si H ns⟩
theorem Off.keepD{H H':Hp}{l:Addr}(o:Off l H H')(h:∀xs,H l≠some (.tup xs)):cS H H':=fun b ys q=>by
 rw[o b (fun z=>by subst z;exact h _ q)];exact q
noncomputable def bn{α:Type}[DecidableEq α](ks:List α):List Nat:=ks.map fun k=>ks.idxOf k
theorem cz{α:Type}[DecidableEq α](ks:List α):(bn ks).length=ks.length:=JB _
theorem AU{α:Type}[DecidableEq α]{ks:List α}{i:Nat}{k:α}(h:k∈ks.take i):(ks.take i).idxOf k=ks.idxOf k:=by
 have:=Rq (l₁:=ks.take i) (l₂:=ks.drop i) (a:=k);rw[Nj,if_pos h]at this;exact this.symm
theorem vU{α:Type}[DecidableEq α]{ks:List α}{i:Nat}{k:α}(hk:ks[i]?=some k)(h:k∉ks.take i):ks.idxOf k=i:=by
 obtain⟨hi,e⟩:=JG.mp hk;have e1:ks=ks.take i++(k::ks.drop (i+1)):=by
  rw[<-e,List.getElem_cons_drop,Nj]
 have:=Rq (l₁:=ks.take i) (l₂:=k::ks.drop (i+1)) (a:=k);rw[<-e1,if_neg h,List.idxOf_cons_self,Ly]at this;omega
theorem bP{α:Type}{ks:List α}{i:Nat}{k:α}(hk:ks[i]?=some k):ks.take (i+1)=ks.take i++[k]:=by
 rw[Ls,hk];rfl
theorem qJ{α β:Type}[DecidableEq α][DecidableEq β]{f:α->β}(inj:∀a b,f a=f b->a=b)(ks:List α):bn (ks.map f)=bn ks:=by
 unfold bn;rw[Mv];refine L7 fun k hk=>?_;show(ks.map f).idxOf (f k)=ks.idxOf k;clear hk
 induction ks with
 |nil=>rfl
 |cons a r ih=>
  rw[JZ,Sv,Sv,ih];by_cases e:a=k
  ·rw[e,beq_self_eq_true,beq_self_eq_true]
  ·rw[beq_eq_false_iff_ne.mpr e,beq_eq_false_iff_ne.mpr (fun z=>e (inj _ _ z))]
theorem sj{α:Type}[DecidableEq α]{ks:List α}{i:Nat}{z:Nat}(h:(bn ks)[i]?=some z):∃k,ks[i]?=some k/\z=ks.idxOf k/\z<=i:=by
 unfold bn at h;rw[JS]at h;cases e:ks[i]? with
 |none=>rw[e]at h;cases h
 |some k=>
  rw[e]at h;refine⟨k,rfl,(JR h).symm,?_⟩;rw[<-JR h];show ks.idxOf k<=i;by_cases q:k∈ks.take i
  ·have:=OT q
   rw[AU q,Ly]at this;omega
  ·rw[vU e q];exact JF _
section
open PySem.Spec
section
variable{κ:Type}[DecidableEq κ]
noncomputable def eX(kvs:List (κ×V))(k:κ):Option V:=(kvs.find? fun kv=>decide (kv.1=k)).map (·.2)
noncomputable def nv(kvs:List (κ×V))(k:κ)(v:V):List (κ×V):=
 if(kvs.any fun kv=>decide (kv.1=k))=true then kvs.map (fun kv=>if kv.1=k then(kv.1,v)else kv)else kvs++[(k,v)]
theorem dZ{p:κ×V}{r:List (κ×V)}{k:κ}(e:p.1=k):eX (p::r) k=some p.2:=by simp[eX,Kl,e]
theorem d2{p:κ×V}{r:List (κ×V)}{k:κ}(e:¬p.1=k):eX (p::r) k=eX r k:=by simp[eX,Kl,e]
theorem rl(k:κ):∀kvs:List (κ×V),(kvs.any fun kv=>decide (kv.1=k))=(eX kvs k).isSome
 | []=>rfl
 |p::r=>by
  rw[N1];by_cases e:p.1=k
  ·simp only[dZ e,decide_eq_true e,Bool.true_or,Rf]
  ·rw[d2 e,decide_eq_false e,Bool.false_or];exact rl k r
theorem xO(k j:κ)(y:V):∀kvs:List (κ×V),eX (kvs.map fun kv=>if kv.1=k then(kv.1,y)else kv) j=(eX kvs j).map fun x=>if j=k then y else x
 | []=>rfl
 |p::r=>by
  have ih:=xO k j y r;rw[JZ];by_cases h:p.1=k
  ·rw[if_pos h]
   by_cases e:p.1=j
   ·rw[dZ (p:=(p.1,y)) e,dZ e,Oo,if_pos (e.symm.trans h)]
   ·rw[d2 (p:=(p.1,y)) e,d2 e,ih]
  ·rw[if_neg h]
   by_cases e:p.1=j
   ·rw[dZ (p:=p) e,dZ e,Oo,if_neg (fun z=>h (e.trans z))]
   ·rw[d2 (p:=p) e,d2 e,ih]
theorem vV(k j:κ)(y:V):∀kvs:List (κ×V),eX kvs k=none->eX (kvs++[(k,y)]) j=if j=k then some y else eX kvs j
 | [],_=>by
  by_cases e:k=j
  ·rw[if_pos e.symm];exact dZ (p:=(k,y)) e
  ·rw[if_neg (fun z=>e z.symm)];exact d2 (p:=(k,y)) e
 |p::r,hn=>by
  rw[RZ];have hk:¬p.1=k:=fun z=>by rw[dZ z]at hn;cases hn
  rw[d2 hk]at hn;have ih:=vV k j y r hn;by_cases e:p.1=j
  ·rw[dZ e,dZ e,if_neg (fun z=>hk (e.trans z))]
  ·rw[d2 e,d2 e,ih]
theorem Ep(kvs:List (κ×V))(k j:κ)(y:V):eX (nv kvs k y) j=if j=k then some y else eX kvs j:=by
 unfold nv;by_cases a:(kvs.any fun kv=>decide (kv.1=k))=true
 ·rw[if_pos a,xO]
  rw[rl]at a;by_cases e:j=k
  ·obtain⟨x,hx⟩:=Pu.mp a
   rw[if_pos e,e,hx,Oo,if_pos rfl]
  ·rw[if_neg e]
   cases eX kvs j with
   |none=>rfl
   |some x=>rw[Oo,if_neg e]
 ·rw[if_neg a]
  refine vV k j y kvs ?_;rw[rl]at a;cases q:eX kvs k with
  |none=>rfl
  |some x=>rw[q]at a;exact(a rfl).elim
theorem mw(kvs:List (κ×V))(k:κ)(v:V):(nv kvs k v).length<=kvs.length+1:=by
 unfold nv
 split
 ·rw[JB];omega
 ·rw[JX,Kd,Sw];omega
theorem gh.isSome_eq{o:Option V}{u:Option Value}(r:gh o u):o.isSome=u.isSome:=by
 cases o with
 |none=>cases u with
  |none=>rfl
  |some _=>exact(show False from r).elim
 |some _=>cases u with
  |none=>exact(show False from r).elim
  |some _=>rfl
theorem KV.val{kvs:List (κ×V)}{vs:List (κ×Value)}(r:KV kvs vs)(k:κ):gh (eX kvs k) (valueAt vs k):=by
 unfold KV at r
 induction r with
 |nil=>exact Mr
 | @cons p q ps qs h t ih=>
  obtain⟨h1,h2⟩:=h;by_cases e:p.1=k
  ·have e':q.1=k:=h1.symm.trans e
   have b:valueAt (q::qs) k=some q.2:=by simp[valueAt,Kl,e']
   rw[dZ e,b];exact h2
  ·have e':¬q.1=k:=fun z=>e (h1.trans z)
   have b:valueAt (q::qs) k=valueAt qs k:=by simp[valueAt,Kl,e']
   rw[d2 e,b];exact ih
theorem KV.any{kvs:List (κ×V)}{vs:List (κ×Value)}(r:KV kvs vs)(k:κ):(kvs.any fun kv=>decide (kv.1=k))=vs.any fun kv=>decide (kv.1=k):=by
 unfold KV at r
 induction r with
 |nil=>rfl
 |cons h t ih=>rw[N1,N1,ih,h.1]
theorem KV.repl{kvs:List (κ×V)}{vs:List (κ×Value)}(r:KV kvs vs)(k:κ){y:V}{u:Value}(ry:aO y u):
  KV (kvs.map fun kv=>if kv.1=k then(kv.1,y)else kv) (vs.map fun kv=>if kv.1=k then(kv.1,u)else kv):=by
 unfold KV at r ⊢
 induction r with
 |nil=>exact .nil
 | @cons p q ps qs h t ih=>
  rw[JZ,JZ];refine .cons ?_ ih;obtain⟨h1,h2⟩:=h;by_cases e:p.1=k
  ·rw[if_pos e,if_pos (h1.symm.trans e)];exact⟨h1,ry⟩
  ·rw[if_neg e,if_neg (fun z=>e (h1.trans z))];exact⟨h1,h2⟩
theorem KV.put{kvs:List (κ×V)}{vs:List (κ×Value)}(r:KV kvs vs)(k:κ){y:V}{u:Value}(ry:aO y u):KV (nv kvs k y) (stored vs k u):=by
 unfold nv stored;rw[r.any k];by_cases e:(vs.any fun kv=>decide (kv.1=k))=true
 ·rw[if_pos e,if_pos e];exact r.repl k ry
 ·rw[if_neg e,if_neg e];exact Paired.snoc r ⟨rfl,ry⟩
theorem KV.length{kvs:List (κ×V)}{vs:List (κ×Value)}(r:KV kvs vs):kvs.length=vs.length:=Kf r
end
theorem FK{P:Program}{w:World}{k:Key}{u:Value}(r:aO (kV k) u):(hZ P w).is k u=true:=by
 cases k with
 |inl i=>obtain⟨t,e⟩:=(show∃t,u=MJ i t from r);subst e;exact zf P w i t
 |inr x=>obtain⟨t,e⟩:=(show∃t,u=PR x t from r);subst e;exact bx P w x t
noncomputable abbrev KT(H:Hp):List (List Key×V)->List (List Key×Addr×Value)->Prop:=Paired fun p q=>p.1=q.1/\H q.2.1=some (.tup (p.1.map kV))/\aO p.2 q.2.2
theorem KT.keeps{H H':Hp}{kvs:List (List Key×V)}{xs:List (List Key×Addr×Value)}(r:KT H kvs xs)(ht:∀b ys,H b=some (.tup ys)->H' b=some (.tup ys)):KT H' kvs xs:=
 Paired.mapP r fun _ _ z=>⟨z.1,ht _ _ z.2.1,z.2.2⟩
section
variable{P:Program}{w:World}{H:Hp}{h:Heap}{a:Addr}
end
section
variable{X:Cx}{pins:List (Addr×Obj)}{σ:St}{H:Hp}{s:Shared}{a:Addr}{y v:V}{u r:Value}{o:Option V}{A:Around}{E:Value->Shared->Prop}
theorem Inv.big(I:Inv X pins σ H s):LF<s.heap.objs.size:=by
 have h:Kb<s.heap.objs.size:=(I.mod.glob.keeps I.bk).lt;exact Nat.lt_trans (by decide) h
theorem Ab{h':Heap}{t':Nat}{ob:HO}(I:Inv X pins σ H s)(mu:Mut (H a))(hs:J0 a s.heap h')(he:∃q,h'.get? a=some q)(new:bI X.prog X.w (upd H a ob) h' a ob):
  Inv X pins σ (upd H a ob) { s with heap:=h',toks:=t' }:=
 I.write (x:=a) (e:=a) mu (.inl rfl) (fun b q hb z=>(hs.2 b hb).trans z) he new
end
section
variable{X:Cx}{pins:List (Addr×Obj)}{σ:St}{H:Hp}{s:Shared}{a:Addr}{kvs:List (Key×V)}{k:Key}{u:Value}{A:Around}{E:Value->Shared->Prop}
end
noncomputable def Er(i:Expr):Prop:=∀ov iv,Qb i false ov iv=operate [ov,iv] (getItem ov iv)
theorem Ac{prog:Program}{w:World}{A:Around}{E:Value->Shared->Prop}{s:Shared}{env:Env}{value slice:Expr}{pos:Pos}{T id:String}{Q:Value->Shared->Prop}
  (hl:QB (.type T) "__getitem__"=pure (some (.builtin id))) (hs:Er slice)
  (h:wpAny (model prog w) A (eval value env) (fun o s₁=>wpAny (model prog w) A (eval slice env) (fun i s₂=>s₂.TypeIs o T/\wpAny (model prog w) A (getItem o i) Q E s₂) E s₁) E s):
  wpAny (model prog w) A (eval (.Subscript value slice pos) env) Q E s:=by
 refine Si (Lj h (fun o s₁ h₁=>Lj h₁ (fun i s₂ h₂=>?_) fun _ _ x=>x) fun _ _ x=>x);obtain⟨hT,h₂⟩:=h₂;unfold QP;refine Jz ?_;rw[getitemInPython_of_ne hT.not_modules];refine Jz (Lm hT hl ?_);have fin:wpAny (model prog w) A (Qb slice false o i) (fun r s₃=>wpAny (model prog w) A (letTemporaryGo value o r>>=fun _=>pure r) Q E s₃) E s₂:=by
  rw[hs o i];exact wpAny_operating (Lj h₂ (fun r s₃ h₃=>Jz (wpAny_letTemporaryGo (JC h₃))) fun _ _ x=>x)
 first
  |exact JC (Jz fin)
  |exact Jz (JC (Jz fin))
  |exact Jz fin
section
variable{X:Cx}{o i e value:Expr}{pos pos' tpos:Pos}{td ty tv:TE}
end
section
variable{X:Cx}{pos:Pos}
end
structure M2(X:Cx)(o:Expr)(m:Str)(apos:Pos)(e f:Expr)(cpos:Pos):Prop where
 base:MW o m X.env (eval o X.env)=eval o X.env
 few:((backTo cpos (J4 [e,f] X.env)).all (fun x=>!x.1)&&(N4 cpos (M8 [] X.env)).all (fun x=>x.1.isSome)
  &&decide (([e,f]:List Expr).length+([]:List Keyword).length+(if([]:List Keyword).isEmpty then 0 else 1)<30))=true
 line:(apos.endLine==cpos.line)=true
 trees:backTo cpos (J4 [e,f] X.env)=[(false,eval e X.env),(false,eval f X.env)]
section
variable{X:Cx}{pins:List (Addr×Obj)}{σ:St}{H:Hp}{s:Shared}{a:Addr}{y d:V}{u r:Value}{o:Option V}{A:Around}{E:Value->Shared->Prop}
end
section
variable{X:Cx}{o e f:Expr}{apos cpos:Pos}{td ty tx:TE}
end
section
variable{X:Cx}{pins:List (Addr×Obj)}{σ:St}{H:Hp}{s:Shared}{a:Addr}{kvs:List (Key×V)}{A:Around}{E:Value->Shared->Prop}
end
section
variable{X:Cx}{pins:List (Addr×Obj)}{σ:St}{H:Hp}{s:Shared}{a:Addr}{y:V}{u:Value}{A:Around}{E:Value->Shared->Prop}
end
end
section
open PySem.Spec
section
variable{prog:Program}{w:World}{A:Around}{E:Value->Shared->Prop}{s:Shared}
theorem qF{b:Bool}{Q:Int->Shared->Prop}(h:Q (hashInt (if b then 1 else 0)) { s with toks:=s.toks+1 }):wpAny (model prog w) A (pyHash (.bool b)) Q E s:=by
 have hr:=rawHash_range (if b then 1 else 0);unfold pyHash;have hv:[KP b].any Value.onHeap=false:=rfl;refine Jz ?_;rw[cRoomFor,if_neg (by rw[hv];exact JQ)];refine JC ?_;have hT:s.TypeIs (.bool b) "bool":=rfl;refine Jz (Lm hT Nb.lookup ?_);show wpAny _ _ (if(some (QR "int.__hash__")==some K8)=true then _ else _) Q E s;rw[if_neg (by rw[PF];exact JQ)];refine Jz (Lm hT Nb.lookup ?_);show wpAny _ _ (Nc (.bool b) "__hash__" _>>=_) Q E s;refine Jz (Mi hT Nb (Ko Nb hT entry_int_hash ?_ (args_int_hash _)));cases b with
 |true=>
  refine(show wpAny _ _ (do ret (<-mkInt (rawHash 1))) _ _ s from Oq ?_);show wpAny _ _ (if(decide (-(2:Int)^63<=rawHash 1)&&decide (rawHash 1<2^63))=true then _ else _) Q E _;rw[if_pos (by decide)];exact JC h
 |false=>
  refine(show wpAny _ _ (do ret (<-mkInt (rawHash 0))) _ _ s from Oq ?_);show wpAny _ _ (if(decide (-(2:Int)^63<=rawHash 0)&&decide (rawHash 0<2^63))=true then _ else _) Q E _;rw[if_pos (by decide)];exact JC h
theorem qG{Q:Int->Shared->Prop}(h:Q 4238894112 { s with toks:=s.toks+1 }):wpAny (model prog w) A (pyHash .none) Q E s:=by
 unfold pyHash;have hv:[K8].any Value.onHeap=false:=rfl;refine Jz ?_;rw[cRoomFor,if_neg (by rw[hv];exact JQ)];refine JC ?_;have hT:s.TypeIs .none "NoneType":=rfl;refine Jz (Lm hT ME.lookup ?_);show wpAny _ _ (if(some (QR "NoneType.__hash__")==some K8)=true then _ else _) Q E s;rw[if_neg (by rw[PF];exact JQ)];refine Jz (Lm hT ME.lookup ?_);show wpAny _ _ (Nc .none "__hash__" _>>=_) Q E s;refine Jz (Mi hT ME (Ko ME hT PySem.F.entry_NoneType_hash ?_ (PySem.F.args_NoneType_hash_1 _)));refine(show wpAny _ _ (do ret (<-mkInt 4238894112)) _ _ s from Oq ?_);show wpAny _ _ (if(decide (-(2:Int)^63<=4238894112)&&decide ((4238894112:Int)<2^63))=true then _ else _) Q E _;rw[if_pos (by decide)];exact JC h
end
noncomputable def xP:IA->Int
 |none=>4238894112
 |some i=>hashInt i
noncomputable def ny:IA->Value->Bool
 |none,.none=>true
 |some i,.int j _=>i==j
 |some i,.bool b=>i==(if b then 1 else 0)
 |_,_=>false
theorem dy{k:IA}{v:Value}(h:ny k v=true):(k=none/\v=.none)\/(∃i t,k=some i/\v=.int i t)\/∃b,k=some (if b then 1 else 0)/\v=.bool b:=by
 rcases k with _|i<;>cases v<;>(delta ny at h;simp at h)
 ·exact .inl ⟨rfl,rfl⟩
 ·subst h;exact .inr (.inr ⟨_,rfl,rfl⟩)
 ·subst h;exact .inr (.inl ⟨_,_,rfl,rfl⟩)
noncomputable def cH(prog:Program)(w:World):PySem.KeyKind prog w IA where
 is:=ny
 hash:=xP
 inj:=fun v a b ha hb=>by
  rcases dy ha with⟨rfl,rfl⟩|⟨i,t,rfl,rfl⟩|⟨c,rfl,rfl⟩<;>rcases dy hb with⟨rfl,e⟩|⟨j,u,rfl,e⟩|⟨d,rfl,e⟩<;>first|rfl| (cases e;rfl)|cases e
 byValue:=fun k v h=>by
  rcases dy h with⟨rfl,rfl⟩|⟨i,t,rfl,rfl⟩|⟨c,rfl,rfl⟩<;>rfl
 pyHash:=fun hv h=>by
  rcases dy hv with⟨rfl,rfl⟩|⟨i,t,rfl,rfl⟩|⟨c,rfl,rfl⟩
  ·exact qG h
  ·exact RM h
  ·exact qF h
 eqBool:=fun{A E s a b u v Q} hu hv h=>by
  rcases dy hu with⟨rfl,rfl⟩|⟨i,t,rfl,rfl⟩|⟨c,rfl,rfl⟩<;>rcases dy hv with⟨rfl,rfl⟩|⟨j,u,rfl,rfl⟩|⟨d,rfl,rfl⟩
  ·exact PY _ _ _ _ _ (by simpa using h)
  ·exact QT _ _ _ _ _ _ (by simpa using h)
  ·exact QC _ _ _ _ _ (by simpa using h)
  ·exact QV _ _ _ _ _ _ (by simpa using h)
  ·exact Rc _ _ _ _ _ _ _ _ (by simpa[Oa]using h)
  ·exact QW _ _ _ _ _ _ _ (by simpa[Oa]using h)
  ·exact QD _ _ _ _ _ (by simpa using h)
  ·exact QU _ _ _ _ _ _ _ (by simpa[Oa]using h)
  ·refine QE _ _ _ _ _ _ ?_
   cases c<;>cases d<;>simpa using h
 «strs»:=fun k x t v h=>by
  rcases dy h with⟨rfl,e⟩|⟨i,u,rfl,e⟩|⟨c,rfl,e⟩<;>cases e
noncomputable def lf:IK->Int
 | .inl a=>xP a
 | .inr as=>Sx (Lr (as.map xP))
noncomputable def w6(is:List IK):Int:=Sx (Lr (is.map lf))
noncomputable def mT:IK->Nat
 | .inl _=>1
 | .inr as=>as.length+1
section
variable(prog:Program)(w:World)
noncomputable def cO(h:Heap):IK->Value->Prop
 | .inl a,v=>ny a v=true
 | .inr as,v=>∃b,v=.ref b/\Sz (cH prog w) h as b
noncomputable def gj(h:Heap)(is:List IK)(a:Addr):Prop:=∃o items n,h.get? a=some o/\o.cls=.type "tuple"/\o.data=.seq items n/\Paired (cO prog w h) is items.toList
end
section
variable{prog:Program}{w:World}
theorem cO.inj{h:Heap}{x y:IK}{v:Value}(hx:cO prog w h x v)(hy:cO prog w h y v):x=y:=by
 cases x with
 |inl a=>cases y with
  |inl b=>rw[(cH prog w).inj v a b hx hy]
  |inr bs=>
   obtain⟨c,rfl,_⟩:=hy;rcases dy hx with⟨_,e⟩|⟨_,_,_,e⟩|⟨_,_,e⟩<;>cases e
 |inr as=>cases y with
  |inl b=>
   obtain⟨c,rfl,_⟩:=hx;rcases dy hy with⟨_,e⟩|⟨_,_,_,e⟩|⟨_,_,e⟩<;>cases e
  |inr bs=>
   obtain⟨c,rfl,h1⟩:=hx;obtain⟨d,e,h2⟩:=hy;cases e;rw[h1.inj h2]
theorem CK{h:Heap}{xs ys:List IK}{vs:List Value}(p:Paired (cO prog w h) xs vs):Paired (cO prog w h) ys vs->xs=ys:=by
 induction p generalizing ys with
 |nil=>intro q;cases q;rfl
 |cons a t ih=>intro q;cases q with
  |cons b u=>rw[a.inj b,ih u]
theorem gj.inj{h:Heap}{a:Addr}{x y:List IK}(hx:gj prog w h x a)(hy:gj prog w h y a):x=y:=by
 obtain⟨o,items,n,ho,_,hd,hi⟩:=hx;obtain⟨o',items',n',ho',_,hd',hi'⟩:=hy;obtain rfl:o=o':=JR (ho.symm.trans ho');rw[hd]at hd';injection hd' with h1 _
 subst h1;exact CK hi hi'
theorem cO.keeps{h h':Heap}{k:IK}{v:Value}{d:Addr}{o:Obj}{es ep}(x:cO prog w h k v)(ho:h.get? d=some o)(hd:o.data=.dict es ep)(hs:J0 d h h'):cO prog w h' k v:=by
 cases k with
 |inl a=>exact x
 |inr as=>obtain⟨b,e,q⟩:=x;exact⟨b,e,q.keeps ho hd hs⟩
theorem gj.keeps{h h':Heap}{ks:List IK}{a d:Addr}{o:Obj}{es ep}(x:gj prog w h ks a)(ho:h.get? d=some o)(hd:o.data=.dict es ep)(hs:J0 d h h'):gj prog w h' ks a:=by
 obtain⟨o',items,n,ho',hc,hd',hi⟩:=x;have hne:a≠d:=by
  rintro rfl;obtain rfl:o'=o:=JR (ho'.symm.trans ho);rw[hd]at hd';exact nomatch hd'
 exact⟨o',items,n,(hs.2 a hne).trans ho',hc,hd',Paired.mapP hi fun _ _ z=>z.keeps ho hd hs⟩
theorem gj.typeIs{s:Shared}{ks:List IK}{a:Addr}(x:gj prog w s.heap ks a):s.TypeIs (.ref a) "tuple":=let⟨o,_,_,ho,hc,_⟩:=x;⟨o,ho,hc⟩
theorem sk{h:Heap}{ks:List IA}{a:Addr}(x:Sz (cH prog w) h ks a):∃items,h.IsTuple a items:=let⟨o,items,n,h1,h2,h3,_⟩:=x;⟨items,o,h1,h2,n,h3⟩
variable{A:Around}{E:Value->Shared->Prop}{s:Shared}
theorem CL{k:IK}{v:Value}{Q:Int->Shared->Prop}(hu:A.units<cLine)(hk:cO prog w s.heap k v)(h:Q (lf k) { s with toks:=s.toks+mT k }):wpAny (model prog w) A (pyHash v) Q E s:=by
 cases k with
 |inl a=>exact(cH prog w).pyHash (k:=a) hk h
 |inr as=>
  obtain⟨b,rfl,q⟩:=hk;exact wpAny_pyHash_tuple (knd:=cH prog w) hu q h
theorem Es{a:IA}{v:Value}{b:Addr}{items:Array Value}{Q:Bool->Shared->Prop}(hu:A.units<cLine)(hk:ny a v=true)(ht:s.heap.IsTuple b items)(h:Q false s):wpAny (model prog w) A (Rg v (.ref b)) Q E s:=by
 rcases dy hk with⟨rfl,rfl⟩|⟨i,t,rfl,rfl⟩|⟨c,rfl,rfl⟩
 ·exact Ke.none_tuple ht hu _ _ _ _ h
 ·exact Ke.int_tuple _ _ ht hu _ _ _ _ h
 ·exact Ke.bool_tuple _ ht hu _ _ _ _ h
theorem Et{a:IA}{v:Value}{b:Addr}{items:Array Value}{Q:Bool->Shared->Prop}(hu:A.units<cLine)(hk:ny a v=true)(ht:s.heap.IsTuple b items)(h:Q false s):wpAny (model prog w) A (Rg (.ref b) v) Q E s:=by
 rcases dy hk with⟨rfl,rfl⟩|⟨i,t,rfl,rfl⟩|⟨c,rfl,rfl⟩
 ·exact Ke.tuple_none ht hu _ _ _ _ h
 ·exact Ke.tuple_int _ _ ht hu _ _ _ _ h
 ·exact Ke.tuple_bool _ ht hu _ _ _ _ h
theorem Gs{x y:IK}{u v:Value}{Q:Bool->Shared->Prop}(hu:A.units<cLine)(hx:cO prog w s.heap x u)(hy:cO prog w s.heap y v)(h:Q (decide (x=y)) s):wpAny (model prog w) A (Rg u v) Q E s:=by
 cases x with
 |inl a=>cases y with
  |inl b=>
   refine(cH prog w).eqBool (a:=a) (b:=b) hx hy ?_;rw[show decide (a=b)=decide ((Ml a:IK)=Ml b)from decide_eq_decide.mpr ⟨fun e=>by rw[e],fun e=>RD e⟩];exact h
  |inr bs=>
   obtain⟨c,rfl,q⟩:=hy;obtain⟨items,ht⟩:=sk q;refine Es hu hx ht ?_;rw[decide_eq_false (fun e=>nomatch e)]at h;exact h
 |inr as=>cases y with
  |inl b=>
   obtain⟨c,rfl,q⟩:=hx;obtain⟨items,ht⟩:=sk q;refine Et hu hy ht ?_;rw[decide_eq_false (fun e=>nomatch e)]at h;exact h
  |inr bs=>
   obtain⟨c,rfl,q⟩:=hx;obtain⟨d,rfl,q'⟩:=hy;refine wpAny_eqBool_tuple (knd:=cH prog w) hu q q' ?_;rw[show decide (as=bs)=decide ((LC as:IK)=LC bs)from decide_eq_decide.mpr ⟨fun e=>by rw[e],fun e=>Nr e⟩];exact h
noncomputable def xQ(ks:List IK):Nat:=(ks.map mT).sum+1
theorem CM{ks:List IK}{a:Addr}{Q:Int->Shared->Prop}(hu:A.units+1<cLine)(hk:gj prog w s.heap ks a)(h:Q (w6 ks) { s with toks:=s.toks+xQ ks }):
  wpAny (model prog w) A (pyHash (.ref a)) Q E s:=by
 have hT:=hk.typeIs;obtain⟨o,items,n,ho,_,hd,hi⟩:=hk;have hu0:A.units<cLine:=by omega
 unfold pyHash
 first|unfold pyHashByItsType|skip
 first|refine Jz (wpAny_cRoomFor_or (.inr hu0) ?_)|skip
 refine Jz (Lm hT NU.lookup ?_);show wpAny _ _ (if(some (QR "tuple.__hash__")==some K8)=true then _ else _) Q E s;rw[if_neg (by rw[PF];exact JQ)];refine Jz (Lm hT NU.lookup ?_);show wpAny _ _ (Nc (.ref a) "__hash__" _>>=_) Q E s;refine Jz (Mi hT NU (Ko NU hT F.entry_tuple_hash ?_ (F.args_tuple_hash_1 _)));show wpAny _ _ (O3 (.ref a)>>=_) _ _ s;refine Jz (OU ho hd ?_);refine Jz ?_;rw[<-M1];refine N8 _
  (fun cP (b:Array Int) s'=>∃done left,ks=done++left/\Paired (cO prog w s.heap) left cP/\b.toList=done.map lf/\s'={ s with toks:=s.toks+(done.map mT).sum })
  _ ?_ ?_ _ _ ⟨[],ks,rfl,hi,rfl,rfl⟩
 ·rintro x cP b s' ⟨done,left,rfl,hl,hb,rfl⟩
  cases hl with
  | @cons k _ ks' _ h1 hl'=>
   refine Jz (CL (k:=k) hu h1 ?_);have e:(done.map mT).sum+mT k=((done++[k]).map mT).sum:=by simp
   first
    |exact JC ⟨done++[k],ks',by simp,hl',by simp[hb],by rw[<-e];simp[O5]⟩
    |exact Jz (JC (JC ⟨done++[k],ks',by simp,hl',by simp[hb],by rw[<-e];simp[O5]⟩))
 ·rintro b s' ⟨done,left,rfl,hl,hb,rfl⟩
  cases hl;rw[LH]at h;show wpAny _ _ (retInt (Lr b.toList)) _ _ _;rw[hb];refine Oq ?_;show wpAny _ _ (if(decide (-(2:Int)^63<=Lr (done.map lf))&&decide (Lr (done.map lf)<2^63))=true then _ else _) Q E _;unfold w6 Sx xQ at h;by_cases hr:(decide (-(2:Int)^63<=Lr (done.map lf))&&decide (Lr (done.map lf)<2^63))=true
  ·rw[if_pos hr]
   rw[if_pos hr]at h;exact JC (by simpa[O5]using h)
  ·rw[if_neg hr]
   rw[if_neg hr]at h;exact Jz (Ma (JC (by simpa[O5]using h)))
theorem AV{x y:List IK}{a b:Addr}{P:Fin->Shared->Prop}(hu:A.units<cLine)(hx:gj prog w s.heap x a)(hy:gj prog w s.heap y b)(h:P (.done (.ret (.bool (decide (x=y))))) s):
  wpAny (model prog w) A (Builtin.«tuple.__eq__» ⟨[.ref a,.ref b],[]⟩) P E s:=by
 have hTb:=hy.typeIs;obtain⟨oa,xs,na,hoa,_,hda,hia⟩:=hx;obtain⟨ob,ys,nb,hob,_,hdb,hib⟩:=hy;show wpAny _ _ (SA (.ref b) (.type "tuple")>>=_) _ _ s;refine Jz (LQ hTb Ob ?_);simp only[Nq,KW,if_false];refine Jz (OU hoa hda ?_);refine Jz (OU hob hdb ?_);refine Jz ?_;refine N8 _
  (fun cP r s'=>r.1=none/\s'=s/\∃x' y' xs' ys',cP=List.zip xs' ys'/\Paired (cO prog w s.heap) x' xs'/\Paired (cO prog w s.heap) y' ys'/\decide (x'=y')=decide (x=y)/\(xs'.length==ys'.length)=(xs.size==ys.size))
  _ ?_ ?_ _ _ ⟨rfl,rfl,x,y,xs.toList,ys.toList,rfl,hia,hib,rfl,by simp⟩
 ·rintro⟨u,v⟩ cP r s' ⟨hr,rfl,x',y',xs',ys',hz,hx',hy',hdec,hlen⟩
  cases hx' with
  |nil=>simp at hz
  | @cons k1 u' x'' xs'' h1 hx''=>
   cases hy' with
   |nil=>simp at hz
   | @cons k2 v' y'' ys'' h2 hy''=>
    simp only[Ln,P0,Prod.mk.injEq]at hz;obtain⟨⟨rfl,rfl⟩,rfl⟩:=hz;refine Jz (Gs (x:=k1) (y:=k2) hu h1 h2 ?_);by_cases hk:k1=k2
    ·subst hk
     rw[decide_eq_true rfl];simp only[Nq,KW,if_false];refine JC ⟨rfl,rfl,x'',y'',xs'',ys'',rfl,hx'',hy'',?_,by simpa using hlen⟩;rw[<-hdec];by_cases hxy:x''=y''
     ·simp[hxy]
     ·simp[hxy]
    ·rw[decide_eq_false hk]
     simp only[Bool.not_false,if_true];have hf:decide (x=y)=false:=by rw[<-hdec];simp[hk]
     rw[hf]at h;exact Jz (JC (JC (JC h)))
 ·rintro⟨r1,r2⟩ s' ⟨hr,rfl,x',y',xs',ys',hz,hx',hy',hdec,hlen⟩
  simp only at hr;subst hr;refine JC ?_;have hfin:(xs.size==ys.size)=decide (x=y):=by
   rw[<-hdec,<-hlen];cases hx' with
   |nil=>
    cases hy' with
    |nil=>simp
    |cons _ _=>simp
   |cons _ _=>
    cases hy' with
    |nil=>simp
    |cons _ _=>simp at hz
  show P (.done (.ret (.bool (xs.size==ys.size)))) s';rw[hfin];exact h
theorem CN{x y:List IK}{a b:Addr}{Q:Bool->Shared->Prop}(hu:A.units+1<cLine)(hx:gj prog w s.heap x a)(hy:gj prog w s.heap y b)(h:Q (decide (x=y)) s):
  wpAny (model prog w) A (eqBool (.ref a) (.ref b)) Q E s:=by
 unfold eqBool
 try with_reducible refine K4 ?_
 show wpAny _ _ (if(J8 a==J8 b)=true then _ else _) Q E s;by_cases hab:(J8 a==J8 b)=true
 ·rw[if_pos hab]
  have e:a=b:=by have:=eq_of_beq hab;injection this
  subst e;obtain rfl:=hx.inj hy;exact Jz (Ma (JC (by simpa using h)))
 ·rw[if_neg hab]
  exact Jz (wpAny_richCompare_same_room (op:=.Eq) hx.typeIs hy.typeIs Os
   (Ko Os hx.typeIs F.entry_tuple_eq (AV hu hx hy ⟨_,rfl,(fun e=>nomatch e),LX h⟩) (F.args_tuple_eq_2 _ _)) (by omega))
theorem zl{n:Nat}{ks:List IA}{a:Addr}{Q:Bool->Shared->Prop}(hk:Sz (cH prog w) s.heap ks a)(h:Q true s):wpAny (model prog w) A (P3 (n+1) (.ref a)) Q E s:=by
 have hT:=hk.typeIs;obtain⟨o,items,_,ho,_,hd,hi⟩:=hk;unfold P3;refine Jz (Lm hT Os.lookup ?_);show wpAny _ _ (SA (.ref a) (.type "tuple")>>=_) _ _ s;refine Jz (LQ hT Ob ?_);simp only[Nq,KW,if_false];refine Jz (K2 ho hd ?_);refine Jz ?_;show wpAny _ _ (forIn items _ _) _ _ s;rw[<-M1];refine N8 _ (fun cP r s'=>r.1=none/\s'=s/\∀v∈cP,carriedByValue v=true) _ ?_ ?_ _ _ ⟨rfl,rfl,hi.byValue⟩
 ·rintro v cP r s' ⟨hr,rfl,hall⟩
  rw[Rr _ (hall v JI)];refine Jz (JC ?_);simp only[Nq,KW,if_false];exact JC ⟨rfl,rfl,fun u hu'=>hall u (JO _ hu')⟩
 ·rintro⟨r1,r2⟩ s' ⟨hr,rfl,_⟩
  simp only at hr;subst hr;exact JC h
theorem Eu{ks:List IK}{a:Addr}{Q:Bool->Shared->Prop}(hk:gj prog w s.heap ks a)(h:Q true s):wpAny (model prog w) A (P3 8 (.ref a)) Q E s:=by
 have hT:=hk.typeIs;obtain⟨o,items,n,ho,_,hd,hi⟩:=hk;unfold P3;refine Jz (Lm hT Os.lookup ?_);show wpAny _ _ (SA (.ref a) (.type "tuple")>>=_) _ _ s;refine Jz (LQ hT Ob ?_);simp only[Nq,KW,if_false];refine Jz (K2 ho hd ?_);refine Jz ?_;show wpAny _ _ (forIn items _ _) _ _ s;rw[<-M1];refine N8 _ (fun cP r s'=>r.1=none/\s'=s/\∃ks,Paired (cO prog w s.heap) ks cP) _ ?_ ?_ _ _ ⟨rfl,rfl,ks,hi⟩
 ·rintro v cP r s' ⟨hr,rfl,ks,hall⟩
  cases hall with
  | @cons k _ ks' _ h1 hl=>
   refine Jz ?_;have fin:wpAny (model prog w) A (P3 7 v) (fun b s2=>b=true/\s2=s') E s':=by
    cases k with
    |inl a'=>rw[Rr _ ((cH prog w).byValue _ _ h1)];exact JC ⟨rfl,rfl⟩
    |inr as=>obtain⟨b,rfl,q⟩:=h1;exact zl (n:=6) q ⟨rfl,rfl⟩
   refine Lj fin (fun b s2 ⟨e1,e2⟩=>?_) fun _ _ x=>x;subst e1 e2;simp only[Nq,KW,if_false];exact JC ⟨rfl,rfl,ks',hl⟩
 ·rintro⟨r1,r2⟩ s' ⟨hr,rfl,_⟩
  simp only at hr;subst hr;exact JC h
end
noncomputable def lg(prog:Program)(w:World):HeapKind prog w (List IK) where
 is:=gj prog w
 hash:=w6
 draws:=xQ
 room:=fun A=>A.units+1<cLine
 inj:=fun hx hy=>hx.inj hy
 keeps:=fun x ho hd hs=>x.keeps ho hd hs
 pyHash:=fun hu hk h=>CM hu hk h
 eqBool:=fun hu hx hy h=>CN hu hx hy h
 quiet:=fun hk h=>Eu hk h
noncomputable def DA(a:Addr)(kvs:List (IA×V))(h:Heap):Prop:=kvs.length<=JP/\(a==LF)=false/\∃(P:Program)(w:World)(vs:List (IA×Value)),KV kvs vs/\h.DictOf (cH P w) a vs
noncomputable def ZX:List (List IK×Addr×V)->List (List IK×Addr×Value)->Prop:=Paired fun z x=>z.1=x.1/\z.2.1=x.2.1/\aO z.2.2 x.2.2
noncomputable def DB(a:Addr)(zs:List (List IK×Addr×V))(h:Heap):Prop:=zs.length<=JP/\(a==LF)=false/\∃xs:List (List IK×Addr×Value),ZX zs xs/\
 ∃o es ep,h.get? a=some o/\o.ExactDict/\o.data=.dict es ep/\es.toList=xs.map (fun x=>⟨w6 x.1,.ref x.2.1,x.2.2⟩)/\(xs.map (·.1)).Nodup
noncomputable def dA(a:Addr)(kvs:List (IA×V)):HO:=.ext (DA a kvs)
noncomputable def dB(a:Addr)(zs:List (List IK×Addr×V)):HO:=.ext (DB a zs)
noncomputable def atZ(zs:List (List IK×Addr×V))(k:List IK):Option V:=(zs.find? fun p=>decide (p.1=k)).map (·.2.2)
noncomputable def Dx(H:Hp)(a:Addr)(s:Bool)(f:MK->Option V)(n:Nat):Prop:=
 (s=false/\∃kvs,H a=some (dA a kvs)/\(∀k,eX kvs k=f (.inl k))/\kvs.length<=n)\/
 (s=true/\∃zs,H a=some (dB a zs)/\(∀z∈zs,ck H (.ref z.2.1) (.inr z.1))/\(∀k,atZ zs k=f (.inr k))/\zs.length<=n)
section
variable{H H':Hp}{a b:Addr}{s:Bool}{f g:MK->Option V}{n m:Nat}
theorem Dx.ext(h:Dx H a s f n):∃φ,H a=some (.ext φ):=by
 rcases h with⟨_,kvs,e,_⟩|⟨_,zs,e,_⟩
 ·exact⟨_,e⟩
 ·exact⟨_,e⟩
theorem Dx.keep(h:Dx H a s f n)(e:H' a=H a)(kp:cS H H'):Dx H' a s f n:=by
 rcases h with⟨hs,kvs,h1,h2⟩|⟨hs,zs,h1,h2,h3⟩
 ·exact .inl ⟨hs,kvs,e.trans h1,h2⟩
 ·exact .inr ⟨hs,zs,e.trans h1,fun z hz=>(h2 z hz).keep kp,h3⟩
theorem Dx.same(h:Dx H a s f n)(q:am H H'):Dx H' a s f n:=by
 obtain⟨φ,h1⟩:=h.ext;exact h.keep ((q _ _ h1).trans h1.symm) q.keep
theorem Dx.ne_lst{xs:List V}(h:Dx H a s f n)(e:H b=some (.lst xs)):b≠a:=by
 obtain⟨φ,h1⟩:=h.ext;exact wY e h1 (fun z=>nomatch z)
theorem Dx.ne_tup{xs:List V}(h:Dx H a s f n)(e:H b=some (.tup xs)):b≠a:=by
 obtain⟨φ,h1⟩:=h.ext;exact wY e h1 (fun z=>nomatch z)
theorem Dx.le(h:Dx H a s f n)(e:n<=m):Dx H a s f m:=by
 rcases h with⟨hs,kvs,h1,h2,h3⟩|⟨hs,zs,h1,h2,h3,h4⟩
 ·exact .inl ⟨hs,kvs,h1,h2,Kc h3 e⟩
 ·exact .inr ⟨hs,zs,h1,h2,h3,Kc h4 e⟩
theorem Dx.congr(h:Dx H a s f n)(e:∀k,f k=g k):Dx H a s g n:=by
 rcases h with⟨hs,kvs,h1,h2,h3⟩|⟨hs,zs,h1,h2,h3,h4⟩
 ·exact .inl ⟨hs,kvs,h1,fun k=>(h2 k).trans (e _),h3⟩
 ·exact .inr ⟨hs,zs,h1,h2,fun k=>(h3 k).trans (e _),h4⟩
end
end
theorem Dx.off{H H':Hp}{a l:Addr}{s:Bool}{f:MK->Option V}{n:Nat}{xs:List V}(h:Dx H a s f n)(e:H l=some (.lst xs))(o:Off l H H'):Dx H' a s f n:=
 h.keep (o a (h.ne_lst e).symm) (o.keep e)
theorem Dx.offK{H H':Hp}{a:Addr}{s:Bool}{f:MK->Option V}{n:Nat}(h:Dx H a s f n)(o:Off a H H'):cS H H':=o.keepD fun xs e=>h.ne_tup e rfl
noncomputable def mU:TE:=fun _ H Q=>∃s,∀p H',H p=none->am H H'->Dx H' p s (fun _=>none) 0->Q (.ref p) H'
theorem pZ{σ:St}{H:Hp}{Q:VK}(s:Bool)(h:∀p H',H p=none->am H H'->Dx H' p s (fun _=>none) 0->Q (.ref p) H'):mU σ H Q:=⟨s,h⟩
noncomputable def rn(neg:Bool):R2:=fun y x H Q=>∃a s f n k,x=.ref a/\Dx H a s f n/\ck H y k/\eN k=s/\Q (.bl (if neg then(f k).isNone else(f k).isSome)) H
noncomputable def w9:R2:=fun x y H Q=>∃a s f n k v,x=.ref a/\Dx H a s f n/\ck H y k/\eN k=s/\f k=some v/\Q v H
noncomputable def gI(f:MK->Option V)(k:MK)(v:V):MK->Option V:=fun j=>if j=k then some v else f j
noncomputable def sn:xr:=fun o i v H R=>∃a s f n k,o=.ref a/\Dx H a s f n/\ck H i k/\eN k=s/\n<JP/\∀H',Off a H H'->Dx H' a s (gI f k v) (n+1)->R H'
noncomputable def xR:V->List V->Hp->VK->Prop:=fun x ys H Q=>∃a s f n k y v,x=.ref a/\ys=[y,v]/\Dx H a s f n/\ck H y k/\eN k=s/\n<JP/\(∀u,f k=some u->Q u H)/\
 (f k=none->∀H',Off a H H'->Dx H' a s (gI f k v) (n+1)->Q v H')
noncomputable def tXM(r:V->List V->Hp->VK->Prop)(to:TE)(t:TA):TE:=fun σ H Q=>to σ H fun x H1=>(∃a s f n,x=.ref a/\Dx H1 a s f n)/\t σ H1 fun ys H2=>r x ys H2 Q
section
variable{σ:St}{H:Hp}{Q:VK}{a:Addr}{s:Bool}{f:MK->Option V}{n:Nat}{k:MK}{y v:V}
theorem xS(d:Dx H a s f n)(hk:ck H y k)(hs:eN k=s)(h:Q (.bl (f k).isNone) H):rn true y (.ref a) H Q:=⟨a,s,f,n,k,rfl,d,hk,hs,h⟩
theorem CO(d:Dx H a s f n)(hk:ck H y k)(hs:eN k=s)(e:f k=some v)(h:Q v H):w9 (.ref a) y H Q:=⟨a,s,f,n,k,v,rfl,d,hk,hs,e,h⟩
theorem xT{R:Hp->Prop}(d:Dx H a s f n)(hk:ck H y k)(hs:eN k=s)(hn:n<JP)(h:∀H',Off a H H'->Dx H' a s (gI f k v) (n+1)->R H'):sn (.ref a) y v H R:=⟨a,s,f,n,k,rfl,d,hk,hs,hn,h⟩
theorem Gu(d:Dx H a s f n)(hk:ck H y k)(hs:eN k=s)(hn:n<JP)(h1:∀u,f k=some u->Q u H)(h2:f k=none->∀H',Off a H H'->Dx H' a s (gI f k v) (n+1)->Q v H'):xR (.ref a) [y,v] H Q:=⟨a,s,f,n,k,y,v,rfl,rfl,d,hk,hs,hn,h1,h2⟩
theorem Jv{r:V->List V->Hp->VK->Prop}{to:TE}{t:TA}(h:to σ H fun x H1=>(∃a s f n,x=.ref a/\Dx H1 a s f n)/\t σ H1 fun ys H2=>r x ys H2 Q):tXM r to t σ H Q:=h
end
section
variable{α:Type}[DecidableEq α]{ks:List α}{i:Nat}{k:α}
noncomputable def eP(ks:List α)(i:Nat):α->Option V:=fun k=>if k∈ks.take i then some (.int (ks.idxOf k:Nat))else none
theorem so(hk:ks[i]?=some k)(h:k∈ks.take i)(j:α):eP ks i j=eP ks (i+1) j:=by
 unfold eP;rw[bP hk];by_cases q:j∈ks.take i
 ·rw[if_pos q,if_pos (Li _ q)]
 ·rw[if_neg q,if_neg]
  intro z;rcases Ka.mp z with z|z
  ·exact q z
  ·rw[JE.mp z]at q;exact q h
theorem sr(hk:ks[i]?=some k)(h:k∉ks.take i)(j:α):(if j=k then some (V.int (i:Nat))else eP ks i j)=eP ks (i+1) j:=by
 unfold eP;rw[bP hk];by_cases q:j=k
 ·subst q
  rw[if_pos rfl,if_pos (by simp),vU hk h]
 ·rw[if_neg q]
  by_cases z:j∈ks.take i
  ·rw[if_pos z,if_pos (Li _ z)]
  ·rw[if_neg z,if_neg]
   intro w;rcases Ka.mp w with w|w
   ·exact z w
   ·exact q (JE.mp w)
theorem lQ(h:k∈ks.take i):eP ks i k=some (.int (ks.idxOf k:Nat)):=if_pos h
theorem qK(h:k∉ks.take i):eP ks i k=none:=if_neg h
theorem zm(hk:ks[i]?=some k):k∈ks.take (i+1):=by rw[bP hk];simp
theorem qL(k:α):none=eP ks 0 k:=(if_neg (by simp)).symm
theorem oW(hk:ks[i]?=some k):(bn ks).take (i+1)=(bn ks).take i++[ks.idxOf k]:=bP (by unfold bn;rw[JS,hk];rfl)
end
end L2
section
namespace KM
noncomputable def bd:Nat->Nat
 |0=>1
 |n+1=>bd n*(n+1)
noncomputable def choose:Nat->Nat->Nat
 |_,0=>1
 |0,_+1=>0
 |n+1,k+1=>choose n k+choose n (k+1)
theorem gY:∀n,0<bd n
 |0=>by decide
 |n+1=>RI (gY n) (Rh n)
theorem jB(n:Nat):choose n 0=1:=by cases n<;>rfl
theorem lR:∀(n k:Nat),n<k->choose n k=0
 |_,0,h=>absurd h (M4 _)
 |0,_+1,_=>rfl
 |n+1,k+1,h=>by rw[choose,lR n k (by omega),lR n (k+1) (by omega)]
theorem qM:∀n,choose n n=1
 |0=>rfl
 |n+1=>by rw[choose,qM n,lR n (n+1) (by omega)]
theorem gq:∀(n k:Nat),k<=n->choose n k*(bd k*bd (n-k))=bd n
 |n,0,_=>by rw[jB,bd,Nat.sub_zero,RJ,RJ]
 |0,_+1,h=>absurd h (by omega)
 |n+1,k+1,h=>by
  rw[choose,RK];by_cases hk:k=n
  ·subst hk
   rw[qM,lR k (k+1) (by omega),Ot];simp[bd]
  ·have hk':k+1<=n:=by omega
   have e1:=gq n k (by omega);have e2:=gq n (k+1) hk';have s1:n+1-(k+1)=n-k:=by omega
   have s2:n-k=(n-(k+1))+1:=by omega
   rw[s1];have a1:choose n k*(bd (k+1)*bd (n-k))=(k+1)*bd n:=by
    rw[<-e1,bd];simp only[LB,LP,Mm]
   have a2:choose n (k+1)*(bd (k+1)*bd (n-k))=(n-k)*bd n:=by
    have s3:bd (n-k)=bd (n-(k+1))*(n-k):=by
     rw[s2,bd,<-s2]
    rw[<-e2,s3];simp only[LB,LP,Mm]
   rw[a1,a2,<-RK,bd,LP]
   congr 1
   omega
theorem zn(n k:Nat)(h:k+1<=n):choose n k*(n-k)/(k+1)=choose n (k+1):=by
 have e1:=gq n k (by omega);have e2:=gq n (k+1) h;have s2:n-k=(n-(k+1))+1:=by omega
 have p:0<bd k*bd (n-(k+1)):=RI (gY _) (gY _);have q:choose n k*(n-k)=choose n (k+1)*(k+1):=by
  have:choose n k*(n-k)*(bd k*bd (n-(k+1)))=choose n (k+1)*(k+1)*(bd k*bd (n-(k+1))):=by
   have l:choose n k*(n-k)*(bd k*bd (n-(k+1)))=bd n:=by
    rw[<-e1,show bd (n-k)=bd (n-(k+1))*(n-k) by rw[s2,bd,<-s2]];simp only[LB,LP,Mm]
   have r:choose n (k+1)*(k+1)*(bd k*bd (n-(k+1)))=bd n:=by
    rw[<-e2,bd];simp only[LB,LP,Mm]
   rw[l,r]
  exact O6 p this
 rw[q,Nat.mul_div_cancel _ (Rh k)]
noncomputable def cC:Nat->List Nat->Nat
 |_,[]=>1
 |n,s::r=>choose n s*cC (n-s) r
theorem su:∀(ss:List Nat)(n:Nat),ss.sum<=n->cC n ss*((ss.map bd).foldr (· * ·) 1*bd (n-ss.sum))=bd n
 | [],n,_=>by simp[cC]
 |s::r,n,h=>by
  rw[J9]at h;have ih:=su r (n-s) (by omega);have c:=gq n s (by omega);rw[cC,JZ,List.foldr_cons,J9,<-c,<-ih,Nat.sub_sub];simp only[LB,LP,Mm]
end KM
end
section
namespace KM
noncomputable def p0(room:List Nat)(w:List Nat):List Nat:=(JT room.length).filter fun j=>decide (w.count j<room.getD j 0)
noncomputable def grow(room:List Nat)(ws:List (List Nat)):List (List Nat):=ws.flatMap fun w=>(p0 room w).map fun j=>w++[j]
noncomputable def cr(room:List Nat):Nat->List (List Nat)
 |0=>[[]]
 |i+1=>grow room (cr room i)
noncomputable def words:Nat->List Nat->Nat
 |0,_=>1
 |n+1,r=>(((JT r.length).filter fun j=>decide (0<r.getD j 0)).map fun j=>words n (r.set j (r.getD j 0-1))).sum
noncomputable def left(room w:List Nat):List Nat:=(JT room.length).map fun j=>room.getD j 0-w.count j
theorem lh(room w:List Nat):(left room w).length=room.length:=by unfold left;rw[JB,Kz]
theorem xU(room w:List Nat)(j:Nat)(h:j<room.length):(left room w).getD j 0=room.getD j 0-w.count j:=by
 unfold left;rw[JN,JS,K3 h];rfl
theorem CP(room w:List Nat)(j:Nat)(h:j<room.length):left room (w++[j])=(left room w).set j ((left room w).getD j 0-1):=by
 apply Lu;intro k;by_cases hk:k<room.length
 ·have e1:(left room (w++[j]))[k]?=some (room.getD k 0-(w++[j]).count k):=by
   unfold left;rw[JS,K3 hk];rfl
  rw[e1,MF,xU room w j h,lh];by_cases hjk:j=k
  ·subst hjk
   rw[if_pos rfl,if_pos h,Ph];simp;omega
  ·rw[if_neg hjk]
   unfold left;rw[JS,K3 hk,Ph];simp[SB,hjk]
 ·rw[J5 (by rw[lh];omega),J5 (by rw[LI,lh];omega)]
theorem AW(room w:List Nat):p0 room w=(JT (left room w).length).filter fun j=>decide (0<(left room w).getD j 0):=by
 unfold p0;rw[lh];apply List.filter_congr;intro j hj;rw[K1]at hj;rw[xU room w j hj];by_cases h:w.count j<room.getD j 0
 ·simp[h]
  omega
 ·simp[h]
  omega
noncomputable def p8(room:List Nat):Nat->List (List Nat)->List (List Nat)
 |0,ws=>ws
 |n+1,ws=>p8 room n (grow room ws)
theorem mz(room:List Nat):∀n i,p8 room n (cr room i)=cr room (i+n)
 |0,i=>rfl
 |n+1,i=>by
  rw[p8,show grow room (cr room i)=cr room (i+1)from rfl,mz room n (i+1)]
  congr 1
  omega
theorem lT(f:List Nat->Nat)(room:List Nat):∀ws:List (List Nat),((grow room ws).map f).sum=(ws.map fun w=>((p0 room w).map fun j=>f (w++[j])).sum).sum
 | []=>rfl
 |w::r=>by
  have ih:=lT f room r;unfold grow at ih ⊢;rw[Pi,JY,Ll,ih,JZ,J9,Mv];rfl
theorem oX(room:List Nat):∀(n:Nat)(ws:List (List Nat)),(p8 room n ws).length=(ws.map fun w=>words n (left room w)).sum
 |0,ws=>by
  rw[p8]
  induction ws with
  |nil=>rfl
  |cons w r ih=>rw[Kd,ih,JZ,J9,words];omega
 |n+1,ws=>by
  rw[p8,oX room n,lT]
  congr 1
  apply L7;intro w _;rw[words,AW]
  congr 1
  apply L7;intro j hj;have hj':=L5.mp hj;rw[K1,lh]at hj';rw[CP room w j hj'.1]
noncomputable def cI(r:List Nat):Nat:=(r.map bd).foldr (· * ·) 1
theorem fP(a:Nat)(r:List Nat):cI (a::r)=bd a*cI r:=rfl
theorem vW:∀r,0<cI r
 | []=>by decide
 |a::r=>RI (gY a) (vW r)
theorem vX:∀(r:List Nat)(j:Nat),j<r.length->0<r.getD j 0->cI r=cI (r.set j (r.getD j 0-1))*r.getD j 0
 | [],j,h,_=>absurd h (by simp)
 |a::r,0,_,h=>by
  have h':0<a:=h;show cI (a::r)=cI ((a-1)::r)*a;rw[fP,fP];obtain⟨b,rfl⟩:∃b,a=b+1:=⟨a-1,by omega⟩;rw[show b+1-1=b by omega,bd];simp only[LB,LP,Mm]
 |a::r,j+1,h,hp=>by
  have ih:=vX r j (by simpa using h) hp;show cI (a::r)=cI (a::r.set j (r.getD j 0-1))*r.getD j 0;rw[fP,fP,ih];simp only[LB,LP,Mm]
theorem uX:∀(r:List Nat)(j:Nat),j<r.length->0<r.getD j 0->(r.set j (r.getD j 0-1)).sum+1=r.sum
 | [],j,h,_=>absurd h (by simp)
 |a::r,0,_,h=>by
  have h':0<a:=h;show((a-1)::r).sum+1=(a::r).sum;rw[J9,J9];omega
 |a::r,j+1,h,hp=>by
  have ih:=uX r j (by simpa using h) hp;show(a::r.set j (r.getD j 0-1)).sum+1=(a::r).sum;rw[J9,J9];omega
theorem uY(c:Nat)(f:Nat->Nat):∀l:List Nat,(l.map f).sum*c=(l.map fun j=>f j*c).sum
 | []=>by simp
 |a::r=>by rw[JZ,J9,RK,uY c f r,JZ,J9]
theorem xV(r:List Nat):(((JT r.length).filter fun j=>decide (0<r.getD j 0)).map fun j=>r.getD j 0).sum=r.sum:=by
 have go:∀(l:List Nat)(g:Nat->Nat),((l.filter fun j=>decide (0<g j)).map g).sum=(l.map g).sum:=by
  intro l g
  induction l with
  |nil=>rfl
  |cons a t ih=>
   rw[LU];by_cases h:0<g a
   ·rw[if_pos (by simpa using h),JZ,J9,ih,JZ,J9]
   ·rw[if_neg (by simpa using h),ih,JZ,J9]
    omega
 rw[go]
 congr 1
 apply Lu;intro k;rw[JS];by_cases hk:k<r.length
 ·rw[K3 hk,JD hk]
  show some (r.getD k 0)=some r[k];rw[JN,JD hk];rfl
 ·rw[J5 (by simpa using hk),J5 (by simpa using hk)]
  rfl
theorem nA:∀(n:Nat)(r:List Nat),r.sum=n->words n r*cI r=bd n
 |0,r,h=>by
  have:cI r=1:=by
   induction r with
   |nil=>rfl
   |cons a t ih=>
    rw[J9]at h;have ha:a=0:=by omega
    subst ha;rw[fP,ih (by omega)];rfl
  rw[words,this];rfl
 |n+1,r,h=>by
  rw[words,uY];have e:((JT r.length).filter fun j=>decide (0<r.getD j 0)).map (fun j=>words n (r.set j (r.getD j 0-1))*cI r)=((JT r.length).filter fun j=>decide (0<r.getD j 0)).map (fun j=>r.getD j 0*bd n):=by
   apply L7;intro j hj;have hj':=L5.mp hj;rw[K1]at hj';have hp:0<r.getD j 0:=of_decide_eq_true hj'.2;rw[vX r j hj'.1 hp,<-LB,nA n _ (by have:=uX r j hj'.1 hp;omega),LP]
  rw[e,<-uY,xV,h,bd,LP]
theorem Ev(room:List Nat):left room []=room:=by
 apply Lu;intro k;unfold left;rw[JS];by_cases hk:k<room.length
 ·rw[K3 hk,JD hk]
  show some (room.getD k 0-([]:List Nat).count k)=some room[k];rw[JN,JD hk];simp
 ·rw[J5 (by simpa using hk),J5 (by simpa using hk)]
  rfl
theorem CQ(room:List Nat):(cr room room.sum).length*cI room=bd room.sum:=by
 have e:=mz room room.sum 0;rw[Nat.zero_add]at e;rw[<-e,oX];show(List.map (fun w=>words room.sum (left room w)) [[]]).sum*cI room=bd room.sum;rw[JZ,Ni,J9,Nk,Ev,Nat.add_zero];exact nA _ _ rfl
structure FL(room:List Nat)(i:Nat)(w:List Nat):Prop where
 len:w.length=i
 all:∀j∈w,j<room.length
 cnt:∀j,j<room.length->w.count j<=room.getD j 0
theorem gr(room:List Nat):∀i,∀w∈cr room i,FL room i w
 |0,w,h=>by
  have:w=[]:=by simpa[cr]using h
  subst this;exact⟨rfl,fun _ h=>(nomatch h),fun j _=>by simp⟩
 |i+1,w,h=>by
  rw[cr,grow,R3]at h;obtain⟨v,hv,h⟩:=h;obtain⟨j,hj,rfl⟩:=KR.mp h;have b:=gr room i v hv;have hj':=L5.mp hj;rw[K1]at hj';have hc:v.count j<room.getD j 0:=of_decide_eq_true hj'.2;refine⟨by rw[JX,b.len];rfl,fun k hk=>?_,fun k hk=>?_⟩
  ·rcases Ka.mp hk with hk|hk
   ·exact b.all k hk
   ·rw[JE]at hk
    omega
  ·rw[Ph]
   by_cases e:j=k
   ·subst e
    rw[List.count_singleton_self];omega
   ·have:=b.cnt k hk
    rw[List.count_singleton,if_neg (by simpa using e)];omega
theorem sx:∀(n:Nat)(w:List Nat),(∀j∈w,j<n)->((JT n).map fun j=>w.count j).sum=w.length
 |n,[], _=>by
  have:((JT n).map fun j=>([]:List Nat).count j)=(JT n).map fun _=>0:=by simp
  rw[this];have go:∀m,((JT m).map fun _=>0).sum=0:=by
   intro m
   induction m with
   |zero=>rfl
   |succ m ih=>rw[LJ,JY,Ll,ih];rfl
  exact go n
 |n,a::w,h=>by
  have ih:=sx n w fun j hj=>h j (JO _ hj);have ha:a<n:=h a JI;rw[Kd,<-ih];clear ih h;have go:∀m,((JT m).map fun j=>(a::w).count j).sum=((JT m).map fun j=>w.count j).sum+(if a<m then 1 else 0):=by
   intro m
   induction m with
   |zero=>simp
   |succ m ih=>
    rw[LJ,JY,Ll,JY,Ll,ih];simp only[JZ,Ni,J9,Nk,SB];by_cases e:a=m
    ·subst e
     rw[if_neg (Lv a),if_pos (Lp a),if_pos (beq_self_eq_true a)];omega
    ·rw[if_neg (show¬(a==m)=true by simpa using e)]
     by_cases hl:a<m
     ·rw[if_pos hl,if_pos (show a<m+1 by omega)]
      omega
     ·rw[if_neg hl,if_neg (show¬a<m+1 by omega)]
      omega
  rw[go,if_pos ha]
theorem nB(room:List Nat):(JT room.length).map (fun j=>room.getD j 0)=room:=by
 apply Lu;intro k;rw[JS];by_cases hk:k<room.length
 ·rw[K3 hk,JD hk]
  show some (room.getD k 0)=some room[k];rw[JN,JD hk];rfl
 ·rw[J5 (by simpa using hk),J5 (by simpa using hk)]
  rfl
end KM
end
section
namespace KM
theorem CS(n k:Nat):choose n k<=2^n:=by
 induction n generalizing k with
 |zero=>cases k<;>simp[choose]
 |succ n ih=>
  cases k with
  |zero=>rw[jB];exact Nat.one_le_two_pow
  |succ k=>
   rw[choose,Nat.pow_succ];have:=ih k;have:=ih (k+1);omega
theorem xW{n i:Nat}(h:i+1<=n):((choose n i:Nat):Int)*((n:Int)-(0+(i:Int)))/(0+(i:Int)+1)=((choose n (i+1):Nat):Int):=by
 have e1:(n:Int)-(0+(i:Int))=((n-i:Nat):Int):=by omega
 have e2:(0+(i:Int)+1)=((i+1:Nat):Int):=by omega
 rw[e1,e2,<-P4,<-R5,zn n i h]
theorem qN(n:Nat)(ss:List Nat)(h:ss.sum<=n):cC n ss*cI (ss++[n-ss.sum])=bd n:=by
 have e:cI (ss++[n-ss.sum])=(ss.map bd).foldr (· * ·) 1*bd (n-ss.sum):=by
  generalize n-ss.sum=k
  induction ss with
  |nil=>simp[cI]
  |cons a r ih=>
   have hr:r.sum<=n:=by rw[J9]at h;omega
   show bd a*cI (r++[k])=bd a*(r.map bd).foldr (· * ·) 1*bd k;rw[ih hr,LB]
 rw[e];exact su ss n h
theorem mB{n:Nat}{ss:List Nat}(h:ss.sum<=n):(cr (ss++[n-ss.sum]) n).length=cC n ss:=by
 have e1:=qN n ss h;have hs:(ss++[n-ss.sum]).sum=n:=by
  rw[Ll,J9,Nk];omega
 have e2:=CQ (ss++[n-ss.sum]);rw[hs]at e2;exact O6 (vW _) (e2.trans e1.symm)
theorem words_pos(n:Nat)(r:List Nat)(h:r.sum=n):0<words n r:=by
 have e:=nA n r h;have f:=gY n;rcases NC (words n r)with z|z
 ·rw[z,Nat.zero_mul]at e
  omega
 ·exact z
theorem Ew{room w:List Nat}{i:Nat}(h:FL room i w):(left room w).sum+i=room.sum:=by
 have go:∀m,m<=room.length->((JT m).map fun j=>room.getD j 0-w.count j).sum+((JT m).map fun j=>w.count j).sum=((JT m).map fun j=>room.getD j 0).sum:=by
  intro m
  induction m with
  |zero=>intro _;rfl
  |succ m ih=>
   intro hm;have:=ih (by omega);have:=h.cnt m (by omega);simp only[LJ,JY,Ll,JZ,Ni,J9,Nk]at *;omega
 have e:=go room.length (JF _);rw[sx room.length w h.all,nB,h.len]at e;exact e
theorem Ex{room:List Nat}{i:Nat}(h:i<=room.sum):(cr room i).length<=(cr room room.sum).length:=by
 have e:=mz room (room.sum-i) i;rw[show i+(room.sum-i)=room.sum by omega]at e;rw[<-e,oX];have hb:=gr room i;generalize cr room i=ws at hb
 induction ws with
 |nil=>exact Ks _
 |cons w r ih=>
  rw[JZ,J9,Kd];have:=ih fun v hv=>hb v (JO _ hv);have:=words_pos (room.sum-i) (left room w) (by have:=Ew (hb w JI);omega);omega
theorem Ih:∀(rs:List Nat)(m:Nat),rs.foldl (fun f s=>f/bd s) (m*cI rs)=m
 | [],m=>by simp[cI]
 |a::r,m=>by
  rw[Sm,fP];have e:m*(bd a*cI r)/bd a=m*cI r:=by
   rw[<-LB,LP m,LB,Nat.mul_div_cancel_left _ (gY a)]
  rw[e];exact Ih r m
noncomputable def eh(room w:List Nat)(k:Nat):List Nat:=(JT k).filter fun j=>decide (w.count j<room.getD j 0)
theorem qO(room w:List Nat):eh room w room.length=p0 room w:=rfl
theorem xX(room w:List Nat)(k:Nat):eh room w (k+1)=eh room w k++(if w.count k<room.getD k 0 then[k]else[]):=by
 unfold eh;rw[LJ,ND];by_cases h:w.count k<room.getD k 0
 ·rw[if_pos h,KQ (by simpa using h)]
  rfl
 ·rw[if_neg h,K6 (by simpa using h)]
  rfl
theorem CT(room:List Nat)(ws:List (List Nat))(i:Nat)(w:List Nat)(h:ws[i]?=some w):grow room (ws.take (i+1))=grow room (ws.take i)++(p0 room w).map fun j=>w++[j]:=by
 unfold grow;rw[Ls,h,OA];simp
theorem xY(room:List Nat)(ws:List (List Nat))(i:Nat):(grow room (ws.take i)).length<=(grow room ws).length:=by
 have:grow room ws=grow room (ws.take i)++grow room (ws.drop i):=by
  unfold grow;rw[<-OA,Nj]
 rw[this,JX];omega
end KM
end
namespace L2
open PySem PyProof.Rows
section
variable{K:Fg}{vs:List V}{H:Hp}{Q:VK}{E:XK}
noncomputable def CU:V->Bool
 | .int _=>true
 |_=>false
noncomputable def cA:V->Int->Int->Bool
 | .int i,lo,hi=>decide (lo<=i)&&decide (i<=hi)
 |_,_,_=>false
noncomputable def d4(K:Fg)(H:Hp)(x:V):Prop:=∃t b1 b2,eI K H x t/\Ku K t (.type "int")=some b1/\Ku K t (.type "bool")=some b2/\(b1&& !b2)=CU x
theorem d4.int{K:Fg}{H:Hp}(i:Int):d4 K H (.int i):=⟨_,_,_,.int i,zi K,xE K,rfl⟩
theorem CV{K:Fg}{H H':Hp}{x:V}{t:Value}(h:eI K H x t)(s:am H H'):eI K H' x t:=by
 cases h with
 |non=>exact .non
 |bl b=>exact .bl b
 |int i=>exact .int i
 |str x=>exact .str x
 |flt x=>exact .flt x
 |lst e=>exact .lst (s _ _ e)
 |frz e=>exact .frz (s _ _ e)
 |tup e=>exact .tup (s _ _ e)
 |dK e=>exact .dK (s _ _ e)
 |dT e=>exact .dT (s _ _ e)
 |ins e cl ha hn htk hm=>exact .ins (s _ _ e) cl ha hn htk hm
theorem d4.same{K:Fg}{H H':Hp}{x:V}(h:d4 K H x)(s:am H H'):d4 K H' x:=by
 obtain⟨t,b1,b2,ty,r⟩:=h;exact⟨t,b1,b2,CV ty s,r⟩
noncomputable def Gv(K:Fg):Sp:=fun vs H Q _=>∃x,vs=[x]/\d4 K H x/\Q (.bl (CU x)) H
noncomputable abbrev gu(K:Fg):Sp:=Gv K
noncomputable def sF(K:Fg):TS:=(aI (fM (tCB (iu K) (ab (aa 0) (ab (tC (.ty "int")) af))) (rR (tCB (iu K) (ab (aa 0) (ab (tC (.ty "bool")) af))))))
theorem zo(h:gu K vs H Q E):sF K { nx:=fun _ H'=>Q .non H',rt:=Q } (start ["thing"] vs) H:=by
 obtain⟨x,rfl,⟨t,b1,b2,ty,k1,k2,e⟩,q⟩:=h;refine⟨_,rfl,_,_,_,_,rfl,ty,k1,_,rfl,iz (fun c=>?_) (fun c=>?_)⟩
 ·subst c
  refine⟨_,rfl,_,_,_,_,rfl,ty,k2,_,rfl,?_⟩;rw[<-e,N2]at q;exact q
 ·subst c
  rw[<-e,OB]at q;exact q
noncomputable def Ey(K:Fg):Sp:=fun vs H Q _=>∃x lo hi,vs=[x,.int lo,.int hi]/\d4 K H x/\Q (.bl (cA x lo hi)) H
noncomputable abbrev dz(K:Fg):Sp:=Ey K
noncomputable def qP(K:Fg):TS:=(aI (fM (ap (gu K) [] E0 (ab (aa 0) af)) (Ci (rI0 fun i j=>.bl (decide (i<=j))) (rI0 fun i j=>.bl (decide (i<=j))) (aa 1) (aa 0) (aa 2))))
theorem xZ(h:dz K vs H Q E):qP K { nx:=fun _ H'=>Q .non H',rt:=Q } (start ["thing","least","most"] vs) H:=by
 obtain⟨x,lo,hi,rfl,pl,q⟩:=h;refine⟨_,rfl,x,rfl,pl,_,rfl,iz (fun c=>?_) (fun c=>?_)⟩
 ·cases x with
  |int i=>
   refine⟨_,rfl,_,rfl,_,_,rfl,rfl,_,rfl,iz (fun d=>?_) (fun d=>?_)⟩
   ·refine⟨_,rfl,_,_,rfl,rfl,?_⟩
    have q':Q (.bl (decide (lo<=i)&&decide (i<=hi))) H:=q;rw[d,N2]at q';exact q'
   ·have q':Q (.bl (decide (lo<=i)&&decide (i<=hi))) H:=q
    rw[d,OB]at q';exact q'
  |_=>cases c
 ·cases x with
  |int i=>cases c
  |_=>exact q
noncomputable def mC(zs:List V):Int:=(zs.map fun z=>match z with | .int i=>i|_=>0).sum
noncomputable def FM(x:V)(zs:List V):Bool:=match x with
 | .int c=>(decide (0<=c)&&decide (c<=12))&&(decide (1<=zs.length)&&decide (zs.length<=5))&&zs.all (fun z=>cA z 0 c)&&decide (mC zs<=c)
 |_=>false
theorem uZ{zs:List V}{lo hi:Int}(h:zs.all (fun z=>cA z lo hi)=true):∃ns:List Int,zs=ns.map V.int/\mC zs=ns.sum:=by
 induction zs with
 |nil=>exact⟨[],rfl,rfl⟩
 |cons z r ih=>
  rw[MX,K5]at h;obtain⟨ns,e,es⟩:=ih h.2;cases z with
  |int i=>
   refine⟨i::ns,by rw[e];rfl,?_⟩;show i+mC r=(i::ns).sum;rw[es,J9]
  |_=>exact absurd h.1 JQ
noncomputable def FN(K:Fg)(H:Hp)(y:V)(zs:Option (List V)):Prop:=match zs with
 |some zs=>∃a,y=.ref a/\(H a=some (.lst zs)\/∃o,H a=some (.frz o (.lst zs)))/\zs.length<=1000/\∀z∈zs,d4 K H z
 |none=>∃t,eI K H y t/\Ku K t (.type "list")=some false
noncomputable def sJ(x:V):Option (List V)->Bool
 |some zs=>FM x zs
 |none=>false
noncomputable def Ii(K:Fg):Sp:=fun vs H Q _=>∃x y zs,vs=[x,y]/\d4 K H x/\FN K H y zs/\∀H',am H H'->Q (.bl (sJ x zs)) H'
noncomputable abbrev nC(K:Fg):Sp:=Ii K
noncomputable def vY(K:Fg):TS:=(ao (br (dH (tB (ap (dz K) [] E0 (ab (aa 0) (ab (tC (.int 0)) (ab (tC (.int 12)) af)))))) (aI (tC (.bl false))) ba)
 (ao (br (tOr (dH (tB (tCB (iu K) (ab (aa 1) (ab (tC (.ty "list")) af))))) (dH (tB (ap (dz K) [] E0 (ab (tCB (bY K) (ab (aa 1) af)) (ab (tC (.int 1)) (ab (tC (.int 5)) af))))))) (aI (tC (.bl false))) ba)
 (aI (fM (tCB (AO K) (ab (bo (ca K (aa 1)) (fun _ _ _ _=>(ag 0)) (fun _ _ _ _=>aS) (fun _ _ _ _=>(ap (dz K) [] E0 (ab (aa 0) (ab (tC (.int 0)) (ab (aa 1) af))))) [none,some 0]) af)) (tOp (rI0 fun i j=>.bl (decide (i<=j))) (tCB (rj K) (ab (aa 1) af)) (aa 0))))))
theorem AX(h:nC K vs H Q E):vY K { nx:=fun _ H'=>Q .non H',rt:=Q } (start ["cards","sizes"] vs) H:=by
 obtain⟨x,y,zs,rfl,px,hz,q⟩:=h;refine⟨_,rfl,x,0,12,rfl,px,_,rfl,iz (fun c=>?_) (fun c=>?_)⟩
 ·
  have e:sJ x zs=false:=by
   have c':cA x 0 12=false:=by simpa using c
   cases zs with
   |none=>rfl
   |some zs=>
    cases x with
    |int i=>
     show((decide (0<=i)&&decide (i<=12))&&(decide (1<=zs.length)&&decide (zs.length<=5))&&zs.all (fun z=>cA z 0 i)&&decide (mC zs<=i))=false;rw[show(decide (0<=i)&&decide (i<=12))=false from c'];rfl
    |_=>rfl
  have:=q H (am.refl H);rw[e]at this;exact this
 ·have c':cA x 0 12=true:=by simpa using c
  cases x with
  |int i=>
   cases zs with
   |none=>
    obtain⟨t,ty,k⟩:=hz;refine⟨_,rfl,_,_,_,_,rfl,ty,k,_,rfl,ki (ki ?_)⟩;exact q H (am.refl H)
   |some zs=>
    obtain⟨a,rfl,ha,hlen,hp⟩:=hz;have hS:SqL K H a zs:=ha.elim (fun h=>.inl (.inl h)) (fun h=>.inl (.inr h));have ty:eI K H (.ref a) (.type "list"):=ha.elim (fun h=>.lst h) (fun⟨o,h⟩=>.frz h);refine⟨_,rfl,_,_,_,_,rfl,ty,jA K,_,rfl,kh ?_⟩;refine⟨_,rfl,a,_,rfl,.inl hS,_,1,5,rfl,d4.int _,_,rfl,iz (fun d=>?_) (fun d=>?_)⟩
    ·have e:sJ (.int i) (some zs)=false:=by
      have d0:cA (.int (zs.length:Int)) 1 5=false:=by simpa using d
      have d':(decide ((1:Int)<=(zs.length:Int))&&decide ((zs.length:Int)<=5))=false:=d0;show((decide (0<=i)&&decide (i<=12))&&(decide (1<=zs.length)&&decide (zs.length<=5))&&zs.all (fun z=>cA z 0 i)&&decide (mC zs<=i))=false;have e1:decide (1<=zs.length)=decide ((1:Int)<=(zs.length:Int)):=decide_eq_decide.mpr (by omega);have e2:decide (zs.length<=5)=decide ((zs.length:Int)<=5):=decide_eq_decide.mpr (by omega);rw[e1,e2,d',OD];rfl
     have:=q H (am.refl H);rw[e]at this;exact this
    ·have d0:cA (.int (zs.length:Int)) 1 5=true:=by simpa using d
     have d':(decide ((1:Int)<=(zs.length:Int))&&decide ((zs.length:Int)<=5))=true:=d0;have e0:sJ (.int i) (some zs)=(zs.all (fun z=>cA z 0 i)&&decide (mC zs<=i)):=by
      show((decide (0<=i)&&decide (i<=12))&&(decide (1<=zs.length)&&decide (zs.length<=5))&&zs.all (fun z=>cA z 0 i)&&decide (mC zs<=i))=_;have e1:decide (1<=zs.length)=decide ((1:Int)<=(zs.length:Int)):=decide_eq_decide.mpr (by omega);have e2:decide (zs.length<=5)=decide ((zs.length:Int)<=5):=decide_eq_decide.mpr (by omega);rw[e1,e2,d',show(decide (0<=i)&&decide (i<=12))=true from c',N2,N2]
     rw[e0]at q;refine⟨_,rfl,a,rfl,⟨_,hS⟩,fun p hp'=>oR (K:=K) (a:=a) (xs:=zs) (fun k acc H2=>acc=((zs.take k).map fun z=>cA z 0 i).map V.bl/\am H H2/\H2 p=some (.lst acc)) ⟨rfl,bc hp' _,az⟩ ?_ ?_ (small hlen) ?_ ?_⟩
     ·rintro k acc H2 hk ⟨rfl,s2,e2⟩
      exact⟨e2,by rw[JB,JB,Ly];omega⟩
     ·rintro k acc H2 hk ⟨rfl,s2,e2⟩
      exact s2.seq hS
     ·rintro _ _ _ _ k z acc H2 hzk ⟨rfl,s2,e2⟩
      refine⟨_,rfl,_,rfl,z,0,i,rfl,(hp z (JK hzk)).same s2,e2,?_,s2.upd hp' _,az⟩;rw[Ls,hzk,JY,JY];rfl
     ·rintro acc H2 ⟨rfl,s2,e2⟩
      rw[Ki]at e2;refine⟨p,_,rfl,SqL.of e2,_,rfl,?_⟩;have ea:(zs.map fun z=>cA z 0 i).all id=zs.all fun z=>cA z 0 i:=by
       rw[Om];rfl
      rw[ea];refine iz (fun g=>?_) (fun g=>?_)
      ·obtain⟨ns,en,es⟩:=uZ g
       rw[g,N2,es]at q;refine⟨_,rfl,a,ns,rfl,by rw[<-en];exact s2.seq hS,_,rfl,_,_,rfl,rfl,?_⟩;exact q H2 s2
      ·rw[g,OB]at q
       exact q H2 s2
  |_=>exact absurd c' JQ
noncomputable def CW:Sp:=fun vs H Q _=>∃n k:Nat,vs=[.int n,.int k]/\k<=n/\n<=50/\Q (.int (KM.choose n k:Nat)) H
noncomputable abbrev nD(K:Fg):Sp:=CW
noncomputable def vZ(K:Fg):TS:=(ao (aA (tC (.int 1)) (ag 2))
 (ao (cQ (cZ (ab (aa 1) af)) (ag 3) (aA (tOp (rI dI fun i j=>.int (i/j)) (tOp (rI Mp fun i j=>.int (i*j)) (aa 2) (tOp (rI0 fun i j=>.int (i-j)) (aa 0) (aa 3))) (tOp (rI0 fun i j=>.int (i+j)) (aa 3) (tC (.int 1)))) (ag 2)))
 (aI (aa 2))))
theorem AY(h:nD K vs H Q E):vZ K { nx:=fun _ H'=>Q .non H',rt:=Q } (start ["many","taken","ways","step"] vs) H:=by
 obtain⟨n,k,rfl,hk,hn,q⟩:=h;refine⟨_,rfl,_,rfl,by omega,by omega,oK (lo:=0) (n:=((k:Nat):Int).toNat) (fun i σ H2=>∃st,σ=[some (.int n),some (.int k),some (.int (KM.choose n i:Nat)),st]/\H2=H) ⟨none,by rw[KM.jB];rfl,rfl⟩ ?_ ?_⟩
 ·rintro i σ H2 hi ⟨st,rfl,rfl⟩
  have hi':i+1<=n:=by omega
  refine⟨_,rfl,_,rfl,_,rfl,_,_,rfl,rfl,_,_,rfl,rfl,.of_right (O0 (by omega) (by omega)),_,rfl,_,_,rfl,rfl,_,_,rfl,rfl,⟨by omega,by omega⟩,?_⟩;dsimp only;rw[KM.xW hi'];exact⟨_,rfl,rfl⟩
 ·rintro σ H2 ⟨st,rfl,rfl⟩
  refine⟨_,rfl,?_⟩;rw[show((k:Nat):Int).toNat=k by omega];exact q
structure oY(c:Nat)(ss:List Nat):Prop where
 c12:c<=12
 l1:1<=ss.length
 l5:ss.length<=5
 sum:ss.sum<=c
noncomputable def ar(ss:List Nat):List V:=ss.map fun(s:Nat)=>V.int ((s:Nat):Int)
theorem cB(ss:List Nat):ar ss=(ss.map fun(s:Nat)=>((s:Nat):Int)).map V.int:=by unfold ar;rw[Mv];rfl
theorem be(ss:List Nat):(ar ss).length=ss.length:=JB _
theorem gZ:∀ss:List Nat,(ss.map fun(s:Nat)=>((s:Nat):Int)).sum=((ss.sum:Nat):Int)
 | []=>rfl
 |a::r=>by rw[JZ,J9,J9,gZ r];omega
theorem iD:∀{ss:List Nat} {s:Nat},s∈ss->s<=ss.sum
 |a::r,s,h=>by
  rw[J9];rcases JH.mp h with rfl|h
  ·omega
  ·have:=iD h
   omega
theorem Ez{c:Nat}{ss:List Nat}(p:oY c ss):FM (.int c) (ar ss)=true:=by
 have h1:=p.c12;have h2:=p.l1;have h3:=p.l5;have h4:=p.sum;show((decide ((0:Int)<=(c:Int))&&decide ((c:Int)<=12))&&(decide (1<=(ar ss).length)&&decide ((ar ss).length<=5))&&(ar ss).all (fun z=>cA z 0 c)&&decide (mC (ar ss)<=c))=true;have e1:(ar ss).all (fun z=>cA z 0 c)=true:=by
  unfold ar;rw[Om,N6];intro s hs;have:=iD hs;show(decide ((0:Int)<=(s:Int))&&decide ((s:Int)<=(c:Int)))=true;rw[decide_eq_true (by omega),decide_eq_true (by omega)];rfl
 have e2:mC (ar ss)=((ss.sum:Nat):Int):=by
  rw[<-gZ];unfold mC ar;rw[Mv];rfl
 rw[e1,e2,be,decide_eq_true (by omega),decide_eq_true (by omega),decide_eq_true h2,decide_eq_true h3,decide_eq_true (by omega)];rfl
theorem EA{K:Fg}{H:Hp}{a:Addr}{ss:List Nat}(h:H a=some (.lst (ar ss)))(hl:ss.length<=1000):FN K H (.ref a) (some (ar ss)):=
 ⟨a,rfl,.inl h,by rw[be];exact hl,fun z hz=>by
  obtain⟨s,_,rfl⟩:=KR.mp hz;exact d4.int _⟩
noncomputable def IZ(K:Fg):Sp:=fun vs H Q _=>∃(c:Nat)(a:Addr)(ss:List Nat),vs=[.int c,.ref a]/\H a=some (.lst (ar ss))/\oY c ss/\∀H',am H H'->Q (.int (KM.cC c ss:Nat)) H'
noncomputable abbrev mD(K:Fg):Sp:=IZ K
noncomputable def sK(K:Fg):TS:=(ao (br (dH (tB (ap (nC K) [] E0 (ab (aa 0) (ab (aa 1) af))))) oH ba)
 (ao (aA (tC (.int 1)) (ag 2))
 (ao (aA (aa 0) (ag 3))
 (ao (cQ (ca K (aa 1)) (ag 4) (ao (aA (tOp (rI Mp fun i j=>.int (i*j)) (aa 2) (ap (nD K) [] E0 (ab (aa 3) (ab (aa 4) af)))) (ag 2))
 (aA (tOp (rI0 fun i j=>.int (i-j)) (aa 3) (aa 4)) (ag 3))))
 (aI (aa 2))))))
theorem zp(h:mD K vs H Q E):sK K { nx:=fun _ H'=>Q .non H',rt:=Q } (start ["cards","sizes","many","left","size"] vs) H:=by
 obtain⟨c,a,ss,rfl,ha,p,q⟩:=h;have h12:=p.c12;have h5:=p.l5;refine⟨_,rfl,_,rfl,_,_,some (ar ss),rfl,d4.int _,EA ha (by omega),fun H1 s1=>⟨_,rfl,?_⟩⟩;rw[show sJ (.int c) (some (ar ss))=true from Ez p];refine kh ?_;refine⟨_,rfl,?_⟩;refine⟨_,rfl,a,rfl,⟨_,SqL.of (s1 _ _ ha)⟩,qY (K:=K) (a:=a) (xs:=ar ss) (fun i σ H2=>∃(m l:Nat)(st:Option V),σ=[some (.int c),some (.ref a),some (.int m),some (.int l),st]/\H2=H1/\m*KM.cC l (ss.drop i)=KM.cC c ss/\(ss.drop i).sum<=l/\l<=12)
  ⟨1,c,none,rfl,rfl,by rw[RJ];rfl,p.sum,h12⟩ (fun i σ H2 _ ⟨_,_,_,_,e,_⟩=>by subst e;exact SqL.of (s1 _ _ ha)) ?_ ?_⟩
 ·rintro i x σ H2 hx ⟨m,l,st,rfl,rfl,hm,hs,hl⟩
  obtain⟨z,hz,rfl⟩:∃z:Nat,ss[i]?=some z/\x=.int (z:Int):=by
   unfold ar at hx;rw[JS]at hx;cases e:ss[i]? with
   |none=>rw[e]at hx;cases hx
   |some z=>rw[e]at hx;exact⟨z,rfl,(JR hx).symm⟩
  have hd:ss.drop i=z::ss.drop (i+1):=by
   obtain⟨h1,h2⟩:=JG.mp hz;rw[Pm h1,h2]
  rw[hd,J9]at hs;rw[hd,KM.cC]at hm;have hle:=KM.CS l z;have h2:(2:Nat)^l<=2^12:=Nat.pow_le_pow_right (by decide) hl;refine⟨_,rfl,_,rfl,_,rfl,l,z,rfl,by omega,by omega,_,_,rfl,rfl,.of_right (O0 (by omega) (by omega)),?_⟩;refine⟨_,rfl,_,rfl,_,_,rfl,rfl,m*KM.choose l z,l-z,some (.int (z:Int)),?_,rfl,by rw[LB];exact hm,by omega,by omega⟩;have e1:((m:Nat):Int)*((KM.choose l z:Nat):Int)=((m*KM.choose l z:Nat):Int):=(P4 _ _).symm;have e2:((l:Nat):Int)-((z:Nat):Int)=((l-z:Nat):Int):=by omega
  dsimp only;rw[e1,e2];rfl
 ·rintro σ H2 ⟨m,l,st,rfl,rfl,hm,hs,hl⟩
  refine⟨_,rfl,?_⟩;rw[be,List.drop_length,KM.cC,Nat.mul_one]at hm;rw[hm];exact q _ s1
noncomputable def bu(H:Hp)(p:Addr)(ws:List (List Nat)):Prop:=∃rs:List Addr,H p=some (.lst (rs.map V.ref))/\Paired (fun(a:Addr)(w:List Nat)=>H a=some (.tup (ar w))) rs ws
theorem jC{H H':Hp}{rs:List Addr}{ws:List (List Nat)}(h:Paired (fun(a:Addr)(w:List Nat)=>H a=some (.tup (ar w))) rs ws)(s:∀a xs,H a=some (.tup xs)->H' a=some (.tup xs)):Paired (fun(a:Addr)(w:List Nat)=>H' a=some (.tup (ar w))) rs ws:=
 Paired.mapP h fun a w e=>s _ _ e
theorem kH{α β:Type}{F:α->β->Prop}:∀{l:List α} {m:List β} {i:Nat} {a:α},Paired F l m->l[i]?=some a->∃b,m[i]?=some b/\F a b
 |_,_,_,_,.nil,h=>by simp at h
 |_,_,0,_,.cons r _,h=>by simp at h;subst h;exact⟨_,rfl,r⟩
 |_,_,i+1,a,.cons _ t,h=>by
  obtain⟨b,h1,h2⟩:=kH (i:=i) (a:=a) t (by simpa using h);exact⟨b,by simpa using h1,h2⟩
theorem nE{α β:Type}{F:α->β->Prop}:∀{l:List α} {m:List β} {l':List α} {m':List β},Paired F l m->Paired F l' m'->Paired F (l++l') (m++m')
 |_,_,_,_,.nil,h=>h
 |_,_,_,_,.cons r t,h=>.cons r (nE t h)
theorem AZ(w:List Nat)(j:Nat):(ar w).countP (fun z=>eqV z (.int (j:Int)))=w.count j:=by
 unfold ar;rw[List.countP_map,List.count_eq_countP]
 congr 1
 funext k
 show((k:Int)==(j:Int))=(k==j);by_cases h:k=j
 ·subst h;simp
 ·rw[beq_eq_false_iff_ne.mpr h,beq_eq_false_iff_ne.mpr (by omega)]
theorem CY(w:List Nat):(ar w).all dm=true:=by unfold ar;rw[Om];simp[dm]
noncomputable def Ij(K:Fg):Sp:=fun vs H Q _=>∃(b r:Addr)(ws:List (List Nat))(room:List Nat),vs=[.ref b,.ref r]/\bu H b ws/\H r=some (.lst (ar room))/\room.length<=6/\(KM.grow room ws).length<=2000/\(∀w∈ws,w.length<=12)/\
 ∀(p:Addr)(H':Hp),am H H'->H p=none->bu H' p (KM.grow room ws)->Q (.ref p) H'
noncomputable abbrev g0(K:Fg):Sp:=Ij K
noncomputable def lU(K:Fg):TS:=(ao (aA (AI af) (ag 2))
 (ao (cQ (ca K (aa 0)) (ag 3) (cQ (jy aV K (ab (aa 1) af)) (cM K 2 (aZ (ag 4) (aZ (ag 5) cL))) (br (aU (tOp (rI0 fun i j=>.bl (decide (i<j))) (tBT zY (aa 3) (ab (aa 4) af)) (aa 5))) (cE (tBM K "list" d8 (aa 2) (ab (tOp (FE K) (aa 3) (D0 (ab (aa 4) af))) af))) ba)))
 (aI (aa 2))))
theorem rq(h:g0 K vs H Q E):lU K { nx:=fun _ H'=>Q .non H',rt:=Q } (start ["begun","room","longer","deal","who","most"] vs) H:=by
 obtain⟨b,r,ws,room,rfl,⟨rs,hb,hp⟩,hrm,h6,h2000,h12,q⟩:=h;refine⟨(by show 0<=JP;decide),fun l hl=>?_⟩;have sl:am H (upd H l (.lst [])):=bc hl _;have hrl:ws.length=rs.length:=hp.length.symm;refine⟨_,rfl,b,rfl,⟨_,SqL.of (sl _ _ hb)⟩,qY (K:=K) (a:=b) (xs:=rs.map V.ref)
  (fun i σ H2=>∃d wh mo:Option V,σ=[some (.ref b),some (.ref r),some (.ref l),d,wh,mo]/\am H H2/\bu H2 l (KM.grow room (ws.take i)))
  ⟨none,none,none,rfl,sl,[],by rw[az];rfl,.nil⟩ (fun i σ H2 _ ⟨_,_,_,_,s2,_⟩=>SqL.of (s2 _ _ hb)) ?_ ?_⟩
 ·rintro i x σ H2 hx ⟨d,wh,mo,rfl,s2,D2⟩
  obtain⟨a,ea,rfl⟩:∃a,rs[i]?=some a/\x=.ref a:=by
   rw[JS]at hx;cases e:rs[i]? with
   |none=>rw[e]at hx;cases hx
   |some a=>rw[e]at hx;exact⟨a,rfl,(JR hx).symm⟩
  obtain⟨u,hu,ha⟩:=kH hp ea;have hu12:=h12 u (JK hu);have gt:=KM.CT room ws i u hu;have gle:=KM.xY room ws (i+1);refine⟨_,rfl,r,_,rfl,SqL.of (s2 _ _ hrm),xG (S:=aV) (K:=K) (a:=r) (xs:=ar room)
   (fun j σ H3=>∃wh mo:Option V,σ=[some (.ref b),some (.ref r),some (.ref l),some (.ref a),wh,mo]/\am H H3/\bu H3 l (KM.grow room (ws.take i)++(KM.eh room u j).map fun k=>u++[k]))
   ⟨wh,mo,rfl,s2,by simpa[KM.eh]using D2⟩ (fun j σ H3 _ ⟨_,_,_,s3,_⟩=>SqL.of (s3 _ _ hrm)) ?_ ?_⟩
  ·rintro j x T σ H3 hxj ⟨wh',mo',rfl,s3,qs,hq,pq⟩ hT
   obtain⟨m,hm,rfl⟩:∃m:Nat,room[j]?=some m/\x=.int (m:Int):=by
    unfold ar at hxj;rw[JS]at hxj;cases e:room[j]? with
    |none=>rw[e]at hxj;cases hxj
    |some z=>rw[e]at hxj;exact⟨z,rfl,(JR hxj).symm⟩
   have hmD:room.getD j 0=m:=by rw[JN,hm];rfl
   have hjl:j<room.length:=(JG.mp hm).1;have nT:H T=none:=s3.free hT;have s4:am H (upd H3 T (.tup [.int (j:Int),.int (m:Int)])):=s3.upd nT _;have a4:(upd H3 T (.tup [.int (j:Int),.int (m:Int)])) a=some (.tup (ar u)):=s4 _ _ ha;have nlT:l≠T:=aY hq hT;have q4:(upd H3 T (.tup [.int (j:Int),.int (m:Int)])) l=some (.lst (qs.map V.ref)):=by rw[aR nlT];exact hq
   have p4:Paired (fun(a:Addr)(w:List Nat)=>(upd H3 T (.tup [.int (j:Int),.int (m:Int)])) a=some (.tup (ar w))) qs (KM.grow room (ws.take i)++(KM.eh room u j).map fun k=>u++[k]):=
    jC pq fun a xs e=>by rw[aR (aY e hT)];exact e
   have hqlen:qs.length<=2000:=by
    have e1:=pq.length;rw[JX,JB]at e1;rw[gt,JX,JB,<-KM.qO]at gle;have e3:(KM.eh room u j).length<=(KM.eh room u room.length).length:=by
     unfold KM.eh;have:(JT j).Sublist (JT room.length):=List.range_sublist.mpr (by omega);exact(this.filter _).length_le
    omega
   have t4:(upd H3 T (.tup [.int (j:Int),.int (m:Int)])) T=some (.tup [.int (j:Int),.int (m:Int)]):=az;generalize upd H3 T (.tup [.int (j:Int),.int (m:Int)])=H4 at s4 a4 q4 p4 t4;have ns:=KM.xX room u j;rw[hmD]at ns;refine⟨T,_,rfl,SqT.of t4,rfl,_,_,rfl,_,_,rfl,rfl,?_⟩;refine⟨_,rfl,⟨a,_,rfl,a4⟩,_,rfl,a,_,_,rfl,rfl,a4,rfl,CY u,_,rfl,_,_,rfl,rfl,_,rfl,?_⟩;rw[AZ];refine iz (fun c=>?_) (fun c=>?_)
   ·have c':u.count j<m:=by have:=of_decide_eq_true c;omega
    rw[if_pos c']at ns;have fin:∀(d:Addr)(H5:Hp),am H4 H5->H5 d=some (.tup (ar (u++[j])))->∃(l':Addr)(xs:List V)(y:V),V.ref l=.ref l'/\[V.ref d]=[y]/\H5 l'=some (.lst xs)/\xs.length<JP/\
      ∃wh mo:Option V,([some (.ref b),some (.ref r),some (.ref l),some (.ref a),some (.int (j:Int)),some (.int (m:Int))]:L2.St)=[some (.ref b),some (.ref r),some (.ref l),some (.ref a),wh,mo]/\am H (upd H5 l' (.lst (xs++[y])))/\
       bu (upd H5 l' (.lst (xs++[y]))) l (KM.grow room (ws.take i)++(KM.eh room u (j+1)).map fun k=>u++[k]):=by
     intro d H5 s5 e5;refine⟨l,_,_,rfl,rfl,s5 _ _ q4,MZ (by rw[JB];exact hqlen) (by decide),_,_,rfl,(s4.trans s5).upd hl _,qs++[d],by rw[az,JY];rfl,?_⟩;have keep:∀(c:Addr)(xs:List V),H5 c=some (.tup xs)->upd H5 l (.lst (qs.map V.ref++[V.ref d])) c=some (.tup xs):=fun c xs e=>by
      rw[aR (wY e (s5 _ _ q4) (by intro z;cases z))];exact e
     rw[ns,JY,<-Pf];exact nE (jC (jC p4 fun c xs e=>s5 _ _ e) keep) (.cons (keep _ _ e5) .nil)
    refine⟨_,rfl,.inl ⟨rfl,_,SqL.of q4⟩,_,rfl,_,rfl,(by show 1<=JP;decide),fun t ht=>?_⟩;have st:am H4 (upd H4 t (.tup [.int (j:Int)])):=bc ht _;have ej:ar (u++[j])=ar u++[.int (j:Int)]:=by unfold ar;rw[JY];rfl
    refine⟨a,t,ar u,[.int (j:Int)],rfl,rfl,SqT.of (st _ _ a4),SqT.of az,small (by rw[be];show u.length+1<=1000;omega),fun e0=>?_,fun _ e0=>(nomatch e0),fun _ _ p hp'=>?_⟩
    ·exact fin t _ st (by rw[az,ej,e0];rfl)
    ·exact fin p _ (st.trans (bc hp' _)) (by rw[az,ej])
   ·have c':¬u.count j<m:=by have:=of_decide_eq_false c;omega
    rw[if_neg c',LH]at ns;exact⟨_,_,rfl,s4,qs,q4,by rw[ns];exact p4⟩
  ·rintro σ H3 ⟨wh',mo',rfl,s3,D3⟩
   rw[be,KM.qO,<-gt]at D3;exact⟨_,_,_,rfl,s3,D3⟩
 ·rintro σ H2 ⟨d,wh,mo,rfl,s2,D2⟩
  refine⟨_,rfl,?_⟩;rw[JB,<-hrl,Ki]at D2;exact q l H2 s2 hl D2
noncomputable def Gw(K:Fg):Sp:=fun vs H Q _=>∃(c:Nat)(a:Addr)(ss:List Nat),vs=[.int c,.ref a]/\H a=some (.lst (ar ss))/\oY c ss/\KM.cC c ss<=2000/\
 ∀(p:Addr)(H':Hp),am H H'->H p=none->bu H' p (KM.cr (ss++[c-ss.sum]) c)->Q (.ref p) H'
theorem fw(ss:List Nat)(c:Nat):ar ss++[.int (c:Int)]=ar (ss++[c]):=by unfold ar;rw[JY];rfl
noncomputable abbrev jD(K:Fg):Sp:=Gw K
noncomputable def sL(K:Fg):TS:=(ao (br (aU (tOp (rI0 fun i j=>.bl (decide (j<i))) (ap (mD K) [] E0 (ab (aa 0) (ab (aa 1) af))) (tC (.int 2000)))) oH ba)
 (ao (aA (tOp Hz (aa 1) (AI (ab (tOp (rI0 fun i j=>.int (i-j)) (aa 0) (tCB (rj K) (ab (aa 1) af))) af))) (ag 2))
 (ao (aA (AI (ab (D0 af) af)) (ag 3))
 (ao (cQ (cZ (ab (aa 0) af)) (ag 4) (aA (ap (g0 K) [] E0 (ab (aa 3) (ab (aa 2) af))) (ag 3)))
 (aI (aa 3))))))
theorem zq(h:jD K vs H Q E):sL K { nx:=fun _ H'=>Q .non H',rt:=Q } (start ["cards","sizes","room","begun","card"] vs) H:=by
 obtain⟨c,a,ss,rfl,ha,p,hm,q⟩:=h;have h12:=p.c12;have h5:=p.l5;have hsum:=p.sum;refine⟨_,rfl,_,rfl,c,a,ss,rfl,ha,p,fun H1 s1=>?_⟩;refine⟨_,_,rfl,rfl,_,rfl,iz (fun k=>?_) (fun _=>?_)⟩
 ·have k':(2000:Int)<((KM.cC c ss:Nat):Int):=of_decide_eq_true k
  omega
 have a1:=s1 _ _ ha;refine⟨_,rfl,_,rfl,_,rfl,a,_,rfl,by rw[<-cB];exact SqL.of a1,_,_,rfl,rfl,(by show 1<=JP;decide),fun l hl=>?_⟩;have s2:am H (upd H1 l (.lst [.int ((c:Int)-(ss.map fun(s:Nat)=>((s:Nat):Int)).sum)])):=s1.trans (bc hl _);have e2:(upd H1 l (.lst [.int ((c:Int)-(ss.map fun(s:Nat)=>((s:Nat):Int)).sum)])) l=some (.lst [.int ((c:Int)-(ss.map fun(s:Nat)=>((s:Nat):Int)).sum)]):=az;rw[show(c:Int)-(ss.map fun(s:Nat)=>((s:Nat):Int)).sum=((c-ss.sum:Nat):Int) by rw[gZ];omega]at s2 e2;dsimp only;rw[show(c:Int)-(ss.map fun(s:Nat)=>((s:Nat):Int)).sum=((c-ss.sum:Nat):Int) by rw[gZ];omega];generalize upd H1 l (.lst [.int ((c-ss.sum:Nat):Int)])=H2 at s2 e2;refine⟨a,l,_,_,rfl,rfl,s2 _ _ ha,e2,small (by rw[be];show ss.length+1<=1000;omega),fun rm hrm=>?_⟩;rw[fw];have hRs:(ss++[c-ss.sum]).sum=c:=by rw[Ll,J9,Nk];omega
 have hRl:(ss++[c-ss.sum]).length<=6:=by rw[JX];show ss.length+1<=6;omega
 have hlev:=KM.mB hsum;have s3:am H (upd H2 rm (.lst (ar (ss++[c-ss.sum])))):=s2.trans (bc hrm _);have e3:(upd H2 rm (.lst (ar (ss++[c-ss.sum])))) rm=some (.lst (ar (ss++[c-ss.sum]))):=az;generalize ss++[c-ss.sum]=R at *;generalize upd H2 rm (.lst (ar R))=H3 at s3 e3;refine⟨(by show 0<=JP;decide),fun t ht=>⟨(by show 1<=JP;decide),fun b hb=>?_⟩⟩;have s4:am H3 (upd (upd H3 t (.tup [])) b (.lst [.ref t])):=(bc ht _).trans (bc hb _);have D4:bu (upd (upd H3 t (.tup [])) b (.lst [.ref t])) b (KM.cr R 0):=⟨[t],az,.cons (by rw[aR (aY (az (o:=HO.tup [])) hb)];exact az) .nil⟩;have f4:H b=none:=by
  have:H3 b=none:=(bc ht _).free hb;exact s3.free this
 generalize upd (upd H3 t (.tup [])) b (.lst [.ref t])=H4 at s4 D4;refine⟨_,rfl,_,rfl,by omega,by omega,oK (lo:=0) (n:=((c:Nat):Int).toNat) (fun i σ H5=>∃(b:Addr)(st:Option V),σ=[some (.int c),some (.ref a),some (.ref rm),some (.ref b),st]/\am H3 H5/\H b=none/\bu H5 b (KM.cr R i)) ⟨b,none,rfl,s4,f4,D4⟩ ?_ ?_⟩
 ·rintro i σ H5 hi ⟨b',st,rfl,s5,f5,D5⟩
  have hi':i+1<=c:=by omega
  refine⟨_,rfl,_,rfl,b',rm,_,R,rfl,D5,s5 _ _ e3,hRl,?_,fun u hu=>?_,fun p' H6 s6 f6 D6=>?_⟩
  ·have h1:=KM.Ex (room:=R) (i:=i+1) (by omega)
   rw[hRs,hlev]at h1;exact Kc h1 hm
  ·have:=(KM.gr R i u hu).len
   omega
  ·exact⟨p',_,rfl,s5.trans s6,(s3.trans s5).free f6,D6⟩
 ·rintro σ H5 ⟨b',st,rfl,s5,f5,D5⟩
  refine⟨_,rfl,?_⟩;rw[show((c:Nat):Int).toNat=c by omega]at D5;exact q b' H5 (s3.trans s5) f5 D5
noncomputable def nG(xs:List Int)(w:Int)(i:Nat):List Int:=((JT i).filter fun j=>decide (xs[j]?=some w)).map fun(j:Nat)=>((j:Nat):Int)
theorem v2(xs:List Int)(w:Int)(i:Nat):nG xs w (i+1)=nG xs w i++(if xs[i]?=some w then[(i:Int)]else[]):=by
 unfold nG;rw[LJ,ND,JY];by_cases h:xs[i]?=some w
 ·rw[if_pos h,KQ (by simpa using h)]
  rfl
 ·rw[if_neg h,K6 (by simpa using h)]
  rfl
theorem EB(xs:List Int)(w:Int)(i:Nat):(nG xs w i).length<=i:=by
 unfold nG;rw[JB];have h:=Oc (fun j=>decide (xs[j]?=some w)) (JT i);rw[Kz]at h;exact h
noncomputable def Gx(K:Fg):Sp:=fun vs H Q _=>∃(d:Addr)(xs:List Int)(v:Int),vs=[.ref d,.int v]/\SqT K H d (xs.map V.int)/\xs.length<=1000/\
 ∀(r:Addr)(H':Hp),am H H'->H' r=some (.tup ((nG xs v xs.length).map V.int))->Q (.ref r) H'
theorem ya{xs:List Int}{i:Nat}{x:V}(h:(xs.map V.int)[i]?=some x):∃z,xs[i]?=some z/\x=.int z:=by
 rw[JS]at h;cases e:xs[i]? with
 |none=>rw[e]at h;cases h
 |some z=>rw[e]at h;exact⟨z,rfl,(JR h).symm⟩
noncomputable abbrev gx(K:Fg):Sp:=Gx K
noncomputable def sN(K:Fg):TS:=(aI (tCB (Ib K) (ab (bo (jy ee K (ab (aa 0) af)) (fun _ _ _ _=>(cM K 2 (aZ (ag 0) (aZ (ag 1) cL)))) (fun _ _ _ _=>(aU (tOp rEq (aa 1) (aa 2)))) (fun _ _ _ _=>(aa 0)) [none,none,some 1]) af)))
theorem zr(h:gx K vs H Q E):sN K { nx:=fun _ H'=>Q .non H',rt:=Q } (start ["deal","who"] vs) H:=by
 obtain⟨d,xs,v,rfl,hd,hlen,q⟩:=h;have hl:(xs.map V.int).length=xs.length:=JB _;refine⟨_,rfl,d,_,rfl,hd,fun p hp=>vQ (S:=ee) (K:=K) (a:=d) (xs:=xs.map V.int) (fun i acc H2=>acc=(nG xs v i).map V.int/\am H H2/\H2 p=some (.lst acc)) ⟨rfl,bc hp _,az⟩ ?_ ?_ ?_ ?_ ?_⟩
 ·rintro i acc H2 hi ⟨rfl,s2,e2⟩
  exact⟨e2,by rw[JB];exact EB _ _ _⟩
 ·rintro i acc H2 hi ⟨rfl,s2,e2⟩
  exact s2.tup hd
 ·rw[hl]
  exact small hlen
 ·rintro _ _ _ _ i x T acc H2 hx ⟨rfl,s2,e2⟩ hT
  obtain⟨z,hz,rfl⟩:=ya hx;have nTp:p≠T:=aY e2 hT;have nT:H T=none:=s2.free hT;refine⟨T,_,rfl,SqT.of az,rfl,_,_,rfl,_,_,rfl,rfl,_,rfl,_,rfl,rfl,_,rfl,?_⟩;have eu:=v2 xs v i;refine iz (fun c=>?_) (fun c=>?_)
  ·have c':z=v:=by
    have:=of_decide_eq_true c;injection this
   subst c';rw[if_pos hz]at eu;refine⟨_,rfl,by rw[aR nTp];exact e2,?_,(s2.upd nT _).upd hp _,az⟩;rw[eu,JY];rfl
  ·have c':¬xs[i]?=some v:=by
    rw[hz];intro e;have:=of_decide_eq_false c;exact this (by rw[JR e])
   rw[if_neg c',LH]at eu;exact⟨by rw[eu],s2.upd nT _,by rw[aR nTp];exact e2⟩
 ·rintro acc H2 ⟨rfl,s2,e2⟩
  rw[hl]at e2;exact⟨p,_,rfl,.inl ⟨SqL.of e2,fun t ht=>q t _ (s2.trans (bc ht _)) az⟩⟩
theorem ek{ss:List Nat}{i:Nat}{x:V}(hx:(ar ss)[i]?=some x):∃z:Nat,ss[i]?=some z/\x=.int (z:Int):=by
 unfold ar at hx;rw[JS]at hx;cases e:ss[i]? with
 |none=>rw[e]at hx;cases hx
 |some z=>rw[e]at hx;exact⟨z,rfl,(JR hx).symm⟩
end
section
variable{K:Fg}{vs:List V}{H:Hp}{Q:VK}{E:XK}
noncomputable abbrev bj(K:Fg):Sp:=HN K
noncomputable def jE(K:Fg):TS:=(ao (br (aU (tOp (rI0 fun i j=>.bl (decide (i<j))) (aa 1) (tCB (bY K) (ab (aa 0) af)))) (aI (tOp (bT K) (aa 0) (aa 1))) ba)
 (ao (aA (tOp (rI0 fun i j=>.int (i+j)) (tOp (rI Mp fun i j=>.int (i*j)) (aa 1) (tC (.int 7919))) (tC (.int 5))) (ag 2))
 (ao (br (aU (tOp (rI0 fun i j=>.bl (decide (j<i))) (tCB (bY K) (ab (aa 0) af)) (tC (.int 0)))) (aA (tOp (rI0 fun i j=>.int (i+j)) (tOp (rI Mp fun i j=>.int (i*j)) (tOp (bT K) (aa 0) (tOp (rI (fun _ j=>0<j) fun i j=>.int (i%j)) (tOp (rI Mp fun i j=>.int (i*j)) (aa 1) (tC (.int 7))) (tCB (bY K) (ab (aa 0) af)))) (tC (.int 48271))) (tOp (rI Mp fun i j=>.int (i*j)) (aa 1) (tC (.int 7919)))) (ag 2)) ba)
 (ao (aA (tOp (rI (fun _ j=>0<j) fun i j=>.int (i%j)) (tOp (rI Mp fun i j=>.int (i*j)) (aa 2) (aa 2)) (tC (.int 2147483629))) (ag 2))
 (aI (tOp (rI (fun _ j=>0<j) fun i j=>.int (i%j)) (tOp (rI Mp fun i j=>.int (i*j)) (tOp (rI0 fun i j=>.int (i+j)) (aa 2) (aa 1)) (tOp (rI0 fun i j=>.int (i+j)) (aa 2) (tC (.int 69621)))) (tC (.int 2147483587))))))))
theorem yb(h:bj K vs H Q E):jE K { nx:=fun _ H'=>Q .non H',rt:=Q } (start ["_law_script","_law_k","_law_number"] vs) H:=by
 obtain⟨a,ns,k,rfl,⟨hS,h63,hbits⟩,h0,h1,q⟩:=h;show jE K _ [some _,some _,none] _;unfold jE;have hl:(ns.map V.int).length=ns.length:=JB _;right;rw[hl];refine bW (fun c=>?_) (fun c=>?_)
 ·right
  refine bz hS (xH h0 c) ?_;have e:bv ns k=ns.getD k.toNat 0:=by unfold bv;rw[if_pos c]
  rw[e]at q;exact q
 ·refine CH ?_
  dsimp only;refine cG ?_;nofun;refine b9 fun NX hNX=>?_;have last:∀n0:Int,KB n0<=1048600->bv ns k=((n0*n0%2147483629)+k)*((n0*n0%2147483629)+69621)%2147483587->NX [some (.ref a),some (.int k),some (.int n0)] H:=by
   intro n0 hb e;refine hNX _ _ ?_;have z1:0<=n0*n0%2147483629:=My _ (by decide);have z2:n0*n0%2147483629<2147483629:=Md _ (by decide);refine cG ?_;refine kG ?_;refine rg ?_;refine rg ?_;refine nu rfl ?_;refine nu rfl ?_;refine r_I (.of_le hb hb (by decide)) ?_;right;rw[e]at q;exact q
  nofun;rw[hl];refine bW (fun d=>?_) (fun d=>?_)
  ·have m1:0<=k*7%(ns.length:Int):=My _ (by omega)
   have m2:k*7%(ns.length:Int)<(ns.length:Int):=Md _ d;nofun;rw[hl];refine bz hS (xH m1 m2) ?_;nofun;refine last _ ?_ ?_
   ·have b1:=CD hbits (k*7%(ns.length:Int)).toNat
    have b2:KB (48271:Int)<=16:=by decide
    have b3:KB k<=20:=intBits_le_iff.mpr (by have:(2:Nat)^20=1048576:=(by decide);omega);have b4:KB (7919:Int)<=13:=by decide
    exact Kc (intBits_add_le (Qq b1 b2) (Qq b3 b4)) (by decide)
   ·unfold bv
    rw[if_neg c,if_pos d]
  ·nofun
   refine last _ ?_ ?_
   ·have b3:KB k<=20:=intBits_le_iff.mpr (by have:(2:Nat)^20=1048576:=(by decide);omega)
    have b4:KB (7919:Int)<=13:=by decide
    have b5:KB (5:Int)<=3:=by decide
    exact Kc (intBits_add_le (Qq b3 b4) b5) (by decide)
   ·unfold bv
    rw[if_neg c,if_neg d]
noncomputable def fb(_:Fg):Sp:=fun vs H Q _=>∃n:Nat,vs=[.int n]/\n<=12/\Q (.int (KM.bd n:Nat)) H
noncomputable def fQ(K:Fg):TS:=(ao (aA (tC (.int 1)) (ag 1))
 (ao (cQ (cZ (ab (aa 0) af)) (ag 2) (aA (tOp (rI Mp fun i j=>.int (i*j)) (aa 1) (tOp (rI0 fun i j=>.int (i+j)) (aa 2) (tC (.int 1)))) (ag 1)))
 (aI (aa 1))))
theorem KM.fact_le{n m: Nat}(h: n ≤ m): KM.bd n ≤ KM.bd m:= by
  induction m with
  | zero => have : n = 0 := by omega
            subst this;exact JF _
  |succ m ih=>
    by_cases e: n= m+1
    · subst e;exact JF _
    · have := ih (by omega)
      rw[KM.bd];exact Kc this (Nat.le_mul_of_pos_right _ (Rh m))
theorem CZ{n:Nat}(h:n<=12):KM.bd n<=479001600:=Kc (KM.fact_le h) (by decide)
theorem sO(h:fb K vs H Q E):fQ K { nx:=fun _ H'=>Q .non H',rt:=Q } (start ["_law_many","_law_found","_law_k"] vs) H:=by
 obtain⟨n,rfl,hn,q⟩:=h;show fQ K _ [some _,none,none] _;unfold fQ;right;refine k9 n (by omega) (by omega) (by omega) (fun i σ H2=>∃st,σ=[some (.int n),some (.int (KM.bd i:Nat)),st]/\H2=H) ⟨none,rfl,rfl⟩ ?_ ?_
 ·rintro i σ H2 hi ⟨st,rfl,rfl⟩
  have:=CZ (n:=i) (by omega);right;refine⟨some (.int i),?_,rfl⟩;rw[KM.bd,P4,show((i:Int)+1)=((i+1:Nat):Int) by omega]
 ·rintro σ H2 ⟨st,rfl,rfl⟩
  right;exact q
noncomputable def gJ(_:Fg):Sp:=fun vs H Q _=>∃(c:Nat)(a:Addr)(ss:List Nat),vs=[.int c,.ref a]/\H a=some (.lst (ar ss))/\ss.sum<=c/\c<=12/\ss.length<=100/\∀H',am H H'->Q (.int (KM.cC c ss:Nat)) H'
noncomputable def iE(K:Fg):TS:=(ao (aA (ap (fb K) [] E0 (ab (aa 0) af)) (ag 2))
 (ao (cQ (ca K (tOp oV (aa 1) (db (ab (tOp (rI0 fun i j=>.int (i-j)) (aa 0) (tCB (rj K) (ab (aa 1) af))) af)))) (ag 3) (aA (tOp (rI dI fun i j=>.int (i/j)) (aa 2) (ap (fb K) [] E0 (ab (aa 3) af))) (ag 2)))
 (aI (aa 2))))
theorem wp(h:gJ K vs H Q E):iE K { nx:=fun _ H'=>Q .non H',rt:=Q } (start ["_law_cards","_law_sizes","_law_found","_law_many"] vs) H:=by
 obtain⟨c,a,ss,rfl,ha,hs,hc,hl,q⟩:=h;show iE K _ [some _,some _,none,none] _;unfold iE;right;refine⟨c,rfl,hc,?_⟩;right;refine AR (ns:=ss.map fun(s:Nat)=>((s:Nat):Int)) (SqL.of (by rw[<-cB];exact ha)) ?_;right;rw[gZ,show(c:Int)-((ss.sum:Nat):Int)=((c-ss.sum:Nat):Int) by omega];refine⟨by simp[JJ],fun b H1 hb s1 e1=>pY (s1 _ _ ha) e1 (by rw[be,JJ];simp;omega) fun p H2 hp s2 e2=>?_⟩;rw[fw]at e2;generalize hR:ss++[c-ss.sum]=R at e2;have hRs:R.sum=c:=by rw[<-hR,Ll,J9,Nk];omega
 have hpf:KM.cC c ss*KM.cI R=KM.bd c:=by rw[<-hR];exact KM.qN c ss hs
 have hdv:R.foldl (fun f s=>f/KM.bd s) (KM.bd c)=KM.cC c ss:=by rw[<-hpf];exact KM.Ih R _
 have s12:=s1.trans s2;refine mR (ar R) (SqL.of e2) (fun i σ H3=>∃st,σ=[some (.int c),some (.ref a),some (.int (((R.take i).foldl (fun f s=>f/KM.bd s) (KM.bd c):Nat):Int)),st]/\H3=H2) ⟨none,rfl,rfl⟩ (fun i σ H3 _ ⟨_,_,e⟩=>by subst e;exact SqL.of e2) ?_ ?_
 ·rintro i x σ H3 hx ⟨st,rfl,rfl⟩
  obtain⟨z,hz,rfl⟩:=ek hx;have hz12:z<=12:=by
   have:=iD (JK hz);omega
  right;refine⟨z,rfl,hz12,?_⟩;have h1:=KM.gY z;have h2:=CZ hz12;right;refine⟨some (.int z),?_,rfl⟩;rw[Ls,hz,Rt,<-R5];rfl
 ·rintro σ H3 ⟨st,rfl,rfl⟩
  right;rw[be,Ki,hdv];exact q _ s12
noncomputable def li(K:Fg):Sp:=fun vs H Q _=>∃(a:Addr)(ns:List Int)(at_ most:Int),vs=[.ref a,.int at_,.int most]/\eM K H a ns/\0<=at_/\at_<=1000/\1<=most/\
 ∀(c:Nat)(ss:List Nat)(p q:Addr)(H':Hp),am H H'->H p=none->H q=none->H' p=some (.tup [.int c,.ref q])->H' q=some (.lst (ar ss))->oY c ss->((KM.cC c ss:Nat):Int)<=most->Q (.ref p) H'
theorem sP:∀ss:List Nat,ss.sum<=0->KM.cC 0 ss=1
 | [],_=>rfl
 |a::r,h=>by
  rw[J9]at h;have ha:a=0:=by omega
  subst ha;rw[KM.cC,KM.jB,sP r (by omega)]
theorem rA(ss:List Nat)(j m:Nat):(ar ss).set j (.int (m:Int))=ar (ss.set j m):=by
 unfold ar;rw[Ri]
theorem EC{ss:List Nat}{M:Int}(h:M∈ss.map fun(s:Nat)=>((s:Nat):Int)):∃m:Nat,m∈ss/\M=(m:Int):=by
 obtain⟨m,hm,e⟩:=KR.mp h;exact⟨m,hm,e.symm⟩
theorem ED{ss:List Nat}{j m:Nat}(h:ss[j]?=some m)(hm:0<m):(ss.set j (m-1)).sum+1=ss.sum:=by
 obtain⟨h1,h2⟩:=JG.mp h;have e:ss.getD j 0=m:=by rw[JN,h];rfl
 have:=KM.uX ss j h1 (by rw[e];exact hm);rw[e]at this;exact this
noncomputable def Ad(K:Fg):TS:=(ao (im (aU (tOp (rI0 fun i j=>.bl (decide (j<i))) (ap (gJ K) [] E0 (ab (aa 3) (ab (aa 4) af))) (aa 2))) (ao (br (aU (tOp (rI0 fun i j=>.bl (decide (j<i))) (tCB (uW K) (ab (aa 4) af)) (tOp (rI0 fun i j=>.int (i-j)) (aa 3) (tCB (rj K) (ab (aa 4) af))))) (aA (tOp (rI0 fun i j=>.int (i-j)) (tCB (uW K) (ab (aa 4) af)) (tC (.int 1))) (kW (aa 4) (tBM K "list" xJ (aa 4) (ab (tCB (uW K) (ab (aa 4) af)) af)) lM)) ba)
 (aA (tOp (rI0 fun i j=>.int (i-j)) (aa 3) (tC (.int 1))) (ag 3))))
 (aI (cD (ab (aa 3) (ab (aa 4) af)))))
theorem C0{K:Fg}{H0 H:Hp}{Q:VK}{NX:St->Hp->Prop}{x y:V}{most:Int}{c:Nat}{q:Addr}{ss:List Nat}{cP:St}(s0:am H0 H)(hq0:H0 q=none)(hq:H q=some (.lst (ar ss)))(h1:1<=ss.length)(h5:ss.length<=5)(hs:ss.sum<=c)(hc:c<=12)(hm:1<=most)
  (g:∀(c:Nat)(ss:List Nat)(p q:Addr)(H':Hp),am H0 H'->H0 p=none->H0 q=none->H' p=some (.tup [.int c,.ref q])->H' q=some (.lst (ar ss))->oY c ss->((KM.cC c ss:Nat):Int)<=most->Q (.ref p) H'):
  Ad K { nx:=NX,rt:=Q } (some x::some y::some (.int most)::some (.int c)::some (.ref q)::cP) H:=by
 unfold Ad;refine cG ?_;refine pV (fun m σ H2=>∃(c:Nat)(ss:List Nat),σ=(some x::some y::some (.int most)::some (.int c)::some (.ref q)::cP)/\am H0 H2/\H2 q=some (.lst (ar ss))/\1<=ss.length/\ss.length<=5/\ss.sum<=c/\c<=12/\m=c) c ⟨c,ss,rfl,s0,hq,h1,h5,hs,hc,rfl⟩ ?_;clear s0 hq h1 h5 hs hc;rintro m σ H2 ⟨c,ss,rfl,s0,hq,h1,h5,hs,hc,hmc⟩;have hmc':=hmc.symm;subst hmc';right;refine⟨c,q,ss,rfl,hq,hs,hc,by omega,fun H3 s3=>?_⟩;have s3':=s0.trans s3;have hq3:=s3 _ _ hq;have hS:SqL K H3 q ((ss.map fun(s:Nat)=>((s:Nat):Int)).map V.int):=by rw[<-cB];exact SqL.of hq3
 right;refine bW (fun hgt=>?_) (fun hle=>?_)
 ·have hc1:1<=c:=by
   rcases NC c with z|z
   ·subst z
    rw[sP ss hs]at hgt;omega
   ·exact z
  refine pU ?_;right;have hne:(ss.map fun(s:Nat)=>((s:Nat):Int))≠[]:=by
   intro z;have:=congrArg List.length z;rw[JB]at this;simp at this;subst this;simp at h1
  refine⟨q,_,rfl,hS,hne,fun M hM hmax=>?_⟩;obtain⟨mx,hmx,rfl⟩:=EC hM;have hle:=iD hmx;right;refine AR hS ?_;right;rw[gZ];refine bW (fun hbig=>?_) (fun hsm=>?_)
  ·right
   refine⟨q,_,rfl,hS,hne,fun M2 hM2 hmax2=>?_⟩;obtain rfl:M2=((mx:Nat):Int):=SC (hmax M2 hM2) (hmax2 _ hM);right;refine⟨pT hq3,?_⟩;right;refine⟨q,_,rfl,hS,hne,fun M3 hM3 hmax3=>?_⟩;obtain rfl:M3=((mx:Nat):Int):=SC (hmax M3 hM3) (hmax3 _ hM);obtain⟨j,hj,hfirst⟩:=xL hM;have hj':ss[j]?=some mx:=by
    rw[JS]at hj;cases e:ss[j]? with
    |none=>rw[e]at hj;cases hj
    |some z=>rw[e]at hj;have hzz:((z:Nat):Int)=(mx:Int):=JR hj;rw[show z=mx by omega]
   have hjl:j<ss.length:=(JG.mp hj').1;right;refine⟨q,_,_,j,rfl,rfl,by rw[<-cB];exact hq3,hj,hfirst,by omega,?_⟩;right;refine oU hq3 (j:=j) (by unfold ixN;rw[be,if_pos (by omega),if_pos (by omega)];simp) ?_;right;have hss:=ED hj' (by omega);refine⟨c-1,by omega,c-1,ss.set j (mx-1),?_,s3'.upd hq0 _,?_,by rw[LI];exact h1,by rw[LI];exact h5,by omega,by omega,rfl⟩
   ·rw[show(c:Int)-1=((c-1:Nat):Int) by omega]
   ·rw[az,show((mx:Nat):Int)-1=((mx-1:Nat):Int) by omega,rA]
  ·right
   refine⟨c-1,by omega,c-1,ss,?_,s3',hq3,h1,h5,?_,by omega,rfl⟩
   ·rw[show(c:Int)-1=((c-1:Nat):Int) by omega]
   ·by_cases e:ss.sum=c
    ·have z:mx=0:=by omega
     have all0:∀s∈ss,s=0:=fun s hs'=>by
      have:=hmax _ (QY (f:=fun(s:Nat)=>((s:Nat):Int)) hs');have:(s:Int)<=(mx:Int):=this;omega
     have:ss.sum=0:=by
      clear hmax hM hq hq3 hS hne hgt hsm hmx hle h1 h5 hs e
      induction ss with
      |nil=>rfl
      |cons b r ih=>rw[J9,all0 b JI,ih fun s hs=>all0 s (JO _ hs)]
     omega
    ·omega
 ·right
  exact⟨by simp[JJ],fun p H4 hp s4 e4=>g c ss p q H4 (s3'.trans s4) (s3'.free hp) hq0 e4 (s4 _ _ hq3) ⟨hc,h1,h5,hs⟩ (by omega)⟩
end
section
variable{K:Fg}{vs:List V}{H:Hp}{Q:VK}{E:XK}
end
section
variable{K:Fg}{vs:List V}{H:Hp}{Q:VK}{E:XK}
noncomputable def kn(K:Fg):Sp:=fun vs H Q _=>∃(a:Addr)(xs:List V)(ks:List MK)(s:Bool),vs=[.ref a]/\H a=some (.lst xs)/\Paired (ck H) xs ks/\(∀k∈ks,eN k=s)/\ks.length<=100000/\
 ∀p H',H p=none->am H H'->H' p=some (.lst (ar (bn ks)))->Q (.ref p) H'
noncomputable def iF(K:Fg):TS:=(ao (aA mU (ag 1))
 (ao (aA (db af) (ag 2))
 (ao (cQ (jy aV K (ab (aa 0) af)) (cM K 2 (aZ (ag 3) (aZ (ag 4) cL))) (ao (br (aU (tOp (rn true) (aa 4) (aa 1))) (aA (aa 3) (kW (aa 1) (aa 4) sn)) ba)
 (cE (tBM K "list" d8 (aa 2) (ab (tOp w9 (aa 1) (aa 4)) af)))))
 (aI (aa 2)))))
theorem wq(h:kn K vs H Q E):iF K { nx:=fun _ H'=>Q .non H',rt:=Q } (start ["_law_signs","_law_first","_law_found","_law_place","_law_sign"] vs) H:=by
 obtain⟨a,xs,ks,s,rfl,e,hk,hs,hl,q⟩:=h;show iF K _ [some _,none,none,none,none] _;unfold iF;have hlen:xs.length=ks.length:=Kf hk;right;refine pZ s fun d H1 hd s1 dx1=>?_;right;refine⟨by simp[JJ],fun f H2 hf s2 e2=>?_⟩;right;refine mS (S:=aV) xs (SqL.of (s2 _ _ (s1 _ _ e))) (fun i σ H3=>∃(u v:Option V),σ=[some (.ref a),some (.ref d),some (.ref f),u,v]/\am H H3/\Dx H3 d s (eP ks i) i/\H3 f=some (.lst (ar ((bn ks).take i)))) ?_ ?_ ?_ ?_
 ·exact⟨none,none,rfl,s1.trans s2,(dx1.congr qL).same s2,e2⟩
 ·rintro i σ H3 hi ⟨u,v,rfl,s3,dx3,e3⟩
  exact SqL.of (s3 _ _ e)
 ·rintro i x T σ H3 H4 hx ⟨u,v,rfl,s3,dx3,e3⟩ hT s4 eT
  obtain⟨k,hki,hkv⟩:=bG hk hx;have hks:=hs k (JK hki);have hi:i<ks.length:=(JG.mp hki).1;refine dh (SqT.of eT) ?_;have hkv4:=hkv.keep (s3.trans s4).keep;have dx4:=dx3.same s4;have e4:=s4 _ _ e3;have s34:=s3.trans s4;have hfd:=dx4.ne_lst e4;have hdH:H d=none:=hd;have hfH:H f=none:=s1.free hf;refine b9 fun NX hNX=>?_;have key:∀H5,am H H5->Dx H5 d s (eP ks (i+1)) (i+1)->H5 f=some (.lst (ar ((bn ks).take i)))->ck H5 x k->NX [some (.ref a),some (.ref d),some (.ref f),some (.int (i:Nat)),some x] H5:=by
   intro H5 s5 dx5 e5 hk5;refine hNX _ _ ?_;right;refine⟨pT e5,?_⟩;right;refine CO dx5 hk5 hks (lQ (zm hki)) ?_;right;refine fq e5 (by rw[be,Ly,cz,JJ];omega) fun H6 o6 e6=>?_;refine⟨_,_,rfl,s5.off hfH o6,dx5.off e5 o6,?_⟩;rw[e6,oW hki,fw]
  right;refine xS dx4 hkv4 hks ?_;right;by_cases hm:k∈ks.take i
  ·rw[lQ hm]
   refine kh ?_;exact key H4 s34 ((dx4.congr (so hki hm)).le (L8 i)) e4 hkv4
  ·rw[qK hm]
   refine ki ?_;right;refine xT dx4 hkv4 hks (by rw[JJ];omega) fun H5 o5 dx5=>?_;have kp:=dx4.offK o5;exact key H5 (s34.off hdH o5) (dx5.congr (sr hki hm)) (by rw[o5 _ hfd];exact e4) (hkv4.keep kp)
 ·rintro σ H3 ⟨u,v,rfl,s3,dx3,e3⟩
  right;refine q _ _ (s1.free hf) s3 ?_;rw[e3,Na (by rw[cz,hlen];exact JF _)]
end
section
variable{K:Fg}{vs:List V}{H:Hp}{Q:VK}{E:XK}
theorem g9{ss:List Nat}{j z:Nat}(h:ss[j]?=some z):atI (ar ss) (j:Int)=some (.int (z:Int)):=b8 (by unfold ar;rw[JS,h];rfl)
end
noncomputable def nH:V->Bool
 | .non=>true
 | .bl _=>true
 | .int _=>true
 |_=>false
inductive cu(K:Fg)(H:Hp):Nat->V->V->Prop where
 |flat {n:Nat} {x:V} (h:nH x=true):cu K H n x x
 |str {n:Nat} {x:Str} (h:x.cps.all (· < 0x110000)=true):cu K H n (.str x) (.str x)
 |lst {n:Nat} {a b:Addr} {xs ys:List V} (e1:SqL K H a xs) (e2:SqL K H b ys) (hl:xs.length=ys.length) (h:∀(i:Nat)(x y:V),xs[i]?=some x->ys[i]?=some y->cu K H n x y):cu K H (n+1) (.ref a) (.ref b)
 |tup {n:Nat} {a b:Addr} {xs ys:List V} (e1:SqT K H a xs) (e2:SqT K H b ys) (hl:xs.length=ys.length) (h:∀(i:Nat)(x y:V),xs[i]?=some x->ys[i]?=some y->cu K H n x y):cu K H (n+1) (.ref a) (.ref b)
noncomputable def j4(K:Fg)(neg:Bool):R2:=fun x y H Q=>∃n,n<=30/\cu K H n x y/\Q (.bl (!neg)) H
section
variable{K:Fg}{H:Hp}{Q:VK}
theorem Gy{x y:V}(n:Nat)(hn:n<=30)(h:cu K H n x y)(q:Q (.bl true) H):j4 K false x y H Q:=⟨n,hn,h,q⟩
theorem va{x y:V}(n:Nat)(hn:n<=30)(h:cu K H n x y)(q:Q (.bl false) H):j4 K true x y H Q:=⟨n,hn,h,q⟩
theorem sQ{a b:Addr}{xs:List V}(e1:SqL K H a xs)(e2:SqL K H b xs)(hf:∀x∈xs,nH x=true):cu K H 1 (.ref a) (.ref b):=
 .lst e1 e2 rfl fun i x y hx hy=>by
  rw[hx]at hy;cases hy;exact .flat (hf x (JK hx))
theorem nI{a b:Addr}{xs:List V}(e1:SqT K H a xs)(e2:SqT K H b xs)(hf:∀x∈xs,nH x=true):cu K H 1 (.ref a) (.ref b):=
 .tup e1 e2 rfl fun i x y hx hy=>by
  rw[hx]at hy;cases hy;exact .flat (hf x (JK hx))
theorem cu.up{n m:Nat}{x y:V}(h:cu K H n x y)(hm:n<=m):cu K H m x y:=by
 induction h generalizing m with
 |flat h=>exact .flat h
 |str h=>exact .str h
 |lst e1 e2 hl _ ih=>
  obtain⟨k,rfl⟩:∃k,m=k+1:=⟨m-1,by omega⟩;exact .lst e1 e2 hl fun i x y hx hy=>ih i x y hx hy (by omega)
 |tup e1 e2 hl _ ih=>
  obtain⟨k,rfl⟩:∃k,m=k+1:=⟨m-1,by omega⟩;exact .tup e1 e2 hl fun i x y hx hy=>ih i x y hx hy (by omega)
theorem A0{n:Nat}{a b:Addr}{x y u v:V}(e1:SqT K H a [x,y])(e2:SqT K H b [u,v])(h1:cu K H n x u)(h2:cu K H n y v):cu K H (n+1) (.ref a) (.ref b):=
 .tup e1 e2 rfl fun i p q hp hq=>by
  match i,hp,hq with
  |0,hp,hq=>cases hp;cases hq;exact h1
  |1,hp,hq=>cases hp;cases hq;exact h2
theorem lV(ns:List Int):∀x∈ns.map V.int,nH x=true:=fun x hx=>by obtain⟨n,_,rfl⟩:=KR.mp hx;rfl
end
section
variable{g:CF TG}{tt:CF TT}{te:CF TE}{σ₀:St}{Q:VK}{H:Hp}{K:Fg}
theorem Gz{S:Src}{a:Addr}(xs:List V)(hx:S.Sq K H a xs)(kx:∀H',am H H'->S.Sq K H' a xs)(hz:xs.length<=1000000)(R:Nat->List V->Hp->Prop)(h0:∀H',am H H'->R 0 [] H')
  (hs:∀p,H p=none->∀C s' H' fp,∀i x T acc H2 H3,xs[i]?=some x->aW H p R i acc H2->H2 T=none->am H2 H3->H3 T=some (.tup [.int i,x])->H3 p=some (.lst acc)->g C s' H' fp (.ref T) σ₀ H3 fun σ2 H4=>tt C s' H' fp σ2 H4 fun b H5=>if b=true then te C s' H' fp σ2 H5 fun y H6=>H6 p=some (.lst acc)/\aW H p R (i+1) (acc++[y]) (upd H6 p (.lst (acc++[y])))else aW H p R (i+1) acc H5)
  (hd:∀p acc H2,H p=none->am H H2->H2 p=some (.lst acc)->R xs.length acc H2->Q (.ref p) H2):
  ∃a' xs',[V.ref a]=[.ref a']/\S.Sq K H a' xs'/\∀p,H p=none->∃W:Nat->Nat->List V->Hp->Prop,(∃m,W 0 m [] (upd H p (.lst [])))/\∀C s' H' fp,bE (Ite S K a') (g C s' H' fp) (tt C s' H' fp) (te C s' H' fp) σ₀ p Q W:=
 ⟨a,xs,rfl,hx,fun p hp=>vQ (aW H p R) ⟨bc hp _,az,JF _,h0 _ (bc hp _)⟩ (fun i acc H2 _ c=>⟨c.2.1,c.2.2.1⟩) (fun i acc H2 _ c=>kx _ c.1) (by rw[JJ];omega)
  (fun C s' H' fp i x T acc H2 hi c hT=>hs p hp C s' H' fp i x T acc H2 _ hi c hT (bc hT _) az (by rw[aR (aY c.2.1 hT)];exact c.2.1)) fun acc H2 c=>hd p acc H2 hp c.1 c.2.1 c.2.2.2⟩
end
section
variable{K:Fg}{vs:List V}{H:Hp}{Q:VK}{E:XK}
noncomputable def dO(K:Fg):Sp:=fun vs H Q _=>∃(a:Addr)(xs:List V)(ks:List MK)(s:Bool),vs=[.ref a]/\H a=some (.lst xs)/\Paired (ck H) xs ks/\(∀k∈ks,eN k=s)/\ks.length<=100000/\
 ∀p H',H p=none->am H H'->H' p=some (.lst (ar (bn ks)))->Q (.ref p) H'
noncomputable def d5(K:Fg):TS:=(ao (aA mU (ag 1))
 (ao (cQ (jy aV K (ab (aa 0) af)) (cM K 2 (aZ (ag 2) (aZ (ag 3) cL))) (cE (tXM xR (aa 1) (ab (aa 3) (ab (aa 2) af)))))
 (aI (bo (ca K (aa 0)) (fun _ _ _ _=>(ag 0)) (fun _ _ _ _=>aS) (fun _ _ _ _=>(tOp w9 (aa 1) (aa 0))) [none,some 1]))))
theorem oZ(h:dO K vs H Q E):d5 K { nx:=fun _ H'=>Q .non H',rt:=Q } (start ["marks","firsts","thing","mark"] vs) H:=by
 obtain⟨a,xs,ks,s,rfl,e,hk,hs,hl,q⟩:=h;show d5 K _ [some _,none,none,none] _;unfold d5;have hlen:xs.length=ks.length:=Kf hk;right;refine pZ s fun d H1 hd s1 dx1=>?_;right;refine mS (S:=aV) xs (SqL.of (s1 _ _ e)) (fun i σ H3=>∃(u v:Option V),σ=[some (.ref a),some (.ref d),u,v]/\am H H3/\Dx H3 d s (eP ks i) i) ?_ ?_ ?_ ?_
 ·exact⟨none,none,rfl,s1,dx1.congr qL⟩
 ·rintro i σ H3 hi ⟨u,v,rfl,s3,dx3⟩
  exact SqL.of (s3 _ _ e)
 ·rintro i x T σ H3 H4 hx ⟨u,v,rfl,s3,dx3⟩ hT s4 eT
  obtain⟨k,hki,hkv⟩:=bG hk hx;have hks:=hs k (JK hki);have hi:i<ks.length:=(JG.mp hki).1;refine dh (SqT.of eT) ?_;have s34:=s3.trans s4;have hkv4:=hkv.keep s34.keep;have dx4:=dx3.same s4;right;refine Jv ?_;right;refine⟨⟨d,s,_,_,rfl,dx4⟩,?_⟩;right;refine Gu dx4 hkv4 hks (by rw[JJ];omega) (fun w hw=>?_) (fun hn H5 o5 dx5=>?_)
  ·have hm:k∈ks.take i:=by
    by_cases q:k∈ks.take i
    ·exact q
    ·rw[qK q]at hw;cases hw
   exact⟨_,_,rfl,s34,(dx4.congr (so hki hm)).le (L8 i)⟩
  ·have hm:k∉ks.take i:=fun q=>by rw[lQ q]at hn;cases hn
   exact⟨_,_,rfl,s34.off hd o5,dx5.congr (sr hki hm)⟩
 ·rintro σ H3 ⟨u,v,rfl,s3,dx3⟩
  right;refine cK xs (SqL.of (s3 _ _ e)) (by omega) (fun i acc _=>acc=ar ((bn ks).take i)) (fun H' _=>rfl) ?_ ?_
  ·rintro p hp C s' H' fp i x acc H4 hx ⟨s4,e4,l4,rfl⟩
   obtain⟨k,hki,hkv⟩:=bG hk hx;have hks:=hs k (JK hki);have hi:i<ks.length:=(JG.mp hki).1;right;refine CO (dx3.same s4) (hkv.keep (s3.trans s4).keep) hks (lQ (by rw[hlen,Ki];exact JK hki)) ?_;refine aW.put hp (fun _ _ _ _ r _=>r) s4 e4 l4 ?_;rw[oW hki,fw]
  ·rintro p acc H4 hp s4 e4 rfl
   refine q _ _ (s3.free hp) (s3.trans s4) ?_;rw[e4,Na (by rw[cz,hlen];exact JF _)]
noncomputable def fc(w:List Nat)(h:Int):List Int:=nG (w.map fun(s:Nat)=>((s:Nat):Int)) h w.length
noncomputable def yc(ns:List Int):MK:=.inr (ns.map fun n=>(Ml (some n):IK))
theorem EE(a b:List Int)(e:yc a=yc b):a=b:=by
 have h:a.map (fun n=>(Ml (some n):IK))=b.map (fun n=>(Ml (some n):IK)):=Nr e;clear e
 induction a generalizing b with
 |nil=>cases b with
  |nil=>rfl
  |cons _ _=>simp at h
 |cons x r ih=>cases b with
  |nil=>simp at h
  |cons y t=>
   rw[JZ,JZ]at h;injection h with h1 h2
   injection h1 with h1
   injection h1 with h1
   rw[h1,ih t h2]
noncomputable def ll(ws:List (List Nat))(h:Int):List Nat:=bn (ws.map fun w=>fc w h)
theorem zt(ws:List (List Nat))(h:Int):bn (ws.map fun w=>yc (fc w h))=ll ws h:=by
 unfold ll;rw[<-qJ (f:=yc) EE,Mv];rfl
theorem bu.to'{H H':Hp}{p:Addr}{ws:List (List Nat)}(d:bu H p ws)(k:cS H H')(e:∀rs:List Addr,H p=some (.lst (rs.map V.ref))->H' p=some (.lst (rs.map V.ref))):bu H' p ws:=by
 obtain⟨rs,h1,h2⟩:=d;exact⟨rs,e rs h1,jC h2 fun a xs e=>k _ _ e⟩
theorem bu.same'{H H':Hp}{p:Addr}{ws:List (List Nat)}(d:bu H p ws)(s:am H H'):bu H' p ws:=d.to' s.keep fun rs e=>s _ _ e
theorem ln{rs:List Addr}{i:Nat}{x:V}(hx:(rs.map V.ref)[i]?=some x):∃a,rs[i]?=some a/\x=.ref a:=by
 rw[JS]at hx;cases e:rs[i]? with
 |none=>rw[e]at hx;cases hx
 |some z=>rw[e]at hx;exact⟨z,rfl,(JR hx).symm⟩
noncomputable def ko(K:Fg):Sp:=fun vs H Q _=>∃(a:Addr)(ws:List (List Nat))(h:Int),vs=[.ref a,.int h]/\bu H a ws/\(∀w∈ws,w.length<=1000)/\ws.length<=100000/\
 ∀p H',H p=none->am H H'->H' p=some (.lst (ar (ll ws h)))->Q (.ref p) H'
theorem C1{H:Hp}{xs:List V}{ks:List MK}{x:V}{k:MK}(h:Paired (ck H) xs ks)(q:ck H x k):Paired (ck H) (xs++[x]) (ks++[k]):=by
 induction h with
 |nil=>exact .cons q .nil
 |cons r _ ih=>exact .cons r ih
noncomputable def iG(K:Fg):TS:=(aI (ap (dO K) [] E0 (ab (bo (ca K (aa 0)) (fun _ _ _ _=>(ag 0)) (fun _ _ _ _=>aS) (fun _ _ _ _=>(ap (gx K) [] E0 (ab (aa 0) (ab (aa 1) af)))) [none,some 1]) af)))
theorem wt(h:ko K vs H Q E):iG K { nx:=fun _ H'=>Q .non H',rt:=Q } (start ["deals","hand"] vs) H:=by
 obtain⟨a,ws,h,rfl,hD,hw,hl,q⟩:=h;show iG K _ [some _,some _] _;unfold iG;obtain⟨rs,e,hr⟩:=id hD;have hlr:rs.length=ws.length:=Kf hr;right;refine cK (rs.map V.ref) (SqL.of e) (by rw[JB];omega) (fun i acc H'=>Paired (ck H') acc ((ws.take i).map fun w=>yc (fc w h))) (fun H' _=>.nil) ?_ ?_
 ·rintro p hp C s' H' fp i x acc H2 hx ⟨s2,e2,l2,r2⟩
  obtain⟨b,hb,rfl⟩:=ln hx;obtain⟨w,hwi,ew⟩:=bG hr hb;right;refine⟨b,w.map fun(s:Nat)=>((s:Nat):Int),h,rfl,by rw[<-cB];exact SqT.of (s2 _ _ ew),by rw[JB];exact hw w (JK hwi),fun r H3 s3 e3=>?_⟩;rw[JB]at e3;refine aW.put hp (fun _ _ _ _ r k=>vT r k) (s2.trans s3) (s3 _ _ e2) l2 ?_;rw[bP hwi,JY];exact C1 (vT r2 s3.keep) (Gr (ns:=fc w h) e3)
 ·rintro p acc H2 hp s2 e2 r2
  rw[JB,hlr,Ki]at r2;right;refine⟨p,acc,_,true,rfl,e2,r2,?_,by rw[JB];omega,fun p3 H3 hp3 s3 e3=>?_⟩
  ·intro k hk
   obtain⟨w,_,rfl⟩:=KR.mp hk;rfl
  ·rw[zt]at e3
   exact q _ _ (s2.free hp3) (s2.trans s3) e3
end
noncomputable def A1:List V->Hp->VK->Prop:=fun xs H Q=>∃n:Nat,xs=[.int (n:Int)]/\n<=1000000/\New H (.rng 0 (n:Int)) fun p H2=>Q (.ref p) H2
noncomputable def xa:List V->Hp->VK->Prop:=fun xs H Q=>∃(p:Addr)(n:Nat),xs=[.ref p]/\H p=some (.rng 0 (n:Int))/\n<=1000000/\New H (.lst ((JT n).map fun(i:Nat)=>V.int ((i:Nat):Int))) fun p H2=>Q (.ref p) H2
noncomputable def FO(ta:TA):TE:=tCB xa (ab (tCB A1 ta) af)
theorem I0{H:Hp}{Q:VK}{n:Nat}(hn:n<=1000000)(h:New H (.lst ((JT n).map fun(i:Nat)=>V.int ((i:Nat):Int))) fun p H2=>Q (.ref p) H2):New H (.rng 0 (n:Int)) fun p H2=>xa [.ref p] H2 Q:=
 fun p H' _ s e=>⟨p,n,rfl,e,hn,fun l H2 hl s2 e2=>h l H2 (s.free hl) (s.trans s2) e2⟩
noncomputable def mV(H:Hp)(ts:List Addr)(ps:List (V×V)):Prop:=Paired (fun(t:Addr)(p:V×V)=>H t=some (.tup [p.1,p.2])) ts ps
noncomputable def A2(S1 S2:Src)(K:Fg)(ta:TA):TE:=fun σ H Q=>ta σ H fun vs H1=>∃a b xs ys,vs=[.ref a,.ref b]/\S1.Sq K H1 a xs/\S2.Sq K H1 b ys/\xs.length<=1000000/\
 ∀p H',H1 p=none->am H1 H'->(∃ts:List Addr,H' p=some (.lst (ts.map V.ref))/\mV H' ts (xs.zip ys))->Q (.ref p) H'
section
variable{σ:St}{H:Hp}{Q:VK}{K:Fg}
theorem Ik{ta:TA}(h:ta σ H fun vs H1=>∃n:Nat,vs=[.int (n:Int)]/\n<=1000000/\New H1 (.rng 0 (n:Int)) fun p H2=>xa [.ref p] H2 Q):FO ta σ H Q:=h
theorem Il{S1 S2:Src}{ta:TA} (h:ta σ H fun vs H1=>∃a b xs ys,vs=[.ref a,.ref b]/\S1.Sq K H1 a xs/\S2.Sq K H1 b ys/\xs.length<=1000000/\
 ∀p H',H1 p=none->am H1 H'->(∃ts:List Addr,H' p=some (.lst (ts.map V.ref))/\mV H' ts (xs.zip ys))->Q (.ref p) H'):A2 S1 S2 K ta σ H Q:=h
end
end L2
section
namespace KF
noncomputable def dP(ps:List Nat):Prop:=∀x y:Nat,ps[x]?=some y->y<=x
inductive bA(ps:List Nat):Nat->Nat->Prop where
 |stop {x:Nat} (h:ps[x]?=some x):bA ps x x
 |step {x y r:Nat} (h:ps[x]?=some y) (hl:y<x) (t:bA ps y r):bA ps x r
theorem bA.inj{ps:List Nat}{x r r':Nat}(a:bA ps x r)(b:bA ps x r'):r=r':=by
 induction a with
 |stop h=>cases b with
  |stop _=>rfl
  |step h' hl _=>rw[h]at h';cases h';omega
 |step h hl _ ih=>cases b with
  |stop h'=>rw[h]at h';cases h';omega
  |step h' _ t=>rw[h]at h';cases h';exact ih t
theorem dP.root{ps:List Nat}(f:dP ps):∀x,x<ps.length->∃r,bA ps x r:=by
 intro x
 induction x using Nat.strongRecOn with
 |ind x ih=>
  intro hx;have e:=JD hx;have hy:=f x _ e;rcases NF hy with h|h
  ·obtain⟨r,hr⟩:=ih _ h (by omega)
   exact⟨r,.step e h hr⟩
  ·rw[h]at e
   exact⟨x,.stop e⟩
theorem bA.le{ps:List Nat}{x r:Nat}(a:bA ps x r):r<=x:=by
 induction a with
 |stop _=>exact JF _
 |step _ hl _ ih=>omega
theorem bA.self{ps:List Nat}{x r:Nat}(a:bA ps x r):ps[r]?=some r:=by
 induction a with
 |stop h=>exact h
 |step _ _ _ ih=>exact ih
theorem bA.lt{ps:List Nat}{x r:Nat}(a:bA ps x r):x<ps.length:=by
 cases a with
 |stop h=>exact(JG.mp h).1
 |step h _ _=>exact(JG.mp h).1
theorem dP.range(n:Nat):dP (JT n):=fun x y h=>by
 obtain⟨h1,h2⟩:=JG.mp h;rw[OV]at h2;omega
theorem bA.range{n x:Nat}(h:x<n):bA (JT n) x x:=.stop (by rw[K3 h])
theorem Im{ps:List Nat}{e g y z:Nat}(h:(ps.set e g)[y]?=some z):(y=e/\z=g)\/(y≠e/\ps[y]?=some z):=by
 rw[MF]at h;by_cases q:e=y
 ·rw[if_pos q]at h
  split at h
  ·cases h;exact .inl ⟨q.symm,rfl⟩
  ·cases h
 ·rw[if_neg q]at h
  exact .inr ⟨fun z=>q z.symm,h⟩
theorem mW{ps:List Nat}{e g y:Nat}(h:y≠e):(ps.set e g)[y]?=ps[y]?:=by
 rw[MF,if_neg (fun z=>h z.symm)]
theorem j5{ps:List Nat}{e g:Nat}(h:e<ps.length):(ps.set e g)[e]?=some g:=by
 rw[MF,if_pos rfl,if_pos h]
theorem dP.set{ps:List Nat}(f:dP ps){e g:Nat}(h:g<=e):dP (ps.set e g):=fun x y q=>by
 rcases Im q with⟨rfl,rfl⟩|⟨_,q⟩
 ·exact h
 ·exact f x y q
theorem bA.halve{ps:List Nat}(f:dP ps){e p g:Nat}(h1:ps[e]?=some p)(h2:ps[p]?=some g){y r:Nat}(a:bA ps y r):bA (ps.set e g) y r:=by
 have he:e<ps.length:=(JG.mp h1).1
 induction a with
 | @stop x h=>
  by_cases q:x=e
  ·subst q
   rw[h]at h1;cases h1;rw[h]at h2;cases h2;exact .stop (j5 he)
  ·exact .stop (by rw[mW q];exact h)
 | @step x y r h hl t ih=>
  by_cases q:x=e
  ·subst q
   rw[h]at h1;cases h1;have e1:(ps.set x g)[p]?=some g:=by rw[mW (by omega)];exact h2
   cases ih with
   |stop h'=>
    rw[e1]at h';cases h';exact .step (j5 he) hl (.stop e1)
   |step h' hl' t'=>
    rw[e1]at h';cases h';exact .step (j5 he) (by omega) t'
  ·exact .step (by rw[mW q];exact h) hl ih
theorem bA.link{ps:List Nat}{M m:Nat}(hM:ps[M]?=some M)(hm:ps[m]?=some m)(hle:m<=M){y r:Nat}(a:bA ps y r):bA (ps.set M m) y (if r=M then m else r):=by
 have hMl:M<ps.length:=(JG.mp hM).1
 induction a with
 | @stop x h=>
  by_cases q:x=M
  ·subst q
   rw[if_pos rfl];rcases NF hle with l|l
   ·exact .step (j5 hMl) l (.stop (by rw[mW (by omega)];exact hm))
   ·subst l
    exact .stop (j5 hMl)
  ·rw[if_neg q]
   exact .stop (by rw[mW q];exact h)
 | @step x y r h hl t ih=>
  have q:x≠M:=by
   intro q;subst q;rw[h]at hM;cases hM;omega
  exact .step (by rw[mW q];exact h) hl ih
inductive cJ(P:Nat->Nat->Prop):Nat->Nat->Prop where
 |refl (x:Nat):cJ P x x
 |one {x y:Nat} (h:P x y):cJ P x y
 |symm {x y:Nat} (h:cJ P x y):cJ P y x
 |trans {x y z:Nat} (h:cJ P x y) (t:cJ P y z):cJ P x z
theorem cJ.mono{P P':Nat->Nat->Prop}(h:∀x y,P x y->P' x y){x y:Nat}(c:cJ P x y):cJ P' x y:=by
 induction c with
 |refl x=>exact .refl x
 |one q=>exact .one (h _ _ q)
 |symm _ ih=>exact .symm ih
 |trans _ _ a b=>exact .trans a b
theorem cJ.keeps{P:Nat->Nat->Prop}{α:Type}{f:Nat->α}(h:∀x y,P x y->f x=f y){x y:Nat}(c:cJ P x y):f x=f y:=by
 induction c with
 |refl x=>rfl
 |one q=>exact h _ _ q
 |symm _ ih=>exact ih.symm
 |trans _ _ a b=>exact a.trans b
noncomputable def gK(n:Nat)(vs:List (List Nat))(x y:Nat):Prop:=∃v∈vs,x<n/\v[x]?=some y
structure j6(n:Nat)(P:Nat->Nat->Prop)(r:List Nat):Prop where
 len:r.length=n
 le:∀i x:Nat,r[i]?=some x->x<=i
 conn:∀i x:Nat,r[i]?=some x->cJ P i x
 same:∀i j:Nat,i<n->j<n->cJ P i j->r[i]?=r[j]?
theorem j6.uniq{n:Nat}{P P':Nat->Nat->Prop}{r r':List Nat}(a:j6 n P r)(b:j6 n P' r')(h1:∀x y,cJ P x y->cJ P' x y)(h2:∀x y,cJ P' x y->cJ P x y):r=r':=by
 refine Lu fun i=>?_;by_cases hi:i<n
 ·obtain⟨x,e1⟩:∃x,r[i]?=some x:=⟨_,JD (l:=r) (i:=i) (by rw[a.len];exact hi)⟩
  obtain⟨y,e2⟩:∃y,r'[i]?=some y:=⟨_,JD (l:=r') (i:=i) (by rw[b.len];exact hi)⟩;have lx:=a.le i x e1;have ly:=b.le i y e2;have c1:=a.conn i x e1;have c2:=b.conn i y e2;have ex:r[y]?=some x:=by rw[<-a.same i y hi (by omega) (h2 _ _ c2)];exact e1
  have ey:r'[x]?=some y:=by rw[<-b.same i x hi (by omega) (h1 _ _ c1)];exact e2
  have q1:=a.le y x ex;have q2:=b.le x y ey;rw[e1,e2,show x=y by omega]
 ·rw[J5 (by rw[a.len];omega),J5 (by rw[b.len];omega)]
structure cX(n:Nat)(P:Nat->Nat->Prop)(ps:List Nat):Prop where
 len:ps.length=n
 forest:dP ps
 conn:∀x r,bA ps x r->cJ P x r
 same:∀x y,P x y->∃r,bA ps x r/\bA ps y r
theorem cX.join{n:Nat}{P:Nat->Nat->Prop}{ps r:List Nat}(t:cX n P ps)(hl:r.length=n)(hr:∀i x:Nat,r[i]?=some x->bA ps i x):j6 n P r where
 len:=hl
 le:=fun i x h=>(hr i x h).le
 conn:=fun i x h=>t.conn _ _ (hr i x h)
 same:=by
  have key:∀i j,cJ P i j->∀x,(bA ps i x↔bA ps j x):=by
   intro i j c
   induction c with
   |refl x=>intro x;exact Iff.rfl
   |one q=>
    intro x;obtain⟨r,h1,h2⟩:=t.same _ _ q;exact⟨fun a=>by rw[a.inj h1];exact h2,fun a=>by rw[a.inj h2];exact h1⟩
   |symm _ ih=>intro x;exact(ih x).symm
   |trans _ _ a b=>intro x;exact(a x).trans (b x)
  intro i j hi hj c;have e1:=JD (l:=r) (i:=i) (by rw[hl];exact hi);have e2:=JD (l:=r) (i:=j) (by rw[hl];exact hj);have q1:=(key i j c _).mp (hr _ _ e1);rw[e1,e2,q1.inj (hr _ _ e2)]
theorem cX.start(n:Nat):cX n (fun _ _=>False) (JT n) where
 len:=Kz
 forest:=dP.range n
 conn:=fun x r h=>by
  have hx:x<n:=by have:=h.lt;rw[Kz]at this;exact this
  rw[h.inj (bA.range hx)];exact .refl x
 same:=fun _ _ h=>h.elim
theorem cX.moved{n:Nat}{P:Nat->Nat->Prop}{ps ps':List Nat}(t:cX n P ps)(f:dP ps')(hl:ps'.length=n)(h:∀y r,bA ps y r->bA ps' y r):cX n P ps' where
 len:=hl
 forest:=f
 conn:=fun x r a=>by
  obtain⟨r',b⟩:=t.forest.root x (by rw[t.len,<-hl];exact a.lt);rw[a.inj (h _ _ b)];exact t.conn _ _ b
 same:=fun x y q=>by
  obtain⟨r,h1,h2⟩:=t.same x y q;exact⟨r,h _ _ h1,h _ _ h2⟩
theorem cX.link{n:Nat}{P P':Nat->Nat->Prop}{ps:List Nat}{a b ra rb M m:Nat}(t:cX n P ps)(ha:bA ps a ra)(hb:bA ps b rb)(hM:(M=ra/\m=rb)\/(M=rb/\m=ra))(hle:m<=M)
  (h1:∀x y,P x y->P' x y) (h2:∀x y,P' x y->P x y\/(x=a/\y=b)) (h3:P' a b):cX n P' (ps.set M m):=by
 have sM:ps[M]?=some M:=by
  rcases hM with⟨rfl,_⟩|⟨rfl,_⟩
  ·exact ha.self
  ·exact hb.self
 have sm:ps[m]?=some m:=by
  rcases hM with⟨_,rfl⟩|⟨_,rfl⟩
  ·exact hb.self
  ·exact ha.self
 have cMm:cJ P' M m:=by
  have c1:cJ P' a ra:=(t.conn _ _ ha).mono h1;have c2:cJ P' b rb:=(t.conn _ _ hb).mono h1;rcases hM with⟨rfl,rfl⟩|⟨rfl,rfl⟩
  ·exact .trans (.symm c1) (.trans (.one h3) c2)
  ·exact .trans (.symm c2) (.trans (.symm (.one h3)) c1)
 have rt:∀{y r:Nat},bA ps y r->bA (ps.set M m) y (if r=M then m else r):=fun q=>bA.link sM sm hle q;refine⟨by rw[LI];exact t.len,t.forest.set hle,fun x r q=>?_,fun x y q=>?_⟩
 ·obtain⟨r',h⟩:=t.forest.root x (by have:=q.lt;rw[LI]at this;exact this)
  rw[q.inj (rt h)];have c:cJ P' x r':=(t.conn _ _ h).mono h1
  split
  ·rename_i e
   rw[e]at c;exact .trans c cMm
  ·exact c
 ·rcases h2 x y q with q|⟨rfl,rfl⟩
  ·obtain⟨r,q1,q2⟩:=t.same x y q
   exact⟨_,rt q1,rt q2⟩
  ·refine⟨m,?_,?_⟩
   ·have:=rt ha
    rcases hM with⟨e1,e2⟩|⟨e1,e2⟩
    ·rw[if_pos e1.symm]at this;exact this
    ·by_cases z:ra=M
     ·rw[if_pos z]at this;exact this
     ·rw[if_neg z,<-e2]at this;exact this
   ·have:=rt hb
    rcases hM with⟨e1,e2⟩|⟨e1,e2⟩
    ·by_cases z:rb=M
     ·rw[if_pos z]at this;exact this
     ·rw[if_neg z,<-e2]at this;exact this
    ·rw[if_pos e1.symm]at this;exact this
end KF
end
namespace L2
open PySem PyProof.Rows
section
variable{K:Fg}{vs:List V}{H:Hp}{Q:VK}{E:XK}
open KF
section
variable{g:CF TG}{tt:CF TT}{te:CF TE}{σ₀:St}{Q:VK}{H:Hp}{K:Fg}
theorem C3{j:Int}(n:Nat)(hn:j.toNat=n)(hj:j<=1000000)(hj0:-1000000<=j)(R:Addr->Nat->List V->Hp->Prop)(h0:∀p H',H p=none->am H H'->H' p=some (.lst [])->R p 0 [] H')
  (hp:∀p i acc H',R p i acc H'->H' p=some (.lst acc)/\acc.length<=i)
  (hs:∀p,H p=none->∀C s' H' fp,∀i acc H2,i<n->R p i acc H2->g C s' H' fp (.int i) σ₀ H2 fun σ2 H3=>tt C s' H' fp σ2 H3 fun b H4=>if b=true then te C s' H' fp σ2 H4 fun y H5=>H5 p=some (.lst acc)/\R p (i+1) (acc++[y]) (upd H5 p (.lst (acc++[y])))else R p (i+1) acc H4)
  (hd:∀p acc H2,H p=none->R p n acc H2->Q (.ref p) H2):
  ∃j':Int,[V.int j]=[.int j']/\-(2^62)<=j'/\j'<2^62/\∀p,H p=none->∃W:Nat->Nat->List V->Hp->Prop,(∃m,W 0 m [] (upd H p (.lst [])))/\∀C s' H' fp,bE (Itr 0 j'.toNat) (g C s' H' fp) (tt C s' H' fp) (te C s' H' fp) σ₀ p Q W:=by
 refine⟨j,rfl,by omega,by omega,fun p hpn=>?_⟩;subst hn;exact np (lo:=0) (R p) (h0 p _ hpn (bc hpn _) az) (fun i acc H2 _ c=>hp p i acc H2 c) (by rw[JJ];omega) (fun C s' H' fp i acc H2 hi c=>by rw[PD];exact hs p hpn C s' H' fp i acc H2 hi c) fun acc H2 c=>hd p acc H2 hpn c
end
theorem vc{n j:Nat}(h:j<n):ixN n (j:Int)=some j:=by unfold ixN;rw[if_pos (by omega),if_pos (by omega)];simp
theorem A3(n:Nat):(JT n).map (fun(i:Nat)=>V.int ((i:Nat):Int))=ar (JT n):=rfl
noncomputable def j7(_:Fg):Sp:=fun vs H Q _=>∃(p:Addr)(ps:List Nat)(x r:Nat),vs=[.ref p,.int (x:Int)]/\H p=some (.lst (ar ps))/\dP ps/\bA ps x r/\
 ∀H' ps',Off p H H'->H' p=some (.lst (ar ps'))->ps'.length=ps.length->dP ps'->(∀y s,bA ps y s->bA ps' y s)->Q (.int (r:Int)) H'
noncomputable def nJ(K:Fg):TS:=(ao (aA (aa 1) (ag 2))
 (ao (im (aU (tOp rNe (tOp (bT K) (aa 0) (aa 2)) (aa 2))) (ao (aA (tOp (bT K) (aa 0) (tOp (bT K) (aa 0) (aa 2))) (kW (aa 0) (aa 2) lM))
 (aA (tOp (bT K) (aa 0) (aa 2)) (ag 2))))
 (aI (aa 2))))
theorem EF{p:Addr}{H:Hp}:Off p H H:=fun _ _=>rfl
theorem o0{p:Addr}{H H1 H2:Hp}(a:Off p H H1)(b:Off p H1 H2):Off p H H2:=fun c hc=>(b c hc).trans (a c hc)
theorem C4(h:j7 K vs H Q E):nJ K { nx:=fun _ H'=>Q .non H',rt:=Q } (start ["points","thing","end"] vs) H:=by
 obtain⟨p,ps,x,r,rfl,e,hf,hr,q⟩:=h;show nJ K _ [some _,some _,none] _;unfold nJ;right;refine pV (fun m σ H1=>∃(ps':List Nat),σ=[some (.ref p),some (.int (x:Int)),some (.int (m:Int))]/\Off p H H1/\H1 p=some (.lst (ar ps'))/\ps'.length=ps.length/\dP ps'/\(∀y s,bA ps y s->bA ps' y s)/\bA ps' m r) x ⟨ps,rfl,EF,e,rfl,hf,fun _ _ h=>h,hr⟩ ?_;rintro m σ H1 ⟨ps',rfl,o1,e1,hl,hf1,hk,hr1⟩;have hm:=hr1.lt;obtain⟨y,hy⟩:∃y,ps'[m]?=some y:=⟨_,JD hm⟩;right;refine bz (SqL.of e1) (g9 hy) ?_;right;refine rh (fun c=>?_) (fun c=>?_)
 ·have hym:y<m:=by have:=hf1 m y hy;omega
  obtain⟨g,hg⟩:∃g,ps'[y]?=some g:=⟨_,JD (by omega)⟩;have hgy:=hf1 y g hg;refine pU ?_;right;refine bz (SqL.of e1) (g9 hy) ?_;right;refine bz (SqL.of e1) (g9 hg) ?_;right;refine oU e1 (vc (by rw[be];exact hm)) ?_;rw[rA];right;refine bz (SqL.of az) (g9 (z:=g) (j5 hm)) ?_;right;refine⟨g,by omega,ps'.set m g,rfl,o0 o1 fO,az,by rw[LI];exact hl,hf1.set (by omega),fun a s h=>bA.halve hf1 hy hg (hk a s h),?_⟩;have:=bA.halve hf1 hy hg hr1;cases this with
  |stop h=>
   rw[j5 hm]at h;cases h;omega
  |step h _ t=>
   rw[j5 hm]at h;cases h;exact t
 ·have:y=m:=by omega
  subst this;right;have er:y=r:=(bA.stop hy).inj hr1;rw[er];exact q H1 ps' o1 e1 hl hf1 hk
noncomputable def vd(_:Fg):Sp:=fun vs H Q _=>∃(p:Addr)(ps:List Nat)(n:Nat)(P P':Nat->Nat->Prop)(a b:Nat),vs=[.ref p,.int (a:Int),.int (b:Int)]/\H p=some (.lst (ar ps))/\cX n P ps/\a<n/\b<n/\
 (∀x y,P x y->P' x y)/\(∀x y,P' x y->P x y\/(x=a/\y=b))/\P' a b/\∀H' ps',Off p H H'->H' p=some (.lst (ar ps'))->cX n P' ps'->Q .non H'
noncomputable def sR(K:Fg):TS:=(ao (aA (ap (j7 K) [] E0 (ab (aa 0) (ab (aa 1) af))) (ag 3))
 (ao (aA (ap (j7 K) [] E0 (ab (aa 0) (ab (aa 2) af))) (ag 4))
 (aA (tCB AQ (ab (aa 3) (ab (aa 4) af))) (kW (aa 0) (tCB FH (ab (aa 3) (ab (aa 4) af))) lM))))
theorem GB(h:vd K vs H Q E):sR K { nx:=fun _ H'=>Q .non H',rt:=Q } (start ["points","one","other","first","second"] vs) H:=by
 obtain⟨p,ps,n,P,P',a,b,rfl,e,ht,ha,hb,h1,h2,h3,q⟩:=h;show sR K _ [some _,some _,some _,none,none] _;unfold sR;obtain⟨ra,hra⟩:=ht.forest.root a (by rw[ht.len];exact ha);right;refine⟨p,ps,a,ra,rfl,e,ht.forest,hra,fun H1 ps1 o1 e1 l1 f1 k1=>?_⟩;have ht1:=ht.moved f1 (by rw[l1];exact ht.len) k1;obtain⟨rb,hrb⟩:=ht1.forest.root b (by rw[ht1.len];exact hb);right;refine⟨p,ps1,b,rb,rfl,e1,f1,hrb,fun H2 ps2 o2 e2 l2 f2 k2=>?_⟩;have ht2:=ht1.moved f2 (by rw[l2];exact ht1.len) k2;have hra2:=k2 _ _ (k1 _ _ hra);have hrb2:=k2 _ _ hrb;right;have la:=hra2.le;have lb:=hrb2.le;obtain⟨M,m,hM,hm,hd,hle⟩:∃M m:Nat,(if(rb:Int)>(ra:Int)then(rb:Int)else(ra:Int))=(M:Int)/\(if(rb:Int)<(ra:Int)then(rb:Int)else(ra:Int))=(m:Int)/\((M=ra/\m=rb)\/(M=rb/\m=ra))/\m<=M:=by
  by_cases c:rb<ra
  ·exact⟨ra,rb,by rw[if_neg (by omega)],by rw[if_pos (by omega)],.inl ⟨rfl,rfl⟩,by omega⟩
  ·by_cases d:ra<rb
   ·exact⟨rb,ra,by rw[if_pos (by omega)],by rw[if_neg (by omega)],.inr ⟨rfl,rfl⟩,by omega⟩
   ·exact⟨ra,ra,by rw[if_neg (by omega)],by rw[if_neg (by omega)],.inr ⟨by omega,rfl⟩,JF _⟩
 rw[hm,hM];have hMl:M<ps2.length:=by
  rw[ht2.len];rcases hd with⟨rfl,_⟩|⟨rfl,_⟩<;>omega
 refine oU e2 (vc (by rw[be];exact hMl)) ?_;rw[rA];exact q _ _ (o0 (o0 o1 o2) fO) az (ht2.link hra2 hrb2 hd hle h1 h2 h3)
noncomputable def bF(H:Hp)(a:Addr)(vs:List (List Nat)):Prop:=∃rs:List Addr,H a=some (.lst (rs.map V.ref))/\Paired (fun(r:Addr)(v:List Nat)=>H r=some (.lst (ar v))) rs vs
theorem bF.same{H H':Hp}{a:Addr}{vs:List (List Nat)}(h:bF H a vs)(s:am H H'):bF H' a vs:=by
 obtain⟨rs,e,r⟩:=h;exact⟨rs,s _ _ e,Paired.mapP r fun _ _ q=>s _ _ q⟩
noncomputable def Within(n:Nat)(v:List Nat):Prop:=v.length=n/\∀x∈v,x<n
theorem jq{rs:List Addr}{i:Nat}{x:V}(hx:(rs.map V.ref)[i]?=some x):∃a,rs[i]?=some a/\x=.ref a:=by
 rw[JS]at hx;cases e:rs[i]? with
 |none=>rw[e]at hx;cases hx
 |some z=>rw[e]at hx;exact⟨z,rfl,(JR hx).symm⟩
noncomputable def pc(_:Fg):Sp:=fun vs H Q _=>∃(n:Nat)(a:Addr)(ws:List (List Nat)),vs=[.int (n:Int),.ref a]/\bF H a ws/\(∀v∈ws,Within n v)/\n<=100000/\
 ∀r p H',j6 n (gK n ws) r->H p=none->am H H'->H' p=some (.lst (ar r))->Q (.ref p) H'
noncomputable def nK(K:Fg):TS:=(ao (aA (FO (ab (aa 0) af)) (ag 2))
 (ao (cQ (ca K (aa 1)) (ag 3) (cQ (jy aV K (ab (aa 3) af)) (cM K 2 (aZ (ag 4) (aZ (ag 5) cL))) (cE (ap (vd K) [] E0 (ab (aa 2) (ab (aa 4) (ab (aa 5) af)))))))
 (aI (bo (cZ (ab (aa 0) af)) (fun _ _ _ _=>(ag 0)) (fun _ _ _ _=>aS) (fun _ _ _ _=>(ap (j7 K) [] E0 (ab (aa 1) (ab (aa 0) af)))) [none,some 2]))))
theorem A4{n:Nat}{ws:List (List Nat)}{i:Nat}{v:List Nat}(hv:ws[i]?=some v){x y:Nat}:gK n (ws.take (i+1)) x y↔gK n (ws.take i) x y\/(x<n/\v[x]?=some y):=by
 unfold gK;rw[bP hv];constructor
 ·rintro⟨w,hw,h1,h2⟩
  rcases Ka.mp hw with hw|hw
  ·exact .inl ⟨w,hw,h1,h2⟩
  ·rw[JE.mp hw]at h2;exact .inr ⟨h1,h2⟩
 ·rintro(⟨w,hw,h1,h2⟩|⟨h1,h2⟩)
  ·exact⟨w,Li _ hw,h1,h2⟩
  ·exact⟨v,Kh _ (JE.mpr rfl),h1,h2⟩
theorem _root_.KF.cX.congr{n:Nat}{P P':Nat->Nat->Prop}{ps:List Nat}(t:cX n P ps)(h:∀x y,P x y↔P' x y):cX n P' ps:=by
 have e:P=P':=by funext x y;exact propext (h x y)
 rw[<-e];exact t
theorem C5(h:pc K vs H Q E):nK K { nx:=fun _ H'=>Q .non H',rt:=Q } (start ["many","views","points","view","thing","least"] vs) H:=by
 obtain⟨n,a,ws,rfl,hV,hw,hn,q⟩:=h;show nK K _ [some _,some _,none,none,none,none] _;unfold nK;obtain⟨rs,ea,hr⟩:=id hV;have hlr:rs.length=ws.length:=Kf hr;right;refine Ik ?_;right;refine⟨n,rfl,by omega,I0 (by omega) fun p H1 hp s1 e1=>?_⟩;rw[A3]at e1;right;refine mR (rs.map V.ref) (SqL.of (s1 _ _ ea)) (fun i σ H2=>∃(u1 u2 u3:Option V)(ps:List Nat),σ=[some (.int (n:Int)),some (.ref a),some (.ref p),u1,u2,u3]/\am H H2/\H2 p=some (.lst (ar ps))/\cX n (gK n (ws.take i)) ps) ?_ ?_ ?_ ?_
 ·refine⟨_,_,_,_,rfl,s1,e1,(cX.start n).congr fun x y=>⟨fun h=>h.elim,fun⟨w,hw,_⟩=>by simp at hw⟩⟩
 ·rintro i σ H2 hi ⟨u1,u2,u3,ps,rfl,s2,e2,t2⟩
  exact SqL.of (s2 _ _ ea)
 ·rintro i x σ H2 hx ⟨u1,u2,u3,ps,rfl,s2,e2,t2⟩
  obtain⟨b,hb,rfl⟩:=jq hx;obtain⟨v,hv,ev⟩:=bG hr hb;obtain⟨hvl,hvx⟩:=hw v (JK hv);right;refine mS (S:=aV) (ar v) (SqL.of (s2 _ _ ev)) (fun j σ H3=>∃(u2 u3:Option V)(ps:List Nat),σ=[some (.int (n:Int)),some (.ref a),some (.ref p),some (.ref b),u2,u3]/\am H H3/\H3 p=some (.lst (ar ps))/\cX n (fun x y=>gK n (ws.take i) x y\/(x<j/\v[x]?=some y)) ps) ?_ ?_ ?_ ?_
  ·exact⟨_,_,ps,rfl,s2,e2,t2.congr fun x y=>⟨.inl,fun h=>h.elim (fun h=>h) fun h=>absurd h.1 (by omega)⟩⟩
  ·rintro j σ H3 hj ⟨u2,u3,ps,rfl,s3,e3,t3⟩
   exact SqL.of (s3 _ _ ev)
  ·rintro j x T σ H3 H4 hx ⟨u2,u3,ps,rfl,s3,e3,t3⟩ hT s4 eT
   obtain⟨z,hz,rfl⟩:=ek hx;have hjl:j<v.length:=(JG.mp hz).1;refine dh (SqT.of eT) ?_;right;refine⟨p,ps,n,_,(fun x y=>gK n (ws.take i) x y\/(x<j+1/\v[x]?=some y)),j,z,rfl,s4 _ _ e3,t3,by omega,hvx z (JK hz),?_,?_,.inr ⟨by omega,hz⟩,fun H5 ps5 o5 e5 t5=>?_⟩
   ·rintro x y (h|h)
    ·exact .inl h
    ·exact .inr ⟨by omega,h.2⟩
   ·rintro x y (h|⟨h1,h2⟩)
    ·exact .inl (.inl h)
    ·by_cases c:x=j
     ·subst c
      rw[hz]at h2;cases h2;exact .inr ⟨rfl,rfl⟩
     ·exact .inl (.inr ⟨by omega,h2⟩)
   ·exact⟨_,_,ps5,rfl,(s3.trans s4).off hp o5,e5,t5⟩
  ·rintro σ H3 ⟨u2,u3,ps,rfl,s3,e3,t3⟩
   rw[be]at t3;exact⟨_,_,_,ps,rfl,s3,e3,t3.congr fun x y=>by rw[A4 hv,hvl]⟩
 ·rintro σ H2 ⟨u1,u2,u3,ps,rfl,s2,e2,t2⟩
  rw[JB,hlr,Ki]at t2;right;refine C3 n (by omega) (by omega) (by omega) (fun l i acc H3=>∃(ps' rr:List Nat),acc=ar rr/\rr.length=i/\H3 l=some (.lst acc)/\l≠p/\H l=none/\am H H3/\H3 p=some (.lst (ar ps'))/\cX n (gK n ws) ps'/\(∀y s,bA ps y s->bA ps' y s)/\∀k x:Nat,rr[k]?=some x->bA ps k x) ?_ ?_ ?_ ?_
  ·intro l H3 hl s3 e3
   exact⟨ps,[],rfl,rfl,e3,(aY e2 hl).symm,s2.free hl,s2.trans s3,s3 _ _ e2,t2,fun _ _ h=>h,fun k x h=>by simp at h⟩
  ·rintro l i acc H3 ⟨ps',rr,rfl,hl,e3,_⟩
   exact⟨e3,by rw[be];omega⟩
  ·rintro l hl C s' H' fp i acc H3 hi ⟨ps',rr,rfl,hlr',e3,nl,hlH,s3,ep3,t3,k3,g3⟩
   obtain⟨r,hr⟩:=t2.forest.root i (by rw[t2.len];exact hi);right;refine⟨p,ps',i,r,rfl,ep3,t3.forest,k3 _ _ hr,fun H4 ps4 o4 e4 l4 f4 k4=>?_⟩;refine⟨by rw[o4 l nl];exact e3,ps4,rr++[r],fw rr r,by simp[hlr'],az,nl,hlH,(s3.off hp o4).off hlH fO,by rw[aR nl.symm];exact e4,t3.moved f4 (by rw[l4];exact t3.len) k4,fun y s h=>k4 _ _ (k3 _ _ h),fun k x h=>?_⟩;rw[List.getElem?_append]at h;by_cases c:k<rr.length
   ·rw[if_pos c]at h
    exact g3 k x h
   ·rw[if_neg c]at h
    have hk:k=i:=by
     by_cases d:k-rr.length=0
     ·omega
     ·rw[J5 (by simp;omega)]at h;cases h
    subst hk;rw[<-hlr',Ot]at h;cases h;exact hr
  ·rintro l acc H3 hl ⟨ps',rr,rfl,hlr',e3,nl,hlH,s3,ep3,t3,k3,g3⟩
   exact q rr l H3 (t2.join hlr' g3) hlH s3 e3
end
section
variable{g:CF TG}{tt:CF TT}{te:CF TE}{σ₀:St}{Q:VK}{H:Hp}{K:Fg}
end
theorem lp{H:Hp}{a:Addr}{fs:List (List Nat)}(h:bF H a fs):∃rs:List Addr,H a=some (.lst (rs.map V.ref))/\rs.length=fs.length/\∀(i:Nat)(r:Addr),rs[i]?=some r->∃v,fs[i]?=some v/\H r=some (.lst (ar v)):=by
 obtain⟨rs,e,p⟩:=h;exact⟨rs,e,Kf p,fun i r hr=>bG p hr⟩
end L2
section
namespace L2
open PySem PyProof.Rows
set_option genInjectivity false in
inductive Sy where
 |holds (w c:Nat)|sees (h:Nat)|not (s:Sy)|and (s t:Sy)|or (s t:Sy)|knows (h:Nat) (s:Sy)|all (g:List Nat) (s:Sy)|common (g:List Nat) (s:Sy)
namespace Sy
noncomputable def words:Sy->Nat
 | .holds _ _=>1 | .sees _=>1 | .not s=>s.words+1 | .and s t=>s.words+t.words+1 | .or s t=>s.words+t.words+1 | .knows _ s=>s.words+1 | .all _ s=>s.words+1 | .common _ s=>s.words+1
noncomputable def subs:Sy->List Sy
 | .holds _ _=>[] | .sees _=>[] | .not s=>[s] | .and s t=>[s,t] | .or s t=>[s,t] | .knows _ s=>[s] | .all _ s=>[s] | .common _ s=>[s]
noncomputable def word:Sy->Str
 | .holds _ _=>"holds" | .sees _=>"sees" | .not _=>"not" | .and _ _=>"and" | .or _ _=>"or" | .knows _ _=>"knows" | .all _ _=>"all" | .common _ _=>"common"
noncomputable def form:Sy->List Str
 | .holds _ _=>["holder","card"] | .sees _=>["hand"] | .not _=>["saying"] | .and _ _=>["saying","saying"] | .or _ _=>["saying","saying"] | .knows _ _=>["hand","saying"] | .all _ _=>["hands","saying"] | .common _ _=>["hands","saying"]
noncomputable def plain:Sy->Bool
 | .holds _ _=>true | .not _=>true | .and _ _=>true | .or _ _=>true|_=>false
noncomputable def Ok(cards hands:Nat):Sy->Prop
 | .holds w c=>w<=hands/\c<cards | .sees h=>h<hands | .not s=>s.Ok cards hands | .and s t=>s.Ok cards hands/\t.Ok cards hands | .or s t=>s.Ok cards hands/\t.Ok cards hands
 | .knows h s=>h<hands/\s.Ok cards hands | .all g s=>(g.Pairwise (· < ·)/\∀k∈g,k<hands)/\s.Ok cards hands | .common g s=>(g.Pairwise (· < ·)/\∀k∈g,k<hands)/\s.Ok cards hands
theorem words_pos(s:Sy):1<=s.words:=by cases s<;>simp[words]
theorem words_subs(s:Sy):s.words=1+(s.subs.map words).sum:=by cases s<;>simp[words,subs]<;>omega
theorem sub_words{s t:Sy}(h:t∈s.subs):t.words+1<=s.words:=by
 rw[words_subs s];have:=iD (QY (f:=words) h);omega
end Sy
noncomputable def aN(H:Hp):V->Sy->Prop
 |v,.holds w c=>∃a,v=.ref a/\H a=some (.tup [.str "holds",.int w,.int c])
 |v,.sees h=>∃a,v=.ref a/\H a=some (.tup [.str "sees",.int h])
 |v,.not s=>∃a x,v=.ref a/\H a=some (.tup [.str "not",x])/\aN H x s
 |v,.and s t=>∃a x y,v=.ref a/\H a=some (.tup [.str "and",x,y])/\aN H x s/\aN H y t
 |v,.or s t=>∃a x y,v=.ref a/\H a=some (.tup [.str "or",x,y])/\aN H x s/\aN H y t
 |v,.knows h s=>∃a x,v=.ref a/\H a=some (.tup [.str "knows",.int h,x])/\aN H x s
 |v,.all g s=>∃a b x,v=.ref a/\H a=some (.tup [.str "all",.ref b,x])/\H b=some (.tup (ar g))/\aN H x s
 |v,.common g s=>∃a b x,v=.ref a/\H a=some (.tup [.str "common",.ref b,x])/\H b=some (.tup (ar g))/\aN H x s
theorem aN.keep{H H':Hp}(k:cS H H'):∀{s:Sy} {v:V},aN H v s->aN H' v s
 | .holds _ _,_,⟨a,e,h⟩=>⟨a,e,k _ _ h⟩
 | .sees _,_,⟨a,e,h⟩=>⟨a,e,k _ _ h⟩
 | .not _,_,⟨a,x,e,h,r⟩=>⟨a,x,e,k _ _ h,aN.keep k r⟩
 | .and _ _,_,⟨a,x,y,e,h,r,q⟩=>⟨a,x,y,e,k _ _ h,aN.keep k r,aN.keep k q⟩
 | .or _ _,_,⟨a,x,y,e,h,r,q⟩=>⟨a,x,y,e,k _ _ h,aN.keep k r,aN.keep k q⟩
 | .knows _ _,_,⟨a,x,e,h,r⟩=>⟨a,x,e,k _ _ h,aN.keep k r⟩
 | .all _ _,_,⟨a,b,x,e,h,i,r⟩=>⟨a,b,x,e,k _ _ h,k _ _ i,aN.keep k r⟩
 | .common _ _,_,⟨a,b,x,e,h,i,r⟩=>⟨a,b,x,e,k _ _ h,k _ _ i,aN.keep k r⟩
noncomputable def hJ(form:List Str)(items:List V):List V:=((form.zip items).filter fun p=>decide (p.1=("saying":Str))).map (·.2)
noncomputable def fR(H:Hp)(xs:List V)(ss:List Sy):Prop:=Paired (aN H) xs ss
theorem fR.keep{H H':Hp}(k:cS H H'){xs:List V}{ss:List Sy}(h:fR H xs ss):fR H' xs ss:=Paired.mapP h fun _ _ r=>r.keep k
theorem ns1:decide (("holder":Str)="saying")=false:=by decide+kernel
theorem ns2:decide (("card":Str)="saying")=false:=by decide+kernel
theorem ns3:decide (("hand":Str)="saying")=false:=by decide+kernel
theorem ns4:decide (("hands":Str)="saying")=false:=by decide+kernel
theorem GC{H:Hp}{v:V}{s:Sy}(h:aN H v s):∃a items,v=.ref a/\H a=some (.tup (.str s.word::items))/\items.length=s.form.length/\fR H (hJ s.form items) s.subs:=by
 cases s with
 |holds w c=>obtain⟨a,e,h⟩:=h;exact⟨a,_,e,h,rfl,by simp only[hJ,Sy.form,Ln,LY,LU,ns1,ns2];exact .nil⟩
 |sees w=>obtain⟨a,e,h⟩:=h;exact⟨a,_,e,h,rfl,by simp only[hJ,Sy.form,Ln,LY,LU,ns3];exact .nil⟩
 |not s=>obtain⟨a,x,e,h,r⟩:=h;exact⟨a,_,e,h,rfl,by simp only[hJ,Sy.form,Ln,LY,LU,decide_true];exact .cons r .nil⟩
 |and s t=>obtain⟨a,x,y,e,h,r,q⟩:=h;exact⟨a,_,e,h,rfl,by simp only[hJ,Sy.form,Ln,LY,LU,decide_true];exact .cons r (.cons q .nil)⟩
 |or s t=>obtain⟨a,x,y,e,h,r,q⟩:=h;exact⟨a,_,e,h,rfl,by simp only[hJ,Sy.form,Ln,LY,LU,decide_true];exact .cons r (.cons q .nil)⟩
 |knows w s=>obtain⟨a,x,e,h,r⟩:=h;exact⟨a,_,e,h,rfl,by simp only[hJ,Sy.form,Ln,LY,LU,decide_true,ns3];exact .cons r .nil⟩
 |all g s=>obtain⟨a,b,x,e,h,i,r⟩:=h;exact⟨a,_,e,h,rfl,by simp only[hJ,Sy.form,Ln,LY,LU,decide_true,ns4];exact .cons r .nil⟩
 |common g s=>obtain⟨a,b,x,e,h,i,r⟩:=h;exact⟨a,_,e,h,rfl,by simp only[hJ,Sy.form,Ln,LY,LU,decide_true,ns4];exact .cons r .nil⟩
set_option genInjectivity false in
structure Glo where
 forms:Addr
 cw:Addr
 f1:Addr
 f2:Addr
 f3:Addr
 f4:Addr
 f5:Addr
 f6:Addr
 f7:Addr
 f8:Addr
noncomputable def Glo.kvs(G:Glo):List (Str×V):=[("holds",.ref G.f1),("not",.ref G.f2),("and",.ref G.f3),("or",.ref G.f4),("knows",.ref G.f5),("all",.ref G.f6),("common",.ref G.f7),("sees",.ref G.f8)]
structure sS(K:Fg)(G:Glo):Prop where
 t1:km K G.f1 [.str "holder",.str "card"]
 t2:km K G.f2 [.str "saying"]
 t3:km K G.f3 [.str "saying",.str "saying"]
 t4:km K G.f4 [.str "saying",.str "saying"]
 t5:km K G.f5 [.str "hand",.str "saying"]
 t6:km K G.f6 [.str "hands",.str "saying"]
 t7:km K G.f7 [.str "hands",.str "saying"]
 t8:km K G.f8 [.str "hand"]
theorem sS.form{K:Fg}{G:Glo}(g:sS K G)(s:Sy):∃f,G.kvs.lookup s.word=some (.ref f)/\km K f (s.form.map V.str):=by
 cases s with
 |holds w c=>exact⟨G.f1,rfl,g.t1⟩
 |sees w=>exact⟨G.f8,rfl,g.t8⟩
 |not s=>exact⟨G.f2,rfl,g.t2⟩
 |and s t=>exact⟨G.f3,rfl,g.t3⟩
 |or s t=>exact⟨G.f4,rfl,g.t4⟩
 |knows w s=>exact⟨G.f5,rfl,g.t5⟩
 |all g' s=>exact⟨G.f6,rfl,g.t6⟩
 |common g' s=>exact⟨G.f7,rfl,g.t7⟩
theorem kT(x:V)(xs:List V):atI (x::xs) 0=some x:=by
 have:atI (x::xs) ((0:Nat):Int)=some x:=b8 rfl;exact this
theorem C6(form:List Str)(items:List V)(i:Nat)(f:Str)(x:V)(hf:form[i]?=some f)(hx:items[i]?=some x):hJ (form.take (i+1)) (items.take (i+1))=hJ (form.take i) (items.take i)++(if f="saying" then[x]else[]):=by
 unfold hJ;have e:(form.take (i+1)).zip (items.take (i+1))=(form.take i).zip (items.take i)++[(f,x)]:=by
  rw[Ls,Ls,hf,hx];rw[List.zip_append (by
   have h1:=(JG.mp hf).1;have h2:=(JG.mp hx).1;rw[Ly,Ly];omega)]
  rfl
 rw[e,ND,JY]
 congr 1
 by_cases h:f="saying"
 ·rw[if_pos h,KQ (by simpa using h)]
  rfl
 ·rw[if_neg h,K6 (by simpa using h)]
  rfl
theorem EG(form:List Str)(items:List V):(hJ form items).length<=form.length:=by
 unfold hJ;rw[JB];refine Kc (Oc _ _) ?_;rw[M5];omega
theorem Sy.form_len(s:Sy):s.form.length<=2:=by cases s<;>simp[Sy.form]
theorem lW{H:Hp}{xs:List V}{ss:List Sy}{i:Nat}{x:V}(h:fR H xs ss)(e:xs[i]?=some x):∃s,ss[i]?=some s/\aN H x s:=kH h e
theorem fz{H:Hp}{xs:List V}{ss:List Sy}(h:fR H xs ss):xs.length=ss.length:=by
 induction h with
 |nil=>rfl
 |cons _ _ ih=>rw[Kd,Kd,ih]
end L2
end
section
namespace L2
open PySem
noncomputable def Io(t1 t2:String):Bool:=t1==t2||(t1=="bool"&&t2=="int")
noncomputable def C7:List String:=["NoneType","bool","int","str","tuple","list","dict"]
noncomputable def Ae:List String:=["bool","int","str","tuple","list"]
theorem yd(K:Fg)(t:String):Ku K (.type t) (.type t)=some true:=by unfold Ku;rw[if_pos (beq_self_eq_true _)]
theorem Ip{K:Fg}{t1 t2:String}{b:Bool}(h:(if(K9 t1==K9 t2)=true then some true else if PZ t2=true then(Qn t1).map (·.contains (.type t2))else none)=some b):Ku K (.type t1) (.type t2)=some b:=h
theorem Af(K:Fg):∀t1∈C7,∀t2∈Ae,Ku K (.type t1) (.type t2)=some (Io t1 t2):=by
 have go:∀t1∈C7,∀t2∈Ae,(if(K9 t1==K9 t2)=true then some true else if PZ t2=true then(Qn t1).map (·.contains (.type t2))else none)=some (Io t1 t2):=by decide+kernel
 exact fun t1 h1 t2 h2=>Ip (go t1 h1 t2 h2)
end L2
end
namespace L2
open PySem PyProof.Rows
section
variable{K:Fg}{vs:List V}{H:Hp}{Q:VK}{E:XK}
open KF
open Classical in
noncomputable def blV(n:Nat)(P:Nat->Prop):List V:=(JT n).map fun i=>V.bl (decide (P i))
theorem cdf{p:Prop}(h:¬p):false=@decide p (KG p):=(@decide_eq_false p (KG p) h).symm
theorem cdt{p:Prop}(h:p):true=@decide p (KG p):=(@decide_eq_true p (KG p) h).symm
theorem cde{p q:Prop}[i:Decidable p](h:p↔q):decide p=@decide q (KG q):=@decide_eq_decide p q i (KG q) |>.mpr h
section
open Classical
variable{n i:Nat}{P P':Nat->Prop}
theorem bq(n:Nat)(P:Nat->Prop):(blV n P).length=n:=by unfold blV;simp
theorem kU(h:i<n):(blV n P)[i]?=some (.bl (decide (P i))):=by unfold blV;rw[JS,K3 h];rfl
theorem C8(h:i<n):atI (blV n P) (i:Int)=some (.bl (decide (P i))):=b8 (kU h)
theorem dC{x:V}(h:(blV n P)[i]?=some x):i<n/\x=.bl (decide (P i)):=by
 have hi:i<n:=by have:=(JG.mp h).1;rw[bq]at this;exact this
 rw[kU hi]at h;exact⟨hi,(JR h).symm⟩
theorem j8(h:∀i,i<n->(P i↔P' i)):blV n P=blV n P':=by
 unfold blV;refine L7 fun i hi=>?_;rw[show P i=P' i from propext (h i (K1.mp hi))]
theorem ce(n:Nat)(P:Nat->Prop):blV (n+1) P=blV n P++[.bl (decide (P n))]:=by unfold blV;rw[LJ,JY];rfl
theorem GD(h:i<n){b:Bool}(hb:∀j,j<n->j≠i->(P j↔P' j))(hi:b=decide (P' i)):(blV n P).set i (.bl b)=blV n P':=by
 refine Lu fun k=>?_;rw[MF,bq];by_cases e:i=k
 ·subst e
  rw[if_pos rfl,if_pos h,kU h,hi]
 ·rw[if_neg e]
  by_cases hk:k<n
  ·rw[kU hk,kU hk,show P k=P' k from propext (hb k hk (fun z=>e z.symm))]
  ·rw[J5 (by rw[bq];omega),J5 (by rw[bq];omega)]
theorem ye(n:Nat)(h:∀i,P i):(Km n [V.bl true]).flatten=blV n P:=by
 induction n with
 |zero=>rfl
 |succ n ih=>
  rw[ce,<-ih,Nn,List.flatten_append,decide_eq_true (h n)];simp
theorem yf(n:Nat)(P:Nat->Prop):∀x∈blV n P,nH x=true:=fun x hx=>by
 unfold blV at hx;obtain⟨i,_,rfl⟩:=KR.mp hx;rfl
end
noncomputable def p9(_:Fg):Sp:=fun vs H Q _=>∃(a b:Addr)(n:Nat)(P P':Nat->Prop),vs=[.ref a,.ref b]/\H a=some (.lst (blV n P))/\H b=some (.lst (blV n P'))/\n<=100000/\
 ∀p H',H p=none->am H H'->H' p=some (.lst (blV n fun i=>P i/\P' i))->Q (.ref p) H'
noncomputable def sT(K:Fg):TS:=(aI (bo (kl aV aV K (ab (aa 0) (ab (aa 1) af))) (fun _ _ _ _=>(cM K 2 (aZ (ag 0) (aZ (ag 1) cL)))) (fun _ _ _ _=>aS) (fun _ _ _ _=>(fM (aa 0) (aa 1))) [none,none]))
section
open Classical
theorem GG(h:p9 K vs H Q E):sT K { nx:=fun _ H'=>Q .non H',rt:=Q } (start ["ones","others"] vs) H:=by
 obtain⟨a,b,n,P,P',rfl,ea,eb,hn,q⟩:=h;show sT K _ [some _,some _] _;unfold sT;right;refine lc (S1:=aV) (S2:=aV) _ _ (SqL.of ea) (SqL.of eb) (fun H' s=>s.seq (SqL.of ea)) (fun H' s=>s.seq (SqL.of eb)) (by rw[bq];omega) (fun i acc _=>acc=blV i fun i=>P i/\P' i) (fun _ _=>rfl) ?_ ?_
 ·rintro p hp C s' H' fp i x y T acc H2 H3 hx hy ⟨s2,e2,l2,rfl⟩ hT s3 e3 e4
  obtain⟨hi,rfl⟩:=dC hx;obtain⟨_,rfl⟩:=dC hy;right;refine dh (SqT.of e3) ?_;right;by_cases h:P i
  ·rw[decide_eq_true h]
   refine ki ?_;right;refine aW.put hp (fun _ _ _ _ r _=>r) (s2.trans s3) e4 l2 ?_;rw[ce]
   congr 3
   exact decide_eq_decide.mpr ⟨fun q=>⟨h,q⟩,fun q=>q.2⟩
  ·rw[decide_eq_false h]
   refine kh ?_;refine aW.put hp (fun _ _ _ _ r _=>r) (s2.trans s3) e4 l2 ?_;rw[ce]
   congr 3
   exact cdf fun q=>h q.1
 ·rintro p acc H2 hp s2 e2 rfl
  rw[bq,bq,Mu]at e2;exact q _ _ hp s2 e2
end
noncomputable def pi(_:Fg):Sp:=fun vs H Q _=>∃(a b:Addr)(n:Nat)(P P':Nat->Prop),vs=[.ref a,.ref b]/\H a=some (.lst (blV n P))/\H b=some (.lst (blV n P'))/\n<=100000/\
 ∀p H',H p=none->am H H'->H' p=some (.lst (blV n fun i=>P i\/P' i))->Q (.ref p) H'
noncomputable def nL(K:Fg):TS:=(aI (bo (kl aV aV K (ab (aa 0) (ab (aa 1) af))) (fun _ _ _ _=>(cM K 2 (aZ (ag 0) (aZ (ag 1) cL)))) (fun _ _ _ _=>aS) (fun _ _ _ _=>(uP (aa 0) (aa 1))) [none,none]))
section
open Classical
theorem C9(h:pi K vs H Q E):nL K { nx:=fun _ H'=>Q .non H',rt:=Q } (start ["ones","others"] vs) H:=by
 obtain⟨a,b,n,P,P',rfl,ea,eb,hn,q⟩:=h;show nL K _ [some _,some _] _;unfold nL;right;refine lc (S1:=aV) (S2:=aV) _ _ (SqL.of ea) (SqL.of eb) (fun H' s=>s.seq (SqL.of ea)) (fun H' s=>s.seq (SqL.of eb)) (by rw[bq];omega) (fun i acc _=>acc=blV i fun i=>P i\/P' i) (fun _ _=>rfl) ?_ ?_
 ·rintro p hp C s' H' fp i x y T acc H2 H3 hx hy ⟨s2,e2,l2,rfl⟩ hT s3 e3 e4
  obtain⟨hi,rfl⟩:=dC hx;obtain⟨_,rfl⟩:=dC hy;right;refine dh (SqT.of e3) ?_;right;by_cases h:P i
  ·rw[decide_eq_true h]
   refine ki ?_;refine aW.put hp (fun _ _ _ _ r _=>r) (s2.trans s3) e4 l2 ?_;rw[ce]
   congr 3
   exact cdt (.inl h)
  ·rw[decide_eq_false h]
   refine kh ?_;right;refine aW.put hp (fun _ _ _ _ r _=>r) (s2.trans s3) e4 l2 ?_;rw[ce]
   congr 3
   exact decide_eq_decide.mpr ⟨.inr,fun q=>q.resolve_left h⟩
 ·rintro p acc H2 hp s2 e2 rfl
  rw[bq,bq,Mu]at e2;exact q _ _ hp s2 e2
end
noncomputable def KN(n:Nat)(v:List Nat)(P:Nat->Prop)(i:Nat):Prop:=∀j,j<n->v.getD j 0=v.getD i 0->P j
theorem cV{n:Nat}{v:List Nat}(h:Within n v){i:Nat}(hi:i<n):v[i]?=some (v.getD i 0)/\v.getD i 0<n:=by
 have hl:i<v.length:=by rw[h.1];exact hi
 have e:v[i]?=some (v.getD i 0):=by rw[JN,JD hl];rfl
 exact⟨e,h.2 _ (JK e)⟩
noncomputable def jr(_:Fg):Sp:=fun vs H Q _=>∃(a b:Addr)(n:Nat)(v:List Nat)(P:Nat->Prop),vs=[.ref a,.ref b]/\H a=some (.lst (ar v))/\H b=some (.lst (blV n P))/\Within n v/\n<=100000/\
 ∀p H',H p=none->am H H'->H' p=some (.lst (blV n (KN n v P)))->Q (.ref p) H'
noncomputable def qa(K:Fg):TS:=(ao (aA (tOp En (db (ab (tC (.bl true)) af)) (tCB (bY K) (ab (aa 0) af))) (ag 2))
 (ao (cQ (kl aV aV K (ab (aa 0) (ab (aa 1) af))) (cM K 2 (aZ (ag 3) (aZ (ag 4) cL))) (br (dH (tB (aa 4))) (aA (tC (.bl false)) (kW (aa 2) (aa 3) lM)) ba))
 (aI (bo (ca K (aa 0)) (fun _ _ _ _=>(ag 0)) (fun _ _ _ _=>aS) (fun _ _ _ _=>(tOp (bT K) (aa 1) (aa 0))) [none,some 2]))))
section
open Classical
theorem EH(h:jr K vs H Q E):qa K { nx:=fun _ H'=>Q .non H',rt:=Q } (start ["view","truths","sure","least","truth"] vs) H:=by
 obtain⟨a,b,n,v,P,rfl,ea,eb,hv,hn,q⟩:=h;show qa K _ [some _,some _,none,none,none] _;unfold qa;have hvl:=hv.1;right;refine⟨by simp[JJ],fun l H1 hl s1 e1=>?_⟩;right;refine gG (SqL.of (s1 _ _ ea)) ?_;right;rw[be,hvl];refine⟨l,(n:Int),[.bl true],rfl,rfl,e1,by omega,by omega,by rw[JJ];simp;omega,fun p H2 hp s2 e2=>?_⟩;rw[Ng,ye (P:=fun x=>∀j,j<0->v.getD j 0=x->P j) n (fun _ j h=>absurd h (by omega))]at e2;have s02:=s1.trans s2;have hpH:H p=none:=s1.free hp;right;refine Ig (S1:=aV) (S2:=aV) (ar v) (blV n P) (SqL.of (s02 _ _ ea)) (SqL.of (s02 _ _ eb)) (fun i σ H3=>∃(u1 u2:Option V),σ=[some (.ref a),some (.ref b),some (.ref p),u1,u2]/\am H H3/\H3 p=some (.lst (blV n fun x=>∀j,j<i->v.getD j 0=x->P j))) ?_ ?_ ?_ ?_
 ·exact⟨_,_,rfl,s02,e2⟩
 ·rintro i σ H3 ⟨u1,u2,rfl,s3,e3⟩
  exact⟨SqL.of (s3 _ _ ea),SqL.of (s3 _ _ eb)⟩
 ·rintro i x y T σ H3 H4 hx hy ⟨u1,u2,rfl,s3,e3⟩ hT s4 eT
  obtain⟨hi,rfl⟩:=dC hy;obtain⟨z,hz,rfl⟩:=ek hx;obtain⟨hz',hzn⟩:=cV hv hi;rw[hz]at hz';have ez:z=v.getD i 0:=JR hz';refine dh (SqT.of eT) ?_;right;by_cases h:P i
  ·rw[decide_eq_true h]
   right;refine⟨_,_,rfl,s3.trans s4,?_⟩;rw[s4 _ _ e3]
   congr 2
   refine j8 fun x _=>⟨fun f j hj e=>?_,fun f j hj e=>f j (by omega) e⟩;by_cases c:j=i
   ·rw[c];exact h
   ·exact f j (by omega) e
  ·rw[decide_eq_false h]
   right;refine oU (s4 _ _ e3) (vc (by rw[bq,ez];exact hzn)) ?_;refine⟨_,_,rfl,(s3.trans s4).off hpH fO,?_⟩;rw[az]
   congr 2
   refine GD (by rw[ez];exact hzn) (fun x _ hxz=>⟨fun f j hj e=>?_,fun f j hj e=>f j (by omega) e⟩) ?_
   ·by_cases c:j=i
    ·subst c
     exact absurd (e.symm.trans ez.symm) hxz
    ·exact f j (by omega) e
   ·exact cdf fun f=>h (f i (by omega) ez.symm)
 ·rintro σ H3 ⟨u1,u2,rfl,s3,e3⟩
  rw[be,bq,hvl,Mu]at e3;right;refine cK (ar v) (SqL.of (s3 _ _ ea)) (by rw[be];omega) (fun i acc _=>acc=blV i (KN n v P)) (fun _ _=>rfl) ?_ ?_
  ·rintro r hr C s' H' fp i x acc H4 hx ⟨s4,e4,l4,rfl⟩
   obtain⟨z,hz,rfl⟩:=ek hx;have hi:i<n:=by have:=(JG.mp hz).1;omega
   obtain⟨hz',hzn⟩:=cV hv hi;rw[hz]at hz';have ez:z=v.getD i 0:=JR hz';right;refine bz (SqL.of (s4 _ _ e3)) (C8 (by rw[ez];exact hzn)) ?_;refine aW.put hr (fun _ _ _ _ r _=>r) s4 e4 l4 ?_;rw[ce]
   congr 3
   rw[ez];rfl
  ·rintro r acc H4 hr s4 e4 rfl
   rw[be,hvl]at e4;exact q _ _ (s3.free hr) (s3.trans s4) e4
end
noncomputable def iH(_:Fg):Sp:=fun vs H Q _=>∃(a b:Addr)(n:Nat)(ws:List (List Nat))(P:Nat->Prop),vs=[.ref a,.ref b]/\bF H a ws/\H b=some (.lst (blV n P))/\(∀v∈ws,Within n v)/\n<=100000/\
 ∀p H',H p=none->am H H'->H' p=some (.lst (blV n fun i=>∀v∈ws,KN n v P i))->Q (.ref p) H'
noncomputable def fS(K:Fg):TS:=(ao (aA (tOp En (db (ab (tC (.bl true)) af)) (tCB (bY K) (ab (aa 1) af))) (ag 2))
 (ao (cQ (ca K (aa 0)) (ag 3) (aA (ap (p9 K) [] E0 (ab (aa 2) (ab (ap (jr K) [] E0 (ab (aa 3) (ab (aa 1) af))) af))) (ag 2)))
 (aI (aa 2))))
theorem sU(h:iH K vs H Q E):fS K { nx:=fun _ H'=>Q .non H',rt:=Q } (start ["views","truths","answers","view"] vs) H:=by
 obtain⟨a,b,n,ws,P,rfl,hV,eb,hw,hn,q⟩:=h;show fS K _ [some _,some _,none,none] _;unfold fS;obtain⟨rs,ea,hlr,hr⟩:=lp hV;right;refine⟨by simp[JJ],fun l H1 hl s1 e1=>?_⟩;right;refine gG (SqL.of (s1 _ _ eb)) ?_;right;rw[bq];refine⟨l,(n:Int),[.bl true],rfl,rfl,e1,by omega,by omega,by rw[JJ];simp;omega,fun p H2 hp s2 e2=>?_⟩;rw[Ng,ye (P:=fun i=>∀v∈ws.take 0,KN n v P i) n (fun _ v h=>by simp at h)]at e2;have s02:=s1.trans s2;have hpH:H p=none:=s1.free hp;right;refine mR (rs.map V.ref) (SqL.of (s02 _ _ ea)) (fun i σ H3=>∃(u1:Option V)(p:Addr),σ=[some (.ref a),some (.ref b),some (.ref p),u1]/\H p=none/\am H H3/\H3 p=some (.lst (blV n fun k=>∀v∈ws.take i,KN n v P k))) ?_ ?_ ?_ ?_
 ·exact⟨_,p,rfl,hpH,s02,e2⟩
 ·rintro i σ H3 _ ⟨u1,p,rfl,hp,s3,e3⟩
  exact SqL.of (s3 _ _ ea)
 ·rintro i x σ H3 hx ⟨u1,p,rfl,hp,s3,e3⟩
  obtain⟨c,hc,rfl⟩:=jq hx;obtain⟨v,hv,ev⟩:=hr i c hc;right;refine⟨c,b,n,v,P,rfl,s3 _ _ ev,s3 _ _ eb,hw v (JK hv),hn,fun k H4 hk s4 e4=>?_⟩;right;refine⟨p,k,n,_,_,rfl,s4 _ _ e3,e4,hn,fun k2 H5 hk2 s5 e5=>?_⟩;have s35:=s4.trans s5;refine⟨_,k2,rfl,s3.free (s4.free hk2),s3.trans s35,?_⟩;rw[e5]
  congr 2
  refine j8 fun i _=>?_;rw[bP hv];exact⟨fun h w hw=>(Ka.mp hw).elim (h.1 w) fun z=>by rw[JE.mp z];exact h.2,fun h=>⟨fun w hw=>h w (Li _ hw),h v (by simp)⟩⟩
 ·rintro σ H3 ⟨u1,p,rfl,hp,s3,e3⟩
  rw[JB,hlr,Ki]at e3;right;exact q _ _ hp s3 e3
noncomputable def Ag(H:Hp)(a:Addr)(ps:List (List Int)):Prop:=∃rs:List Addr,H a=some (.lst (rs.map V.ref))/\Paired (fun(r:Addr)(xs:List Int)=>H r=some (.tup (xs.map V.int))) rs ps
noncomputable def nN(n:Nat)(ps:List (List Int))(v:List Nat)(j:Nat):Prop:=ps.getD j []=ps.getD (v.getD j 0) []
noncomputable def ve(_:Fg):Sp:=fun vs H Q _=>∃(a b:Addr)(n:Nat)(v:List Nat)(ps:List (List Int)),vs=[.ref a,.ref b]/\Ag H a ps/\ps.length=n/\H b=some (.lst (ar v))/\Within n v/\n<=100000/\
 ∀p H',H p=none->am H H'->H' p=some (.lst (blV n (KN n v (nN n ps v))))->Q (.ref p) H'
theorem lX{H:Hp}{rs:List Addr}{ps:List (List Int)}(h:Paired (fun(r:Addr)(xs:List Int)=>H r=some (.tup (xs.map V.int))) rs ps){i:Nat}(hi:i<ps.length):∃r,rs[i]?=some r/\H r=some (.tup ((ps.getD i []).map V.int)):=by
 have hl:=Kf h;obtain⟨r,hr⟩:∃r,rs[i]?=some r:=⟨_,JD (by omega)⟩;obtain⟨xs,hx,e⟩:=bG h hr;refine⟨r,hr,?_⟩;rw[JN,hx];exact e
noncomputable def sV(K:Fg):TS:=(aI (ap (jr K) [] E0 (ab (aa 1) (ab (bo (kl aV aV K (ab (aa 0) (ab (aa 1) af))) (fun _ _ _ _=>(cM K 2 (aZ (ag 0) (aZ (ag 1) cL)))) (fun _ _ _ _=>aS) (fun _ _ _ _=>(tOp (iw (SqT K) false) (aa 0) (tOp (bT K) (aa 2) (aa 1)))) [none,none,some 0]) af))))
section
open Classical
theorem GH(h:ve K vs H Q E):sV K { nx:=fun _ H'=>Q .non H',rt:=Q } (start ["piles","view"] vs) H:=by
 obtain⟨a,b,n,v,ps,rfl,⟨rs,ea,hr⟩,hpl,eb,hv,hn,q⟩:=h;show sV K _ [some _,some _] _;unfold sV;have hlr:rs.length=ps.length:=Kf hr;have hvl:=hv.1;right;refine lc (S1:=aV) (S2:=aV) (rs.map V.ref) (ar v) (SqL.of ea) (SqL.of eb) (fun H' s=>s.seq (SqL.of ea)) (fun H' s=>s.seq (SqL.of eb)) (by rw[JB];omega) (fun i acc _=>acc=blV i (nN n ps v)) (fun _ _=>rfl) ?_ ?_
 ·rintro p hp C s' H' fp i x y T acc H2 H3 hx hy ⟨s2,e2,l2,rfl⟩ hT s3 e3 e4
  obtain⟨c,hc,rfl⟩:=jq hx;obtain⟨z,hz,rfl⟩:=ek hy;have hi:i<n:=by have:=(JG.mp hz).1;omega
  obtain⟨hz',hzn⟩:=cV hv hi;rw[hz]at hz';have ez:z=v.getD i 0:=JR hz';obtain⟨c',hc',ec⟩:=lX hr (i:=i) (by omega);rw[hc]at hc';cases hc';obtain⟨d,hd,ed⟩:=lX hr (i:=z) (by omega);have s23:=s2.trans s3;right;refine dh (SqT.of e3) ?_;right;refine bz (SqL.of (s23 _ _ ea)) (v:=.ref d) (b8 (by rw[JS,hd];rfl)) ?_;right;refine IV (SqT.of (s23 _ _ ec)) (SqT.of (s23 _ _ ed)) ?_;refine aW.put hp (fun _ _ _ _ r _=>r) s23 e4 l2 ?_;rw[ce]
  congr 3
  rw[ez];exact cde Iff.rfl
 ·rintro p acc H2 hp s2 e2 rfl
  rw[JB,be,hlr,hpl,hvl,Mu]at e2;right;exact⟨b,p,n,v,_,rfl,s2 _ _ eb,e2,hv,hn,fun r H3 hr s3 e3=>q r H3 (s2.free hr) (s2.trans s3) e3⟩
end
end
section
open KF
noncomputable def TR(n:Nat)(ws vs:List (List Nat)):Sy->Nat->Prop
 | .holds w c,i=>(ws.getD i []).getD c 0=w
 | .sees h,i=>KN n (vs.getD h []) (nN n (ws.map fun w=>fc w (vs.length:Nat)) (vs.getD h [])) i
 | .not s,i=>¬TR n ws vs s i
 | .and s t,i=>TR n ws vs s i/\TR n ws vs t i
 | .or s t,i=>TR n ws vs s i\/TR n ws vs t i
 | .knows h s,i=>KN n (vs.getD h []) (TR n ws vs s) i
 | .all g s,i=>∀v∈g.map (fun h=>vs.getD h []),KN n v (TR n ws vs s) i
 | .common g s,i=>∀j,j<n->cJ (gK n (g.map fun h=>vs.getD h [])) i j->TR n ws vs s j
theorem sW{n:Nat}{P:Nat->Nat->Prop}{r:List Nat}(h:j6 n P r){i j:Nat}(hi:i<n)(hj:j<n):r.getD j 0=r.getD i 0↔cJ P i j:=by
 have ei:r[i]?=some (r.getD i 0):=by rw[JN,JD (by rw[h.len];exact hi)];rfl
 have ej:r[j]?=some (r.getD j 0):=by rw[JN,JD (by rw[h.len];exact hj)];rfl
 constructor
 ·intro e
  have c1:=h.conn _ _ ei;have c2:=h.conn _ _ ej;rw[e]at c2;exact .trans c1 (.symm c2)
 ·intro c
  have:=h.same i j hi hj c;rw[ei,ej]at this;exact(JR this).symm
theorem zu{n:Nat}{P:Nat->Nat->Prop}{r:List Nat}(h:j6 n P r):Within n r:=⟨h.len,fun x hx=>by
 obtain⟨i,hi⟩:=Od.mp hx;have:=h.le i x hi;have:=(JG.mp hi).1;rw[h.len]at this;omega⟩
theorem GI{n:Nat}{P:Nat->Nat->Prop}{r:List Nat}(h:j6 n P r){F:Nat->Prop}{i:Nat}(hi:i<n):KN n r F i↔∀j,j<n->cJ P i j->F j:=
 ⟨fun k j hj c=>k j hj ((sW h hi hj).mpr c),fun k j hj e=>k j hj ((sW h hi hj).mp e)⟩
theorem sX:∀{g:List Nat} {m:Nat},g.Pairwise (· < ·)->(∀k∈g,k<m)->g.length<=m:=by
 intro g m hp hk;have go:∀(l:List Nat)(lo:Nat),l.Pairwise (· < ·)->(∀k∈l,lo<=k/\k<m)->l.length+lo<=m\/l=[]:=by
  intro l
  induction l with
  |nil=>intro _ _ _;exact .inr rfl
  |cons x r ih=>
   intro lo hp hk;obtain⟨h1,h2⟩:=OW.mp hp;have hx:=hk x (JI ..);rcases ih (x+1) h2 (fun k hkr=>⟨h1 k hkr,(hk k (JO _ hkr)).2⟩)with h|h
   ·left;rw[Kd];omega
   ·left;rw[h];simp;omega
 rcases go g 0 hp (fun k h=>⟨Ks _,hk k h⟩)with h|h
 ·omega
 ·rw[h];simp
structure Table(H:Hp)(a b:Addr)(c n:Nat)(ws vs:List (List Nat)):Prop where
 deals:bu H a ws
 len:ws.length=n
 cards:∀w∈ws,w.length=c
 small:n<=100000
 few:c<=1000
 views:bF H b vs
 win:∀v∈vs,Within n v
 hands:vs.length<=1000
theorem Table.same{H H':Hp}{a b:Addr}{c n:Nat}{ws vs:List (List Nat)}(t:Table H a b c n ws vs)(s:am H H'):Table H' a b c n ws vs:=⟨t.deals.same' s,t.len,t.cards,t.small,t.few,t.views.same s,t.win,t.hands⟩
theorem ic{ws:List (List Nat)}{i:Nat}{w:List Nat}(h:ws[i]?=some w):ws.getD i []=w:=by rw[JN,h];rfl
theorem ie{H:Hp}{b:Addr}{vs:List (List Nat)}(h:bF H b vs){k:Nat}(hk:k<vs.length):∃(rs:List Addr)(r:Addr),H b=some (.lst (rs.map V.ref))/\atI (rs.map V.ref) (k:Int)=some (.ref r)/\H r=some (.lst (ar (vs.getD k [])))/\vs.getD k []∈vs:=by
 obtain⟨rs,e,hl,hr⟩:=lp h;obtain⟨r,hrk⟩:∃r,rs[k]?=some r:=⟨_,JD (by omega)⟩;obtain⟨v,hv,ev⟩:=hr k r hrk;refine⟨rs,r,e,b8 (by rw[JS,hrk];rfl),?_,?_⟩
 ·rw[ic hv];exact ev
 ·rw[ic hv];exact JK hv
noncomputable def cf(_:Fg)(m:Nat):Sp:=fun vals H Q _=>∃(a b:Addr)(x:V)(c n:Nat)(ws vs:List (List Nat))(s:Sy),vals=[.ref a,.ref b,x]/\Table H a b c n ws vs/\aN H x s/\s.Ok c vs.length/\s.words<=m/\
 ∀p H',H p=none->am H H'->H' p=some (.lst (blV n (TR n ws vs s)))->Q (.ref p) H'
noncomputable def jF(K:Fg)(n:Nat):TS:=(ao (aA (tOp (bH K) (aa 2) (tC (.int 0))) (ag 3))
 (ao (br (aU (tOp rEq (aa 3) (tC (.str "holds")))) (aI (bo (ca K (aa 0)) (fun _ _ _ _=>(ag 0)) (fun _ _ _ _=>aS) (fun _ _ _ _=>(tOp rEq (tOp (bH K) (aa 0) (tOp (bH K) (aa 1) (tC (.int 2)))) (tOp (bH K) (aa 1) (tC (.int 1))))) [none,some 2])) ba)
 (ao (br (aU (tOp rEq (aa 3) (tC (.str "sees")))) (aI (ap (ve K) [] E0 (ab (bo (ca K (aa 0)) (fun _ _ _ _=>(ag 0)) (fun _ _ _ _=>aS) (fun _ _ _ _=>(ap (gx K) [] E0 (ab (aa 0) (ab (tCB (bY K) (ab (aa 1) af)) af)))) [none,some 1]) (ab (tOp (bT K) (aa 1) (tOp (bH K) (aa 2) (tC (.int 1)))) af)))) ba)
 (ao (br (aU (tOp rEq (aa 3) (tC (.str "not")))) (aI (bo (ca K (ap (cf K n) [] E0 (ab (aa 0) (ab (aa 1) (ab (tOp (bH K) (aa 2) (tC (.int 1))) af))))) (fun _ _ _ _=>(ag 0)) (fun _ _ _ _=>aS) (fun _ _ _ _=>(rR (aa 0))) [none])) ba)
 (ao (br (aU (tOp rEq (aa 3) (tC (.str "and")))) (aI (ap (p9 K) [] E0 (ab (ap (cf K n) [] E0 (ab (aa 0) (ab (aa 1) (ab (tOp (bH K) (aa 2) (tC (.int 1))) af)))) (ab (ap (cf K n) [] E0 (ab (aa 0) (ab (aa 1) (ab (tOp (bH K) (aa 2) (tC (.int 2))) af)))) af)))) ba)
 (ao (br (aU (tOp rEq (aa 3) (tC (.str "or")))) (aI (ap (pi K) [] E0 (ab (ap (cf K n) [] E0 (ab (aa 0) (ab (aa 1) (ab (tOp (bH K) (aa 2) (tC (.int 1))) af)))) (ab (ap (cf K n) [] E0 (ab (aa 0) (ab (aa 1) (ab (tOp (bH K) (aa 2) (tC (.int 2))) af)))) af)))) ba)
 (ao (aA (ap (cf K n) [] E0 (ab (aa 0) (ab (aa 1) (ab (tOp (bH K) (aa 2) (tC (.int 2))) af)))) (ag 4))
 (ao (br (aU (tOp rEq (aa 3) (tC (.str "knows")))) (aI (ap (jr K) [] E0 (ab (tOp (bT K) (aa 1) (tOp (bH K) (aa 2) (tC (.int 1)))) (ab (aa 4) af)))) ba)
 (ao (aA (bo (qX K (tOp (bH K) (aa 2) (tC (.int 1)))) (fun _ _ _ _=>(ag 0)) (fun _ _ _ _=>aS) (fun _ _ _ _=>(tOp (bT K) (aa 1) (aa 0))) [none,some 1]) (ag 5))
 (ao (br (aU (tOp rEq (aa 3) (tC (.str "all")))) (aI (ap (iH K) [] E0 (ab (aa 5) (ab (aa 4) af)))) ba)
 (aI (ap (jr K) [] E0 (ab (ap (pc K) [] E0 (ab (tCB (bY K) (ab (aa 0) af)) (ab (aa 5) af))) (ab (aa 4) af))))))))))))))
noncomputable abbrev zv:List Str:=["deals","views","S","word","inner","some"]
theorem pj{K:Fg}{vs:List V}{H:Hp}{Q:VK}{E:XK}(h:cf K 0 vs H Q E):False:=by
 obtain⟨a,b,x,c,n,ws,vs,s,rfl,_,_,_,h,_⟩:=h;have:=s.words_pos;omega
theorem sY{H:Hp}{rs:List Addr}{ps:List (List Int)}{r:Addr}{xs:List Int}(h:Paired (fun(r:Addr)(xs:List Int)=>H r=some (.tup (xs.map V.int))) rs ps)(e:H r=some (.tup (xs.map V.int))):Paired (fun(r:Addr)(xs:List Int)=>H r=some (.tup (xs.map V.int))) (rs++[r]) (ps++[xs]):=by
 induction h with
 |nil=>exact .cons e .nil
 |cons a _ ih=>exact .cons a ih
theorem A5{H:Hp}{rs:List Addr}{vs:List (List Nat)}{r:Addr}{v:List Nat}(h:Paired (fun(r:Addr)(v:List Nat)=>H r=some (.lst (ar v))) rs vs)(e:H r=some (.lst (ar v))):Paired (fun(r:Addr)(v:List Nat)=>H r=some (.lst (ar v))) (rs++[r]) (vs++[v]):=by
 induction h with
 |nil=>exact .cons e .nil
 |cons a _ ih=>exact .cons a ih
theorem Da{K:Fg}{H:Hp}{b e:Addr}{g:List Nat}{vs:List (List Nat)}{Q:VK}{σ₀:St}{gg:CF TG}{tt:CF TT}{te:CF TE}(hV:bF H b vs)(hg:∀k∈g,k<vs.length)(hgl:g.length<=1000)(eg:H e=some (.tup (ar g)))
  (hs:∀C s' H' fp (k:Nat) (rs:List Addr) (r:Addr) H2 (R:V->Hp->Prop) (N:Hp->Prop),H2 b=some (.lst (rs.map V.ref))->atI (rs.map V.ref) (k:Int)=some (.ref r)->R (.ref r) H2->gg C s' H' fp (.int (k:Int)) σ₀ H2 fun σ2 H3=>tt C s' H' fp σ2 H3 fun c H4=>if c=true then te C s' H' fp σ2 H4 fun y H5=>R y H5 else N H4)
  (q:∀p H',H p=none->am H H'->bF H' p (g.map fun h=>vs.getD h [])->Q (.ref p) H'):
  ∃a',V.ref e=.ref a'/\(∃xs,SqT K H a' xs)/\∀p,H p=none->∃W:Nat->Nat->List V->Hp->Prop,(∃m,W 0 m [] (upd H p (.lst [])))/\∀C s' H' fp,bE (Itt K a') (gg C s' H' fp) (tt C s' H' fp) (te C s' H' fp) σ₀ p Q W:=by
 obtain⟨rs,eb,hl,hr⟩:=lp hV;refine⟨e,rfl,⟨_,SqT.of eg⟩,fun p hp=>Eg (xs:=ar g) (fun i acc H2=>am H H2/\H2 p=some (.lst acc)/\acc.length<=i/\∃ts:List Addr,acc=ts.map V.ref/\Paired (fun(r:Addr)(v:List Nat)=>H r=some (.lst (ar v))) ts ((g.take i).map fun h=>vs.getD h [])) ⟨bc hp _,az,JF _,[],rfl,.nil⟩ (fun i acc H2 _ c=>⟨c.2.1,c.2.2.1⟩) (fun i acc H2 _ c=>c.1.tup (SqT.of eg)) (by rw[be,JJ];omega) (fun C s' H' fp i x acc H2 hx c=>?_) fun acc H2 c=>?_⟩
 ·obtain⟨k,hk,rfl⟩:=ek hx
  have hkm:=hg k (JK hk);obtain⟨r,hrk⟩:∃r,rs[k]?=some r:=⟨_,JD (by omega)⟩;obtain⟨v,hv,ev⟩:=hr k r hrk;obtain⟨s2,e2,l2,ts,rfl,ht⟩:=c;refine hs C s' H' fp k rs r H2 _ _ (s2 _ _ eb) (b8 (by rw[JS,hrk];rfl)) ⟨e2,s2.upd hp _,az,by simp at l2 ⊢;omega,ts++[r],by simp,?_⟩;rw[bP hk,JY];exact A5 ht (by show H r=some (.lst (ar (vs.getD k [])));rw[ic hv];exact ev)
 ·obtain⟨s2,e2,l2,ts,rfl,ht⟩:=c
  rw[be,Ki]at ht;exact q p H2 hp s2 ⟨ts,e2,Paired.mapP ht fun r v h=>s2 _ _ h⟩
section
open Classical
theorem yg{K:Fg}{m:Nat}{vals:List V}{H:Hp}{Q:VK}{E:XK}(h:cf K (m+1) vals H Q E):jF K m { nx:=fun _ H'=>Q .non H',rt:=Q } (start zv vals) H:=by
 obtain⟨a,b,x,c,n,ws,vs,s,rfl,T,hS,hok,hw,q⟩:=h;show jF K m _ [some _,some _,some _,none,none,none] _;unfold jF;obtain⟨rs,ea,hr⟩:=id T.deals;have hlr:rs.length=ws.length:=Kf hr;have hn:=T.small;have hlen:=T.len;cases s with
 |holds w k=>
  obtain⟨t,rfl,et⟩:=hS;obtain⟨hwh,hkc⟩:=hok;right;refine aB (SqT.of et) (i:=0) rfl ?_;right;refine cj rfl ?_;right;refine cK (rs.map V.ref) (SqL.of ea) (by rw[JB];omega) (fun i acc _=>acc=blV i (TR n ws vs (.holds w k))) (fun _ _=>rfl) ?_ ?_
  ·rintro p hp C s' H' fp i x acc H2 hx ⟨s2,e2,l2,rfl⟩
   obtain⟨d,hd,rfl⟩:=jq hx;obtain⟨u,hu,eu⟩:=bG hr hd;have huc:=T.cards u (JK hu);have e1:u[k]?=some (u.getD k 0):=by rw[JN,JD (by omega)];rfl
   right;refine aB (SqT.of (s2 _ _ et)) (i:=2) rfl ?_;right;refine aB (SqT.of (s2 _ _ eu)) (g9 e1) ?_;right;refine aB (SqT.of (s2 _ _ et)) (i:=1) rfl ?_;right;refine aW.put hp (fun _ _ _ _ r _=>r) s2 e2 l2 ?_;rw[ce]
   congr 3
   refine cde ?_;show _↔(ws.getD i []).getD k 0=w;rw[ic hu];omega
  ·rintro p acc H2 hp s2 e2 rfl
   rw[JB,hlr,hlen]at e2;exact q _ _ hp s2 e2
 |sees k=>
  obtain⟨t,rfl,et⟩:=hS;have hk:k<vs.length:=hok;right;refine aB (SqT.of et) (i:=0) rfl ?_;right;refine aE (by decide) ?_;right;refine cj rfl ?_;right;obtain⟨vrs,evb,hvl,_⟩:=lp T.views;refine cK (rs.map V.ref) (SqL.of ea) (by rw[JB];omega) (fun i acc H2=>∃ts:List Addr,acc=ts.map V.ref/\Paired (fun(r:Addr)(xs:List Int)=>H2 r=some (.tup (xs.map V.int))) ts ((ws.take i).map fun w=>fc w (vs.length:Nat))) (fun _ _=>⟨[],rfl,.nil⟩) ?_ ?_
  ·rintro p hp C s' H' fp i x acc H2 hx ⟨s2,e2,l2,ts,rfl,ht⟩
   obtain⟨d,hd,rfl⟩:=jq hx;obtain⟨u,hu,eu⟩:=bG hr hd;have huc:=T.cards u (JK hu);have:=T.few;right;refine gG (SqL.of (s2 _ _ evb)) ?_;right;rw[JB,hvl];refine⟨d,u.map fun(s:Nat)=>((s:Nat):Int),(vs.length:Nat),rfl,by rw[<-cB];exact SqT.of (s2 _ _ eu),by rw[JB];omega,fun r H3 s3 e3=>?_⟩;rw[JB]at e3;refine aW.put hp (fun _ _ _ _ ⟨ts,e,r⟩ k=>⟨ts,e,Paired.mapP r fun _ _ z=>k _ _ z⟩) (s2.trans s3) (s3 _ _ e2) l2 ⟨ts++[r],by simp,?_⟩;rw[bP hu,JY];exact sY (Paired.mapP ht fun _ _ z=>s3 _ _ z) e3
  ·rintro p acc H2 hp s2 e2 ⟨ts,rfl,ht⟩
   rw[JB,hlr,Ki]at ht;right;refine aB (SqT.of (s2 _ _ et)) (i:=1) rfl ?_;right;obtain⟨vr,r,e1,e3,e4,e5⟩:=ie (T.views.same s2) hk;refine bz (SqL.of e1) e3 ?_;right;exact⟨p,r,n,vs.getD k [],_,rfl,⟨ts,e2,ht⟩,by rw[JB];exact hlen,e4,T.win _ e5,hn,fun p2 H3 hp2 s3 e6=>q p2 H3 (s2.free hp2) (s2.trans s3) e6⟩
 |not s=>
  obtain⟨t,y,rfl,et,hy⟩:=hS;have hw':s.words<=m:=by simp only[Sy.words]at hw;omega
  right;refine aB (SqT.of et) (i:=0) rfl ?_;right;refine aE (by decide) ?_;right;refine aE (by decide) ?_;right;refine cj rfl ?_;right;refine aB (SqT.of et) (i:=1) rfl ?_;right;refine⟨a,b,y,c,n,ws,vs,s,rfl,T,hy,hok,hw',fun l H1 hl s1 e1=>?_⟩;right;refine cK _ (SqL.of e1) (by rw[bq];omega) (fun i acc _=>acc=blV i (TR n ws vs (.not s))) (fun _ _=>rfl) ?_ ?_
  ·rintro p hp C s' H' fp i x acc H2 hx ⟨s2,e2,l2,rfl⟩
   obtain⟨hi,rfl⟩:=dC hx;right;refine aW.put hp (fun _ _ _ _ r _=>r) s2 e2 l2 ?_;rw[ce]
   congr 3
   by_cases z:TR n ws vs s i
   ·rw[decide_eq_true z];exact cdf fun h=>h z
   ·rw[decide_eq_false z];exact cdt z
  ·rintro p acc H2 hp s2 e2 rfl
   rw[bq]at e2;exact q _ _ (s1.free hp) (s1.trans s2) e2
 |and s t=>
  obtain⟨u,y,z,rfl,et,hy,hz⟩:=hS;have hw1:s.words<=m:=by simp only[Sy.words]at hw;omega
  have hw2:t.words<=m:=by simp only[Sy.words]at hw;omega
  right;refine aB (SqT.of et) (i:=0) rfl ?_;right;refine aE (by decide) ?_;right;refine aE (by decide) ?_;right;refine aE (by decide) ?_;right;refine cj rfl ?_;right;refine aB (SqT.of et) (i:=1) rfl ?_;right;refine⟨a,b,y,c,n,ws,vs,s,rfl,T,hy,hok.1,hw1,fun l H1 hl s1 e1=>?_⟩;right;refine aB (SqT.of (s1 _ _ et)) (i:=2) rfl ?_;right;refine⟨a,b,z,c,n,ws,vs,t,rfl,T.same s1,hz.keep s1.keep,hok.2,hw2,fun l2 H2 hl2 s2 e2=>?_⟩;right;exact⟨l,l2,n,_,_,rfl,s2 _ _ e1,e2,hn,fun p H3 hp s3 e3=>q p H3 (s1.free (s2.free hp)) ((s1.trans s2).trans s3) e3⟩
 |or s t=>
  obtain⟨u,y,z,rfl,et,hy,hz⟩:=hS;have hw1:s.words<=m:=by simp only[Sy.words]at hw;omega
  have hw2:t.words<=m:=by simp only[Sy.words]at hw;omega
  right;refine aB (SqT.of et) (i:=0) rfl ?_;right;refine aE (by decide) ?_;right;refine aE (by decide) ?_;right;refine aE (by decide) ?_;right;refine aE (by decide) ?_;right;refine cj rfl ?_;right;refine aB (SqT.of et) (i:=1) rfl ?_;right;refine⟨a,b,y,c,n,ws,vs,s,rfl,T,hy,hok.1,hw1,fun l H1 hl s1 e1=>?_⟩;right;refine aB (SqT.of (s1 _ _ et)) (i:=2) rfl ?_;right;refine⟨a,b,z,c,n,ws,vs,t,rfl,T.same s1,hz.keep s1.keep,hok.2,hw2,fun l2 H2 hl2 s2 e2=>?_⟩;right;exact⟨l,l2,n,_,_,rfl,s2 _ _ e1,e2,hn,fun p H3 hp s3 e3=>q p H3 (s1.free (s2.free hp)) ((s1.trans s2).trans s3) e3⟩
 |knows k s=>
  obtain⟨t,y,rfl,et,hy⟩:=hS;have hw':s.words<=m:=by simp only[Sy.words]at hw;omega
  right;refine aB (SqT.of et) (i:=0) rfl ?_;right;refine aE (by decide) ?_;right;refine aE (by decide) ?_;right;refine aE (by decide) ?_;right;refine aE (by decide) ?_;right;refine aE (by decide) ?_;right;refine aB (SqT.of et) (i:=2) rfl ?_;right;refine⟨a,b,y,c,n,ws,vs,s,rfl,T,hy,hok.2,hw',fun l H1 hl s1 e1=>?_⟩;right;refine cj rfl ?_;right;refine aB (SqT.of (s1 _ _ et)) (i:=1) rfl ?_;right;obtain⟨vr,r,e2,e3,e4,e5⟩:=ie (T.views.same s1) hok.1;refine bz (SqL.of e2) e3 ?_;right;exact⟨r,l,n,vs.getD k [],_,rfl,e4,e1,T.win _ e5,hn,fun p2 H3 hp2 s3 e6=>q p2 H3 (s1.free hp2) (s1.trans s3) e6⟩
 |all g s=>
  obtain⟨t,u,y,rfl,et,eu,hy⟩:=hS;have hw':s.words<=m:=by simp only[Sy.words]at hw;omega
  obtain⟨⟨hpw,hg⟩,hok'⟩:=hok;right;refine aB (SqT.of et) (i:=0) rfl ?_;right;refine aE (by decide) ?_;right;refine aE (by decide) ?_;right;refine aE (by decide) ?_;right;refine aE (by decide) ?_;right;refine aE (by decide) ?_;right;refine aB (SqT.of et) (i:=2) rfl ?_;right;refine⟨a,b,y,c,n,ws,vs,s,rfl,T,hy,hok',hw',fun l H1 hl s1 e1=>?_⟩;right;refine aE (by decide) ?_;right;refine aB (SqT.of (s1 _ _ et)) (i:=1) rfl ?_;refine Da (T.views.same s1) hg (Kc (sX hpw hg) T.hands) (s1 _ _ eu) ?_ ?_
  ·intro C s' H' fp k rs r H2 R N e2 e3 hR
   right;exact bz (SqL.of e2) e3 hR
  ·intro p H2 hp s2 V2
   right;refine cj rfl ?_;right;refine⟨p,l,n,_,_,rfl,V2,s2 _ _ e1,?_,hn,fun p2 H3 hp2 s3 e6=>q p2 H3 (s1.free (s2.free hp2)) ((s1.trans s2).trans s3) e6⟩;intro v hv;obtain⟨k,hk,rfl⟩:=KR.mp hv;obtain⟨_,_,_,_,_,e5⟩:=ie T.views (hg k hk);exact T.win _ e5
 |common g s=>
  obtain⟨t,u,y,rfl,et,eu,hy⟩:=hS;have hw':s.words<=m:=by simp only[Sy.words]at hw;omega
  obtain⟨⟨hpw,hg⟩,hok'⟩:=hok;right;refine aB (SqT.of et) (i:=0) rfl ?_;right;refine aE (by decide) ?_;right;refine aE (by decide) ?_;right;refine aE (by decide) ?_;right;refine aE (by decide) ?_;right;refine aE (by decide) ?_;right;refine aB (SqT.of et) (i:=2) rfl ?_;right;refine⟨a,b,y,c,n,ws,vs,s,rfl,T,hy,hok',hw',fun l H1 hl s1 e1=>?_⟩;right;refine aE (by decide) ?_;right;refine aB (SqT.of (s1 _ _ et)) (i:=1) rfl ?_;refine Da (T.views.same s1) hg (Kc (sX hpw hg) T.hands) (s1 _ _ eu) ?_ ?_
  ·intro C s' H' fp k rs r H2 R N e2 e3 hR
   right;exact bz (SqL.of e2) e3 hR
  ·intro p H2 hp s2 V2
   have s12:=s1.trans s2;have hwin:∀v∈g.map (fun h=>vs.getD h []),Within n v:=by
    intro v hv;obtain⟨k,hk,rfl⟩:=KR.mp hv;obtain⟨_,_,_,_,_,e5⟩:=ie T.views (hg k hk);exact T.win _ e5
   right;refine aE (by decide) ?_;right;refine gG (SqL.of (s12 _ _ ea)) ?_;right;rw[JB,hlr,hlen];refine⟨n,p,_,rfl,V2,hwin,hn,fun r j H3 hj hjn s3 e3=>?_⟩;right;refine⟨j,l,n,r,_,rfl,e3,s3 _ _ (s2 _ _ e1),zu hj,hn,fun p2 H4 hp2 s4 e4=>q p2 H4 (s1.free (s2.free (s3.free hp2))) ((s12.trans s3).trans s4) ?_⟩;rw[e4]
   congr 2
   exact j8 fun i hi=>GI hj hi
end
end
section
variable{K:Fg}{vs:List V}{H:Hp}{Q:VK}{E:XK}
noncomputable def dQ(v:List Nat)(as:List IA):List Nat:=bn (v.zip as)
noncomputable def yh(p:Nat×IA):MK:=.inr [.inl (some ((p.1:Nat):Int)),.inl p.2]
theorem EI(a b:Nat×IA)(e:yh a=yh b):a=b:=by
 have h:=Nr e;injection h with h1 h2
 injection h1 with h1
 injection h1 with h1
 injection h2 with h2 _
 injection h2 with h2
 obtain⟨a1,a2⟩:=a;obtain⟨b1,b2⟩:=b;simp only at h1 h2;rw[show a1=b1 by omega,h2]
theorem qQ(v:List Nat)(as:List IA):bn ((v.zip as).map yh)=dQ v as:=qJ (f:=yh) EI _
noncomputable def rB(_:Fg):Sp:=fun vs H Q _=>∃(a b:Addr)(v:List Nat)(ys:List V)(as:List IA),vs=[.ref a,.ref b]/\H a=some (.lst (ar v))/\H b=some (.lst ys)/\ys.map iaV=as.map some/\v.length=as.length/\v.length<=100000/\
 ∀p H',H p=none->am H H'->H' p=some (.lst (ar (dQ v as)))->Q (.ref p) H'
theorem rC{H:Hp}:∀{ts:List Addr} {v:List Nat} {ys:List V} {as:List IA},mV H ts ((ar v).zip ys)->ys.map iaV=as.map some->Paired (ck H) (ts.map V.ref) ((v.zip as).map yh)
 |ts,[],ys,as,h,_=>by
  have e:(ar []).zip ys=[]:=rfl;rw[e]at h;cases h;rw[show([]:List Nat).zip as=[]from rfl];exact .nil
 |ts,x::v,[],as,h,e=>by
  have z:(ar (x::v)).zip ([]:List V)=[]:=by simp
  rw[z]at h;cases h;have:as=[]:=by
   cases as with
   |nil=>rfl
   |cons _ _=>simp at e
  rw[this];simp only[List.zip_nil_right];exact .nil
 |ts,x::v,y::ys,as,h,e=>by
  cases as with
  |nil=>simp at e
  |cons a as=>
   rw[JZ,JZ]at e;injection e with e1 e2
   have z:(ar (x::v)).zip (y::ys)=(.int (x:Int),y)::(ar v).zip ys:=rfl;rw[z]at h;cases h with
   |cons h t=>
    rw[Ln,JZ,JZ];exact .cons ⟨_,_,rfl,h,.cons rfl (.cons e1 .nil)⟩ (rC t e2)
noncomputable def qb(K:Fg):TS:=(aI (ap (dO K) [] E0 (ab (A2 aV aV K (ab (aa 0) (ab (aa 1) af))) af)))
theorem EJ(h:rB K vs H Q E):qb K { nx:=fun _ H'=>Q .non H',rt:=Q } (start ["view","values"] vs) H:=by
 obtain⟨a,b,v,ys,as,rfl,ea,eb,hi,hl,hn,q⟩:=h;show qb K _ [some _,some _] _;unfold qb;right;refine Il ?_;right;refine⟨a,b,ar v,ys,rfl,SqL.of ea,SqL.of eb,by rw[be];omega,fun p H1 hp s1 ⟨ts,e1,pt⟩=>?_⟩;right;refine⟨p,_,_,true,rfl,e1,rC pt hi,?_,by rw[JB,M5];omega,fun p2 H2 hp2 s2 e2=>?_⟩
 ·intro k hk
  obtain⟨w,_,rfl⟩:=KR.mp hk;rfl
 ·rw[qQ]at e2
  exact q _ _ (s1.free hp2) (s1.trans s2) e2
end
end L2
section
namespace L2
open KF
section
variable{α β γ:Type}[DecidableEq α][DecidableEq β][DecidableEq γ]
theorem pA{ks:List α}{i:Nat}{k:α}(h:ks[i]?=some k):ks[ks.idxOf k]?=some k:=by
 rw[JD (OT (JK h)),List.getElem_idxOf]
theorem j9{ks:List α}{i:Nat}{k:α}(h:ks[i]?=some k):(bn ks)[i]?=some (ks.idxOf k):=by unfold bn;rw[JS,h];rfl
theorem sZ{ks:List α}{j:Nat}{k:α}(h:ks[j]?=some k):ks.idxOf k<=j:=by obtain⟨_,_,_,hle⟩:=sj (j9 h);exact hle
theorem tj{l:List α}{i:Nat}(h:i<l.length):∃x,l[i]?=some x:=⟨_,JD h⟩
theorem zw{ks:List α}{ls:List β}(hl:ks.length=ls.length)(h:∀i j,i<ks.length->j<ks.length->(ks[i]?=ks[j]?↔ls[i]?=ls[j]?)):bn ks=bn ls:=by
 refine Lu fun i=>?_;by_cases hi:i<ks.length
 ·obtain⟨k,hk⟩:=tj hi
  obtain⟨l,hL⟩:=tj (l:=ls) (i:=i) (by omega);rw[j9 hk,j9 hL];have a1:=pA hk;have b1:=pA hL;have la:=sZ hk;have lb:=sZ hL;have e1:ls[ks.idxOf k]?=some l:=by rw[<-hL];exact((h _ _ (by omega) hi).mp (a1.trans hk.symm))
  have e2:ks[ls.idxOf l]?=some k:=by rw[<-hk];exact((h _ _ (by omega) hi).mpr (b1.trans hL.symm))
  have q1:=sZ e1;have q2:=sZ e2
  congr 1
  omega
 ·rw[J5 (by rw[cz];omega),J5 (by rw[cz];omega)]
theorem Db{ks:List α}{i j:Nat}(hi:i<ks.length)(hj:j<ks.length):(bn ks)[i]?=(bn ks)[j]?↔ks[i]?=ks[j]?:=by
 obtain⟨k,hk⟩:=tj hi;obtain⟨l,hL⟩:=tj hj;rw[j9 hk,j9 hL,hk,hL];constructor
 ·intro e
  rw[<-pA hk,<-pA hL,JR e]
 ·intro e
  rw[JR e]
theorem qR(ks:List α):bn (bn ks)=bn ks:=zw (cz ks) fun i j hi hj=>by rw[cz]at hi hj;exact Db hi hj
theorem v3{ks:List α}{i m:Nat}(h:(bn ks)[i]?=some m):ks[m]?=ks[i]?/\m<=i/\i<ks.length:=by
 obtain⟨k,hk,rfl,hle⟩:=sj h;exact⟨(pA hk).trans hk.symm,hle,(JG.mp hk).1⟩
end
theorem Dc{v:List Nat}(hv:bn v=v){x y:Nat}(h:v[x]?=some y):v[x]?=v[y]?/\y<=x:=by
 have h':(bn v)[x]?=some y:=by rw[hv];exact h
 obtain⟨q,hle,_⟩:=v3 h';exact⟨q.symm,hle⟩
end L2
end
namespace L2
open PySem PyProof.Rows
section
open KF
open Classical in
noncomputable def blA(n:Nat)(P:Nat->Prop):List IA:=(JT n).map fun i=>some (if decide (P i)then 1 else 0)
theorem Ah(n:Nat)(P:Nat->Prop):(blA n P).length=n:=by unfold blA;simp
theorem De(n:Nat)(P:Nat->Prop):(blV n P).map iaV=(blA n P).map some:=by
 unfold blV blA;rw[Mv,Mv];exact L7 fun i _=>rfl
open Classical in
theorem pB{α:Type}[DecidableEq α]{ks:List α}{n:Nat}(h:ks.length=n):Within n (bn ks):=⟨by rw[cz,h],fun x hx=>by
 obtain⟨i,hi⟩:=Od.mp hx;obtain⟨_,h1,h2⟩:=v3 hi;omega⟩
theorem pD{n:Nat}{v:List Nat}{as:List IA}(hv:Within n v)(hl:as.length=n):Within n (dQ v as):=pB (by rw[M5,hv.1,hl,Mu])
theorem Df(v:List Nat)(as:List IA):bn (dQ v as)=dQ v as:=qR _
noncomputable def lrn(vw:List (List Nat))(g:List Nat)(as:List IA):List (List Nat):=g.foldl (fun w h=>w.set h (dQ (w.getD h []) as)) vw
theorem qc(as:List IA):∀(g:List Nat)(vw:List (List Nat)),(lrn vw g as).length=vw.length
 | [],_=>rfl
 |h::g,vw=>by
  show(lrn (vw.set h _) g as).length=_;rw[qc as g,LI]
theorem EK(vw:List (List Nat))(g:List Nat)(h:Nat)(as:List IA):lrn vw (g++[h]) as=(lrn vw g as).set h (dQ ((lrn vw g as).getD h []) as):=by
 unfold lrn;rw[Rt];rfl
theorem Dg{ws:List (List Nat)}{i j:Nat}{v:List Nat}:(ws.set i v).getD j []=if i=j/\i<ws.length then v else ws.getD j []:=by
 rw[JN,JN,MF];by_cases e:i=j
 ·subst e
  by_cases h:i<ws.length
  ·simp[h]
  ·simp[h,J5 (Py h)]
 ·simp[e]
theorem Ai(as:List IA):∀(g:List Nat)(vw:List (List Nat))(i:Nat),g.Nodup->i<vw.length->(lrn vw g as).getD i []=if i∈g then dQ (vw.getD i []) as else vw.getD i []
 | [],vw,i,_,_=>by simp[lrn]
 |h::g,vw,i,nd,hi=>by
  obtain⟨n1,n2⟩:=Mg.mp nd;show(lrn (vw.set h _) g as).getD i []=_;rw[Ai as g _ i n2 (by rw[LI];exact hi),Dg];by_cases e:i=h
  ·subst e
   rw[if_neg n1,if_pos ⟨rfl,hi⟩,if_pos JI]
  ·have e':¬h=i:=fun z=>e z.symm
   have e1:(if h=i/\h<vw.length then dQ (vw.getD h []) as else vw.getD i [])=vw.getD i []:=if_neg fun z=>e' z.1;rw[e1];by_cases m:i∈g
   ·rw[if_pos m,if_pos (JO _ m)]
   ·rw[if_neg m,if_neg fun z=>(JH.mp z).elim e m]
theorem EL{ws vs:List (List Nat)}(hl:ws.length=vs.length)(h:∀i,i<vs.length->ws.getD i []=vs.getD i []):ws=vs:=by
 refine Lu fun i=>?_;by_cases hi:i<vs.length
 ·have:=h i hi
  rw[JN,JN,JD hi,JD (by omega)]at this;rw[JD hi,JD (by omega)];exact congrArg some this
 ·rw[J5 (by omega),J5 (by omega)]
theorem GJ(as:List IA)(vw:List (List Nat)):lrn vw (JT vw.length) as=vw.map fun v=>dQ v as:=by
 refine EL (by rw[qc,JB]) fun i hi=>?_;rw[JB]at hi;rw[Ai as _ _ i List.nodup_range hi,if_pos (K1.mpr hi)];simp[JN,hi]
theorem qd{as:List IA}{P:List Nat->Prop}(hs:∀v,P v->P (dQ v as)):∀(g:List Nat)(vw:List (List Nat)),(∀h∈g,h<vw.length)->(∀v∈vw,P v)->∀v∈lrn vw g as,P v
 | [],_,_,h=>h
 |k::g,vw,hk,h=>by
  show∀v∈lrn (vw.set k _) g as,P v;refine qd hs g _ (fun x hx=>by rw[LI];exact hk x (JO _ hx)) fun v hv=>?_;rcases List.mem_or_eq_of_mem_set hv with z|z
  ·exact h v z
  ·rw[z]
   have hl:=hk k JI;refine hs _ (h _ ?_);rw[JN,JD hl];exact MQ hl
set_option genInjectivity false in
structure TM where
 c:Nat
 ss:List Nat
 vw:List (List Nat)
 ds:List (List Nat×List V)
noncomputable def TM.ws(T:TM):List (List Nat):=KM.cr (T.ss++[T.c-T.ss.sum]) T.c
noncomputable def TM.n(T:TM):Nat:=T.ws.length
noncomputable def TM.k(T:TM):Nat:=T.ss.length
noncomputable def TM.tr(T:TM)(s:Sy):Nat->Prop:=TR T.n T.ws T.vw s
noncomputable def TM.learn(T:TM)(g:List Nat)(as:List IA)(ys:List V):TM:={ T with vw:=lrn T.vw g as,ds:=T.ds++[(g,ys)] }
noncomputable def TM.word(T:TM)(g:List Nat)(s:Sy):TM:=T.learn g (blA T.n (T.tr s)) (blV T.n (T.tr s))
noncomputable def TM.begun(c:Nat)(ss:List Nat):TM:=⟨c,ss,(JT ss.length).map fun i=>ll (KM.cr (ss++[c-ss.sum]) c) ((i:Nat):Int),[]⟩
structure TM.Ok(T:TM):Prop where
 pk:oY T.c T.ss
 few:KM.cC T.c T.ss<=2000
 len:T.vw.length=T.k
 win:∀v∈T.vw,Within T.n v
 can:∀v∈T.vw,bn v=v
theorem TM.Ok.n2{T:TM}(h:T.Ok):T.n<=2000:=by
 show(KM.cr _ _).length<=_;rw[KM.mB h.pk.sum];exact h.few
theorem TM.Ok.cards{T:TM}(h:T.Ok):∀w∈T.ws,w.length=T.c:=fun w hw=>(KM.gr _ T.c w hw).len
theorem TM.Ok.begun{c:Nat}{ss:List Nat}(pk:oY c ss)(few:KM.cC c ss<=2000):(TM.begun c ss).Ok:=⟨pk,few,by show(List.map _ _).length=ss.length;rw[JB,Kz],fun v hv=>by
 obtain⟨i,_,rfl⟩:=KR.mp hv;exact pB (by rw[JB];rfl),fun v hv=>by
 obtain⟨i,_,rfl⟩:=KR.mp hv;exact qR _⟩
theorem TM.Ok.learn{T:TM}(h:T.Ok){g:List Nat}{as:List IA}{ys:List V}(hg:∀x∈g,x<T.k)(hl:as.length=T.n):(T.learn g as ys).Ok:=
 ⟨h.pk,h.few,by show(lrn T.vw g as).length=_;rw[qc];exact h.len,qd (fun v hv=>pD hv hl) g T.vw (by rw[h.len];exact hg) h.win,qd (fun v _=>Df v as) g T.vw (by rw[h.len];exact hg) h.can⟩
theorem TM.Ok.word{T:TM}(h:T.Ok){g:List Nat}{s:Sy}(hg:∀x∈g,x<T.k):(T.word g s).Ok:=h.learn hg (Ah _ _)
end
section
variable{K:Fg}{vs:List V}{H:Hp}{Q:VK}{E:XK}
theorem GK{i lo hi:Int}(h1:lo<=i)(h2:i<=hi):cA (.int i) lo hi=true:=by
 show(decide (lo<=i)&&decide (i<=hi))=true;rw[decide_eq_true h1,decide_eq_true h2];rfl
noncomputable def cq(_:Fg):Sp:=fun vs H Q _=>∃(i b:Int),vs=[.int i,.int b]/\Q (.bl (decide (0<=i)&&decide (i<=b-1))) H
noncomputable def kI(K:Fg):TS:=(aI (ap (dz K) [] E0 (ab (aa 0) (ab (tC (.int 0)) (ab (tOp (rI0 fun i j=>.int (i-j)) (aa 1) (tC (.int 1))) af)))))
theorem zx(h:cq K vs H Q E):kI K { nx:=fun _ H'=>Q .non H',rt:=Q } (start ["thing","bound"] vs) H:=by
 obtain⟨i,b,rfl,q⟩:=h;show kI K _ [some _,some _] _;unfold kI;right;exact⟨.int i,0,b-1,rfl,d4.int _,q⟩
theorem dR{i b:Int}(h1:0<=i)(h2:i<=b):(decide (0<=i)&&decide (i<=b))=true:=by rw[decide_eq_true h1,decide_eq_true h2];rfl
noncomputable def iI(_:Fg):Sp:=fun vs H Q _=>∃(a:Addr)(g:List Nat)(h:Nat),vs=[.ref a,.int h]/\H a=some (.tup (ar g))/\g.Pairwise (· < ·)/\(∀k∈g,k<h)/\Q (.bl true) H
noncomputable def jG(K:Fg):TS:=(ao (br (dH (tB (tCB (iu K) (ab (aa 0) (ab (tC (.ty "tuple")) af))))) (aI (tC (.bl false))) ba)
 (ao (aA (tC (.int 0)) (ag 2))
 (ao (cQ (qX K (aa 0)) (ag 3) (ao (br (dH (tB (ap (dz K) [] E0 (ab (aa 3) (ab (aa 2) (ab (tOp (rI0 fun i j=>.int (i-j)) (aa 1) (tC (.int 1))) af)))))) (aI (tC (.bl false))) ba)
 (aA (tOp (rI0 fun i j=>.int (i+j)) (aa 3) (tC (.int 1))) (ag 2))))
 (aI (tC (.bl true))))))
theorem yi(h:iI K vs H Q E):jG K { nx:=fun _ H'=>Q .non H',rt:=Q } (start ["thing","hands","least","hand"] vs) H:=by
 obtain⟨a,g,h,rfl,e,pw,hg,q⟩:=h;show jG K _ [some _,some _,none,none] _;unfold jG;right;refine gH (.tup e) (jz K) ?_;right;refine sg (ar g) (SqT.of e) (fun i σ H2=>∃(lo:Int)(st:Option V),σ=[some (.ref a),some (.int h),some (.int lo),st]/\H2=H/\∀k∈g.drop i,lo<=(k:Int)) ⟨0,none,rfl,rfl,fun k _=>by omega⟩ (fun i σ H2 _ ⟨_,_,_,eH,_⟩=>by subst eH;exact SqT.of e) ?_ ?_
 ·rintro i y σ H2 hy ⟨lo,st,rfl,rfl,hlo⟩
  obtain⟨k,hk,rfl⟩:=ek hy;obtain⟨h1,h2⟩:=JG.mp hk;have hd:g.drop i=k::g.drop (i+1):=by rw[Pm h1,h2]
  have hkh:=hg k (JK hk);have pd:(g.drop i).Pairwise (· < ·):=pw.sublist (List.drop_sublist i g);rw[hd]at hlo pd;have l1:=hlo k JI;right;refine⟨.int (k:Int),lo,(h:Int)-1,rfl,d4.int _,?_⟩;rw[GK l1 (show(k:Int)<=(h:Int)-1 by omega)];right;refine⟨_,_,rfl,rfl,fun j hj=>?_⟩;have:=(OW.mp pd).1 j hj;omega
 ·rintro σ H2 ⟨lo,st,rfl,rfl,_⟩
  right;exact q
noncomputable def mE(_:Fg):Sp:=fun vs H Q _=>∃(v:V)(s:Sy),vs=[v]/\aN H v s/\∀(p:Addr)(xs:List V)(H':Hp),am H H'->H p=none->H' p=some (.lst xs)->fR H' xs s.subs->xs.length<=2->Q (.ref p) H'
noncomputable def kJ(K:Fg)(G:Glo):TS:=(ao (aA (tOp (AT G.kvs G.forms) (tC (.ref G.forms)) (tOp (bH K) (aa 0) (tC (.int 0)))) (ag 1))
 (aI (bo (kl ee ee K (ab (aa 1) (ab (tSl (xM K) (aa 0) (rX (tC (.int 1))) mP) af))) (fun _ _ _ _=>(cM K 2 (aZ (ag 0) (aZ (ag 1) cL)))) (fun _ _ _ _=>(aU (tOp rEq (aa 0) (tC (.str "saying"))))) (fun _ _ _ _=>(aa 1)) [none,none])))
theorem zy{K:Fg}{G:Glo}(g:sS K G){vs:List V}{H:Hp}{Q:VK}{E:XK}(h:mE K vs H Q E):kJ K G { nx:=fun _ H'=>Q .non H',rt:=Q } (start ["saying","form"] vs) H:=by
 obtain⟨v,s,rfl,hs,q⟩:=h;obtain⟨a,items,rfl,ha,hl,hp⟩:=GC hs;obtain⟨f,hf,tf⟩:=g.form s;show kJ K G _ [some _,none] _;unfold kJ;right;refine aB (SqT.of ha) (kT _ _) ?_;refine FJ hf ?_;right;refine AS (SqT.of ha) (mr _ _) fun b H1 hb s1 e1=>?_;rw[rk]at e1;right;have hml:min (s.form.map V.str).length items.length=s.form.length:=by rw[JB,hl];omega
 refine lc (S1:=ee) (S2:=ee) (s.form.map V.str) items (tf.sq _) (SqT.of e1) (fun H' _=>tf.sq _) (fun H' s'=>SqT.of (s' _ _ e1)) (by rw[JB];have:=s.form_len;omega) (fun i acc _=>acc=hJ (s.form.take i) (items.take i)) (fun _ _=>rfl) ?_ ?_
 ·intro p hp' C s' H' fp i x y T acc H2 H3 hx hy ⟨s2,e2,l2,r2⟩ hT s3 e3 e4
  obtain⟨z,hz,rfl⟩:∃z,s.form[i]?=some z/\x=.str z:=by
   rw[JS]at hx;cases e:s.form[i]? with
   |none=>rw[e]at hx;cases hx
   |some z=>rw[e]at hx;exact⟨z,rfl,(JR hx).symm⟩
  have pt:=C6 s.form items i z y hz hy;subst r2;refine dh (SqT.of e3) ?_;right;refine bW (fun c=>?_) (fun c=>?_)
  ·right
   rw[if_pos c]at pt;exact aW.put hp' (fun _ _ _ _ r _=>r) (s2.trans s3) e4 l2 pt.symm
  ·rw[if_neg c,LH]at pt
   exact aW.skip (s2.trans s3) e4 l2 pt.symm
 ·intro p acc H2 hp' s2 e2 r2
  rw[hml,<-hl,Ki,hl,Ki]at r2;subst r2;refine q p _ H2 (s1.trans s2) (s1.free hp') e2 (hp.keep (s1.trans s2).keep) (Kc (EG _ _) s.form_len)
noncomputable def iJ(H:Hp)(c h:Nat)(p:Str)(x:V):Prop:=(p="holder"/\∃k:Nat,x=.int k/\k<=h)\/(p="card"/\∃k:Nat,x=.int k/\k<c)\/(p="hand"/\∃k:Nat,x=.int k/\k<h)\/(p="hands"/\∃a g,x=.ref a/\H a=some (.tup (ar g))/\g.Pairwise (· < ·)/\∀k∈g,k<h)\/p="saying"
noncomputable def vf(_:Fg):Sp:=fun vs H Q _=>∃(c h:Nat)(p:Str)(x:V),vs=[.int c,.int h,.str p,x]/\iJ H c h p x/\Q (.bl true) H
noncomputable def tm(K:Fg):TS:=(ao (br (aU (tOp rEq (aa 2) (tC (.str "holder")))) (aI (ap (cq K) [] E0 (ab (aa 3) (ab (tOp (rI0 fun i j=>.int (i+j)) (aa 1) (tC (.int 1))) af)))) ba)
 (ao (br (aU (tOp rEq (aa 2) (tC (.str "card")))) (aI (ap (cq K) [] E0 (ab (aa 3) (ab (aa 0) af)))) ba)
 (ao (br (aU (tOp rEq (aa 2) (tC (.str "hand")))) (aI (ap (cq K) [] E0 (ab (aa 3) (ab (aa 1) af)))) ba)
 (ao (br (aU (tOp rEq (aa 2) (tC (.str "hands")))) (aI (ap (iI K) [] E0 (ab (aa 3) (ab (aa 1) af)))) ba)
 (aI (tC (.bl true)))))))
theorem GL(h:vf K vs H Q E):tm K { nx:=fun _ H'=>Q .non H',rt:=Q } (start ["cards","hands","place","part"] vs) H:=by
 obtain⟨c,h,p,x,rfl,k,q⟩:=h;show tm K _ [some _,some _,some _,some _] _;unfold tm;rcases k with⟨rfl,k,rfl,hk⟩|⟨rfl,k,rfl,hk⟩|⟨rfl,k,rfl,hk⟩|⟨rfl,a,g,rfl,e,pw,hg⟩|rfl
 ·right
  refine cj rfl ?_;right;refine⟨_,_,rfl,?_⟩;rw[dR (by omega) (by omega)];exact q
 ·right
  refine aE (by decide+kernel) ?_;right;refine cj rfl ?_;right;refine⟨_,_,rfl,?_⟩;rw[dR (by omega) (by omega)];exact q
 ·right
  refine aE (by decide+kernel) ?_;right;refine aE (by decide+kernel) ?_;right;refine cj rfl ?_;right;refine⟨_,_,rfl,?_⟩;rw[dR (by omega) (by omega)];exact q
 ·right
  refine aE (by decide+kernel) ?_;right;refine aE (by decide+kernel) ?_;right;refine aE (by decide+kernel) ?_;right;refine cj rfl ?_;right;exact⟨a,g,h,rfl,e,pw,hg,q⟩
 ·right
  refine aE (by decide+kernel) ?_;right;refine aE (by decide+kernel) ?_;right;refine aE (by decide+kernel) ?_;right;refine aE (by decide+kernel) ?_;right;exact q
theorem EM{H:Hp}{c h:Nat}{v:V}{s:Sy}(hs:aN H v s)(ok:s.Ok c h):∃a items,v=.ref a/\H a=some (.tup (.str s.word::items))/\items.length=s.form.length/\∀(i:Nat)(p:Str)(x:V),s.form[i]?=some p->items[i]?=some x->iJ H c h p x:=by
 have one:∀{p:Str} {x:V},iJ H c h p x->∀(i:Nat)(p':Str)(x':V),[p][i]?=some p'->[x][i]?=some x'->iJ H c h p' x':=fun f i p' x' hp hx=>by
  match i,hp,hx with
  |0,hp,hx=>cases hp;cases hx;exact f
 have two:∀{p q:Str} {x y:V},iJ H c h p x->iJ H c h q y->∀(i:Nat)(p':Str)(x':V),[p,q][i]?=some p'->[x,y][i]?=some x'->iJ H c h p' x':=fun f g i p' x' hp hx=>by
  match i,hp,hx with
  |0,hp,hx=>cases hp;cases hx;exact f
  |1,hp,hx=>cases hp;cases hx;exact g
 have sy:∀{x:V},iJ H c h "saying" x:=.inr (.inr (.inr (.inr rfl)));cases s with
 |holds w k=>obtain⟨a,e,q⟩:=hs;exact⟨a,_,e,q,rfl,two (.inl ⟨rfl,w,rfl,ok.1⟩) (.inr (.inl ⟨rfl,k,rfl,ok.2⟩))⟩
 |sees k=>obtain⟨a,e,q⟩:=hs;exact⟨a,_,e,q,rfl,one (.inr (.inr (.inl ⟨rfl,k,rfl,ok⟩)))⟩
 |not s=>obtain⟨a,x,e,q,r⟩:=hs;exact⟨a,_,e,q,rfl,one sy⟩
 |and s t=>obtain⟨a,x,y,e,q,r,r'⟩:=hs;exact⟨a,_,e,q,rfl,two sy sy⟩
 |or s t=>obtain⟨a,x,y,e,q,r,r'⟩:=hs;exact⟨a,_,e,q,rfl,two sy sy⟩
 |knows k s=>obtain⟨a,x,e,q,r⟩:=hs;exact⟨a,_,e,q,rfl,two (.inr (.inr (.inl ⟨rfl,k,rfl,ok.1⟩))) sy⟩
 |all g s=>obtain⟨a,b,x,e,q,j,r⟩:=hs;exact⟨a,_,e,q,rfl,two (.inr (.inr (.inr (.inl ⟨rfl,b,g,rfl,j,ok.1.1,ok.1.2⟩)))) sy⟩
 |common g s=>obtain⟨a,b,x,e,q,j,r⟩:=hs;exact⟨a,_,e,q,rfl,two (.inr (.inr (.inr (.inl ⟨rfl,b,g,rfl,j,ok.1.1,ok.1.2⟩)))) sy⟩
theorem iJ.same{H H':Hp}(s:am H H'){c h:Nat}{p:Str}{x:V}(f:iJ H c h p x):iJ H' c h p x:=by
 rcases f with f|f|f|⟨e,a,g,e2,q,r⟩|f
 ·exact .inl f
 ·exact .inr (.inl f)
 ·exact .inr (.inr (.inl f))
 ·exact .inr (.inr (.inr (.inl ⟨e,a,g,e2,s _ _ q,r⟩)))
 ·exact .inr (.inr (.inr (.inr f)))
noncomputable def nO(_:Fg):Sp:=fun vs H Q _=>∃(c h:Nat)(v:V)(s:Sy),vs=[.int c,.int h,v]/\aN H v s/\s.Ok c h/\∀H',am H H'->Q (.bl true) H'
noncomputable def lY(K:Fg)(G:Glo):TS:=(ao (br (tOr (dH (tB (tCB (iu K) (ab (aa 2) (ab (tC (.ty "tuple")) af))))) (aU (tOp rEq (tCB (bY K) (ab (aa 2) af)) (tC (.int 0))))) (aI (tC (.bl false))) ba)
 (ao (br (tOr (dH (tB (tCB (iu K) (ab (tOp (bH K) (aa 2) (tC (.int 0))) (ab (tC (.ty "str")) af))))) (aU (tOp (xN G.kvs G.forms true) (tOp (bH K) (aa 2) (tC (.int 0))) (tC (.ref G.forms))))) (aI (tC (.bl false))) ba)
 (ao (aA (tOp (AT G.kvs G.forms) (tC (.ref G.forms)) (tOp (bH K) (aa 2) (tC (.int 0)))) (ag 3))
 (ao (br (aU (tOp rNe (tCB (bY K) (ab (aa 2) af)) (tOp (rI0 fun i j=>.int (i+j)) (tC (.int 1)) (tCB (bY K) (ab (aa 3) af))))) (aI (tC (.bl false))) ba)
 (aI (tCB (AO K) (ab (bo (kl ee ee K (ab (aa 3) (ab (tSl (xM K) (aa 2) (rX (tC (.int 1))) mP) af))) (fun _ _ _ _=>(cM K 2 (aZ (ag 0) (aZ (ag 1) cL)))) (fun _ _ _ _=>aS) (fun _ _ _ _=>(ap (vf K) [] E0 (ab (aa 2) (ab (aa 3) (ab (aa 0) (ab (aa 1) af)))))) [none,none,some 0,some 1]) af)))))))
theorem Iq{H:Hp}{Q:VK}{kvs:List (Str×V)}{a:Addr}{k:Str}{v:V}(e:kvs.lookup k=some v)(h:Q (.bl false) H):xN kvs a true (.str k) (.ref a) H Q:=⟨rfl,k,rfl,by rw[e];exact h⟩
theorem EN(K:Fg):Ku K (.type "str") (.type "str")=some true:=yd K "str"
theorem A6{K:Fg}{G:Glo}(g:sS K G){vs:List V}{H:Hp}{Q:VK}{E:XK}(h:nO K vs H Q E):lY K G { nx:=fun _ H'=>Q .non H',rt:=Q } (start ["cards","hands","thing","form"] vs) H:=by
 obtain⟨c,h,v,s,rfl,hs,ok,q⟩:=h;obtain⟨a,items,rfl,ha,hl,hf⟩:=EM hs ok;obtain⟨f,hk,tf⟩:=g.form s;have hfl:=s.form_len;show lY K G _ [some _,some _,some _,none] _;unfold lY;right;refine gH (.tup ha) (jz K) ?_;right;refine aE (by show¬(((items.length+1:Nat):Int)=0);omega) ?_;right;refine aB (SqT.of ha) (kT _ _) ?_;right;refine gH (.str _) (EN K) ?_;right;refine aB (SqT.of ha) (kT _ _) ?_;right;refine Iq hk ?_;right;refine aB (SqT.of ha) (kT _ _) ?_;refine FJ hk ?_;right;refine zZ (tf.sq _) ?_;right;rw[JB];refine rh (fun n=>absurd (show((items.length+1:Nat):Int)=1+((s.form.length:Nat):Int) by omega) n) (fun _=>?_);right;refine AS (SqT.of ha) (mr _ _) fun b H1 hb s1 e1=>?_;rw[rk]at e1;right;refine lc (S1:=ee) (S2:=ee) (s.form.map V.str) items (tf.sq _) (SqT.of e1) (fun H' _=>tf.sq _) (fun H' s'=>SqT.of (s' _ _ e1)) (by rw[JB];omega) (fun i acc _=>acc=(Km i true).map V.bl) (fun _ _=>rfl) ?_ ?_
 ·rintro p hp C s' H' fp i x y T acc H2 H3 hx hy ⟨s2,e2,l2,rfl⟩ hT s3 e3 e4
  obtain⟨z,hz,rfl⟩:∃z,s.form[i]?=some z/\x=.str z:=by
   rw[JS]at hx;cases e:s.form[i]? with
   |none=>rw[e]at hx;cases hx
   |some z=>rw[e]at hx;exact⟨z,rfl,(JR hx).symm⟩
  refine dh (SqT.of e3) ?_;right;refine⟨c,h,z,y,rfl,(hf i z y hz hy).same ((s1.trans s2).trans s3),?_⟩;exact aW.put hp (fun _ _ _ _ r _=>r) (s2.trans s3) e4 l2 (by rw[Nn,JY];rfl)
 ·rintro p acc H2 hp s2 e2 rfl
  right;refine⟨p,_,rfl,SqL.of e2,?_⟩;rw[show∀n:Nat,(Km n true).all id=true from fun n=>by simp];exact q _ (s1.trans s2)
noncomputable def iK(_:Fg):Sp:=fun vs H Q _=>∃(l:Addr)(xs:List V)(ss:List Sy),vs=[.ref l]/\H l=some (.lst xs)/\fR H xs ss/\xs.length<=100/\∀(p:Addr)(ys:List V)(H':Hp),am H H'->H p=none->H' p=some (.lst ys)->fR H' ys (ss.flatMap Sy.subs)->Q (.ref p) H'
noncomputable def fT(K:Fg):TS:=(ao (aA (db af) (ag 1))
 (ao (cQ (ca K (aa 0)) (ag 2) (cE (tBM K "list" uT (aa 1) (ab (ap (mE K) [] E0 (ab (aa 2) af)) af))))
 (aI (aa 1))))
theorem Ir{α β:Type}{F:α->β->Prop}{l l':List α}{m m':List β}(h:Paired F l m)(q:Paired F l' m'):Paired F (l++l') (m++m'):=by
 induction h with
 |nil=>exact q
 |cons x _ ih=>exact .cons x ih
theorem Aj:∀ss:List Sy,(ss.flatMap Sy.subs).length<=2*ss.length
 | []=>JF _
 |s::r=>by
  have:=Aj r;have:s.subs.length<=2:=by cases s<;>simp[Sy.subs]
  rw[Pi,JX,Kd];omega
theorem tq(h:iK K vs H Q E):fT K { nx:=fun _ H'=>Q .non H',rt:=Q } (start ["sayings","parts","saying"] vs) H:=by
 obtain⟨l,xs,ss,rfl,el,hx,h100,q⟩:=h;show fT K _ [some _,none,none] _;unfold fT;have lxs:=fz hx;right;refine⟨by simp[JJ],fun p H1 hp s1 e1=>?_⟩;right;refine mR xs (SqL.of (s1 _ _ el)) (fun i σ H2=>∃(u:Option V)(ys:List V),σ=[some (.ref l),some (.ref p),u]/\am H H2/\H2 p=some (.lst ys)/\fR H2 ys ((ss.take i).flatMap Sy.subs)) ⟨none,[],rfl,s1,e1,.nil⟩ ?_ ?_ ?_
 ·rintro i σ H2 hi ⟨u,ys,rfl,s2,_⟩
  exact SqL.of (s2 _ _ el)
 ·rintro i x σ H2 hxi ⟨u,ys,rfl,s2,e2,p2⟩
  obtain⟨s,hs,is⟩:=lW hx hxi;have lys:=fz p2;have:=Aj (ss.take i);rw[Ly]at this;right;refine⟨.inl ⟨rfl,_,SqL.of e2⟩,?_⟩;right;refine⟨x,s,rfl,is.keep s2.keep,fun p3 zs H3 s3 hp3 e3 y3 l3=>?_⟩;right;refine Eo (s3 _ _ e2) e3 (by rw[JJ];omega) fun H4 o4 e4=>?_;have k4:cS H3 H4:=fun b ws e=>(o4 b fun z=>by rw[z,s3 _ _ e2]at e;cases e).trans e;refine⟨_,ys++zs,rfl,(s2.trans s3).off hp o4,e4,?_⟩;rw[Ls,hs,OA];refine Ir ((p2.keep s3.keep).keep k4) ?_;show Paired _ zs (s.subs++[]);rw[LH];exact y3.keep k4
 ·rintro σ H2 ⟨u,ys,rfl,s2,e2,p2⟩
  rw[lxs,Ki]at p2;right;exact q p ys H2 s2 hp e2 p2
theorem yj:∀ss:List Sy,(ss.map Sy.words).sum=ss.length+((ss.flatMap Sy.subs).map Sy.words).sum
 | []=>rfl
 |s::r=>by
  rw[JZ,J9,yj r,s.words_subs,Pi,JY,Ll,Kd];omega
theorem GM{c h:Nat}{s:Sy}(ok:s.Ok c h):∀t∈s.subs,t.Ok c h:=by
 cases s with
 |holds w k=>exact fun t ht=>nomatch ht
 |sees k=>exact fun t ht=>nomatch ht
 |not s=>exact fun t ht=>by rw[JE.mp ht];exact ok
 |and s t=>exact fun u hu=>(JH.mp hu).elim (fun z=>z▸ok.1) fun z=>JE.mp z▸ok.2
 |or s t=>exact fun u hu=>(JH.mp hu).elim (fun z=>z▸ok.1) fun z=>JE.mp z▸ok.2
 |knows k s=>exact fun t ht=>by rw[JE.mp ht];exact ok.2
 |all g s=>exact fun t ht=>by rw[JE.mp ht];exact ok.2
 |common g s=>exact fun t ht=>by rw[JE.mp ht];exact ok.2
noncomputable def lw(_:Fg):Sp:=fun vs H Q _=>∃(c h:Nat)(v:V)(s:Sy),vs=[.int c,.int h,v]/\aN H v s/\s.Ok c h/\s.words<=30/\∀H',am H H'->Q (.bl true) H'
noncomputable def jH(K:Fg):TS:=(ao (br (tOr (dH (tB (ap (gu K) [] E0 (ab (aa 0) af)))) (dH (tB (ap (gu K) [] E0 (ab (aa 1) af))))) (aI (tC (.bl false))) ba)
 (ao (aA (tC (.int 0)) (ag 3))
 (ao (aA (db (ab (aa 2) af)) (ag 4))
 (ao (im (aU (tOp (rI0 fun i j=>.bl (decide (j<i))) (tCB (bY K) (ab (aa 4) af)) (tC (.int 0)))) (ao (aA (tOp (rI0 fun i j=>.int (i+j)) (aa 3) (tCB (bY K) (ab (aa 4) af))) (ag 3))
 (ao (br (tOr (aU (tOp (rI0 fun i j=>.bl (decide (j<i))) (aa 3) (tC (.int 30)))) (dH (tB (tCB (AO K) (ab (bo (ca K (aa 4)) (fun _ _ _ _=>(ag 0)) (fun _ _ _ _=>aS) (fun _ _ _ _=>(ap (nO K) [] E0 (ab (aa 1) (ab (aa 2) (ab (aa 0) af))))) [none,some 0,some 1]) af))))) (aI (tC (.bl false))) ba)
 (aA (ap (iK K) [] E0 (ab (aa 4) af)) (ag 4)))))
 (aI (tC (.bl true)))))))
theorem yk(h:lw K vs H Q E):jH K { nx:=fun _ H'=>Q .non H',rt:=Q } (start ["cards","hands","thing","words","level"] vs) H:=by
 obtain⟨c,h,v,s,rfl,hs,ok,hw,q⟩:=h;show jH K _ [some _,some _,some _,none,none] _;unfold jH;right;refine⟨_,rfl,d4.int _,?_⟩;right;refine AN ?_;right;refine⟨_,rfl,d4.int _,?_⟩;right;refine AN ?_;right;refine⟨by simp[JJ],fun p H1 hp s1 e1=>?_⟩;refine iB ?_;dsimp only[LR,LS];refine cG ?_;refine pV (fun m σ H2=>∃(W:Nat)(l:Addr)(xs:List V)(ss:List Sy),σ=[some (.int c),some (.int h),some v,some (.int W),some (.ref l)]/\am H H2/\H2 l=some (.lst xs)/\fR H2 xs ss/\(∀t∈ss,t.Ok c h)/\m=(ss.map Sy.words).sum/\W+m<=30) s.words
  ⟨0,p,[v],[s],rfl,s1,e1,.cons (hs.keep s1.keep) .nil,fun t ht=>by rw[JE.mp ht];exact ok,by simp,by omega⟩ ?_
 rintro m σ H2 ⟨W,l,xs,ss,rfl,s2,e2,hx,hok,rfl,hW⟩;have lxs:=fz hx;have e:=yj ss;right;refine bW (fun c0=>?_) (fun c0=>?_)
 ·refine pU ?_
  right;refine aE (by omega) ?_;right;refine cK xs (SqL.of e2) (by omega) (fun i acc _=>acc=(Km i true).map V.bl) (fun _ _=>rfl) ?_ ?_
  ·rintro p' hp' C s' H' fp i x acc H3 hxi ⟨s3,e3,l3,rfl⟩
   obtain⟨t,ht,it⟩:=lW hx hxi;right;refine⟨c,h,x,t,rfl,it.keep s3.keep,hok t (JK ht),fun H4 s4=>?_⟩;exact aW.put hp' (fun _ _ _ _ r _=>r) (s3.trans s4) (s4 _ _ e3) l3 (by rw[Nn,JY];rfl)
  ·rintro p' acc H3 hp' s3 e3 rfl
   right;refine⟨p',_,rfl,SqL.of e3,?_⟩;rw[show∀n:Nat,(Km n true).all id=true from fun n=>by simp];right;refine⟨l,xs,ss,rfl,s3 _ _ e2,hx.keep s3.keep,by omega,fun p4 ys H4 s4 hp4 e4 y4=>?_⟩;right;refine⟨_,by omega,W+xs.length,p4,ys,_,rfl,(s2.trans s3).trans s4,e4,y4,fun t ht=>?_,rfl,by omega⟩;obtain⟨u,hu,ht⟩:=R3.mp ht;exact GM (hok u hu) t ht
 ·right
  exact q _ s2
end
section
variable{K:Fg}{vs:List V}{H:Hp}{Q:VK}{E:XK}
noncomputable def jI(K:Fg):TS:=(ao (aA (tOp (rI (fun _ j=>0<j) fun i j=>.int (i%j)) (ap (bj K) [] E0 (ab (aa 0) (ab (aa 1) af))) (tC (.int 8))) (ag 3))
 (ao (br (aU (tOp rEq (tOp (rI (fun _ j=>0<j) fun i j=>.int (i%j)) (tOp (rI dI fun i j=>.int (i/j)) (ap (bj K) [] E0 (ab (aa 0) (ab (aa 1) af))) (tC (.int 8))) (tC (.int 16))) (tC (.int 5)))) (aA (tOp (rI0 fun i j=>.int (i+j)) (tC (.int 8)) (tOp (rI (fun _ j=>0<j) fun i j=>.int (i%j)) (tOp (rI dI fun i j=>.int (i/j)) (ap (bj K) [] E0 (ab (aa 0) (ab (aa 1) af))) (tC (.int 128))) (tC (.int 5)))) (ag 3)) ba)
 (ao (aA (db af) (ag 4))
 (ao (cQ (cZ (ab (tOp (rI0 fun i j=>.int (i+j)) (tC (.int 1)) (tOp (rI (fun _ j=>0<j) fun i j=>.int (i%j)) (ap (bj K) [] E0 (ab (aa 0) (ab (tOp (rI0 fun i j=>.int (i+j)) (aa 1) (tC (.int 1))) af))) (tC (.int 5)))) af)) (ag 5) (cE (tBM K "list" d8 (aa 4) (ab (tOp (rI (fun _ j=>0<j) fun i j=>.int (i%j)) (ap (bj K) [] E0 (ab (aa 0) (ab (tOp (rI0 fun i j=>.int (i+j)) (tOp (rI0 fun i j=>.int (i+j)) (aa 1) (tC (.int 2))) (aa 5)) af))) (tOp (rI0 fun i j=>.int (i+j)) (tCB AQ (ab (tC (.int 4)) (ab (tOp (rI0 fun i j=>.int (i-j)) (aa 3) (tCB (rj K) (ab (aa 4) af))) af))) (tC (.int 1)))) af))))
 (ao (im (aU (tOp (rI0 fun i j=>.bl (decide (j<i))) (ap (gJ K) [] E0 (ab (aa 3) (ab (aa 4) af))) (aa 2))) (ao (br (aU (tOp (rI0 fun i j=>.bl (decide (j<i))) (tCB (uW K) (ab (aa 4) af)) (tOp (rI0 fun i j=>.int (i-j)) (aa 3) (tCB (rj K) (ab (aa 4) af))))) (aA (tOp (rI0 fun i j=>.int (i-j)) (tCB (uW K) (ab (aa 4) af)) (tC (.int 1))) (kW (aa 4) (tBM K "list" xJ (aa 4) (ab (tCB (uW K) (ab (aa 4) af)) af)) lM)) ba)
 (aA (tOp (rI0 fun i j=>.int (i-j)) (aa 3) (tC (.int 1))) (ag 3))))
 (aI (cD (ab (aa 3) (ab (aa 4) af)))))))))
theorem yl(h:li K vs H Q E):jI K { nx:=fun _ H'=>Q .non H',rt:=Q } (start ["_law_script","_law_at","_law_most","_law_cards","_law_sizes","_law_k"] vs) H:=by
 obtain⟨a,ns,at_,most,rfl,hSc,ha0,ha1,hm,g⟩:=h;show jI K _ [some _,some _,some _,none,none,none] _;unfold jI;refine cG ?_;nofun;refine⟨a,ns,at_,rfl,hSc,ha0,by omega,?_⟩;nofun;refine b9 fun NX hNX=>?_;have key:∀c:Nat,c<=12->NX [some (.ref a),some (.int at_),some (.int most),some (.int c),none,none] H:=by
  intro c hc;refine hNX _ _ ?_;refine cG ?_;nofun;refine⟨by simp[JJ],fun q H1 hq s1 e1=>?_⟩;nofun;refine b9 fun NX hNX=>?_;have hSc1:=hSc.same s1;nofun;refine⟨a,ns,at_+1,rfl,hSc1,by omega,by omega,?_⟩;nofun;refine k9 (1+bv ns (at_+1)%5).toNat rfl (by omega) (by omega) (fun i σ H2=>∃(ss:List Nat)(st:Option V),σ=[some (.ref a),some (.int at_),some (.int most),some (.int c),some (.ref q),st]/\am H H2/\H2 q=some (.lst (ar ss))/\ss.length=i/\ss.sum<=c) ⟨[],none,rfl,s1,e1,rfl,Ks _⟩ ?_ ?_
  ·rintro i σ H2 hi ⟨ss,st,rfl,s2,e2,hl,hs⟩
   have hSc2:=hSc.same s2;right;refine⟨pT e2,?_⟩;right;refine⟨a,ns,at_+2+(i:Int),rfl,hSc2,by omega,by omega,?_⟩;right;refine AR (ns:=ss.map fun(s:Nat)=>((s:Nat):Int)) (by rw[<-cB];exact SqL.of e2) ?_;right;rw[gZ];obtain⟨lst,hlst,hlst2⟩:∃l:Nat,(if(c:Int)-((ss.sum:Nat):Int)<4 then(c:Int)-((ss.sum:Nat):Int)else 4)=(l:Int)/\l<=c-ss.sum:=by
    by_cases h:(c:Int)-((ss.sum:Nat):Int)<4
    ·exact⟨c-ss.sum,by rw[if_pos h];omega,JF _⟩
    ·exact⟨4,by rw[if_neg h];rfl,by omega⟩
   rw[hlst];right;obtain⟨z,hz,hz2⟩:∃z:Nat,bv ns (at_+2+(i:Int))%((lst:Int)+1)=(z:Int)/\z<=lst:=by
    have m1:=My (bv ns (at_+2+(i:Int))) (b:=(lst:Int)+1) (by omega);have m2:=Md (bv ns (at_+2+(i:Int))) (b:=(lst:Int)+1) (by omega);exact⟨(bv ns (at_+2+(i:Int))%((lst:Int)+1)).toNat,by omega,by omega⟩
   rw[hz];refine fq e2 (by rw[be,JJ];omega) fun H4 o4 e4=>?_;rw[fw]at e4;refine⟨ss++[z],_,rfl,s2.off hq o4,e4,by rw[JX,hl];rfl,?_⟩;rw[Ll,J9,Nk];omega
  ·rintro σ H2 ⟨ss,st,rfl,s2,e2,hl,hs⟩
   exact hNX _ _ (C0 s2 hq e2 (by omega) (by omega) hs hc hm g)
 nofun;refine⟨a,ns,at_,rfl,hSc,ha0,by omega,?_⟩;nofun;refine bW (fun hb=>?_) (fun hb=>?_)
 ·nofun
  refine⟨a,ns,at_,rfl,hSc,ha0,by omega,?_⟩;nofun;have:=key (8+bv ns at_/128%5).toNat (by omega);rw[show(((8+bv ns at_/128%5).toNat:Nat):Int)=8+bv ns at_/128%5 by omega]at this;exact this
 ·nofun
  have:=key (bv ns at_%8).toNat (by omega);rw[show(((bv ns at_%8).toNat:Nat):Int)=bv ns at_%8 by omega]at this;exact this
end
theorem aW.putW{H H4:Hp}{p:Addr}{R:Nat->List V->Hp->Prop}{i:Nat}{acc:List V}{y:V}(hp:H p=none)(s:am H H4)(e:H4 p=some (.lst acc))(l:acc.length<=i)(r:∀H6,Off p H4 H6->R (i+1) (acc++[y]) H6):
  H4 p=some (.lst acc)/\aW H p R (i+1) (acc++[y]) (upd H4 p (.lst (acc++[y]))):=
 ⟨e,s.upd hp _,az,by rw[JX];exact QH l 1,r _ fO⟩
section
variable{g:CF TG}{tt:CF TT}{te:CF TE}{σ₀:St}{Q:VK}{H:Hp}{K:Fg}
theorem EO{a:Addr}(xs:List V)(hx:SqL K H a xs)(hz:xs.length<=1000000)(R:Addr->Nat->List V->Hp->Prop)(h0:∀p H',am H H'->R p 0 [] H')
  (hs:∀p,H p=none->∀C s' H' fp,∀i x acc H2,xs[i]?=some x->aW H p (R p) i acc H2->g C s' H' fp x σ₀ H2 fun σ2 H3=>tt C s' H' fp σ2 H3 fun b H4=>if b=true then te C s' H' fp σ2 H4 fun y H5=>H5 p=some (.lst acc)/\aW H p (R p) (i+1) (acc++[y]) (upd H5 p (.lst (acc++[y])))else aW H p (R p) (i+1) acc H4)
  (hd:∀p acc H2,H p=none->am H H2->H2 p=some (.lst acc)->R p xs.length acc H2->Q (.ref p) H2):
  ∃a',V.ref a=.ref a'/\(∃xs,SqL K H a' xs)/\∀p,H p=none->∃W:Nat->Nat->List V->Hp->Prop,(∃m,W 0 m [] (upd H p (.lst [])))/\∀C s' H' fp,bE (Itl K a') (g C s' H' fp) (tt C s' H' fp) (te C s' H' fp) σ₀ p Q W:=
 ⟨a,rfl,⟨xs,hx⟩,fun p hp=>oR (aW H p (R p)) ⟨bc hp _,az,JF _,h0 _ _ (bc hp _)⟩ (fun i acc H2 _ c=>⟨c.2.1,c.2.2.1⟩) (fun i acc H2 _ c=>c.1.seq hx) (by rw[JJ];omega) (fun C s' H' fp i x acc H2 hi c=>hs p hp C s' H' fp i x acc H2 hi c) fun acc H2 c=>hd p acc H2 hp c.1 c.2.1 c.2.2.2⟩
theorem lZ{j:Int}(n:Nat)(hn:j.toNat=n)(hj:j<=1000000)(hj0:-1000000<=j)(R:Addr->Nat->List V->Hp->Prop)(h0:∀p H',am H H'->R p 0 [] H')
  (hs:∀p,H p=none->∀C s' H' fp,∀i acc H2,i<n->aW H p (R p) i acc H2->g C s' H' fp (.int i) σ₀ H2 fun σ2 H3=>tt C s' H' fp σ2 H3 fun b H4=>if b=true then te C s' H' fp σ2 H4 fun y H5=>H5 p=some (.lst acc)/\aW H p (R p) (i+1) (acc++[y]) (upd H5 p (.lst (acc++[y])))else aW H p (R p) (i+1) acc H4)
  (hd:∀p acc H2,H p=none->am H H2->H2 p=some (.lst acc)->R p n acc H2->Q (.ref p) H2):
  ∃j':Int,[V.int j]=[.int j']/\-(2^62)<=j'/\j'<2^62/\∀p,H p=none->∃W:Nat->Nat->List V->Hp->Prop,(∃m,W 0 m [] (upd H p (.lst [])))/\∀C s' H' fp,bE (Itr 0 j'.toNat) (g C s' H' fp) (tt C s' H' fp) (te C s' H' fp) σ₀ p Q W:=by
 refine⟨j,rfl,by omega,by omega,fun p hp=>?_⟩;subst hn;exact np (lo:=0) (aW H p (R p)) ⟨bc hp _,az,JF _,h0 _ _ (bc hp _)⟩ (fun i acc H2 _ c=>⟨c.2.1,c.2.2.1⟩) (by rw[JJ];omega) (fun C s' H' fp i acc H2 hi c=>by rw[PD];exact hs p hp C s' H' fp i acc H2 hi c) fun acc H2 c=>hd p acc H2 hp c.1 c.2.1 c.2.2.2
end
section
open PySem.Spec
theorem cc.units64{k:Nat}{A:Around}(r:cc k A):A.units+64<cLine:=by have:=r.un;omega
section
variable{X:Cx}
theorem OpR.weak{f:Value->Value->Sem Value}{r r':R2}(h:OpR X f r)(w:∀x y H Q,r' x y H Q->r x y H Q):OpR X f r':=fun pins s σ H x y v u Q I rx ry q=>h pins s σ H x y v u Q I rx ry (w x y H Q q)
theorem cU.weak{f:Value}{r r':List V->Hp->VK->Prop}(h:cU X f r)(w:∀xs H Q,r' xs H Q->r xs H Q):cU X f r':=fun pins s σ H xs us Q I rx q=>h pins s σ H xs us Q I rx (w xs H Q q)
theorem mX:OpR X (MA .Add) oV:=Ct.weak fun _ _ _ _ ⟨l,b,xs,zs,e1,e2,h1,h2,hz,q⟩=>⟨l,b,xs,zs,e1,e2,h1,h2,hz,q.upd⟩
theorem Dh:OpR X (MA .Mult) En:=HJ.weak fun _ _ _ _ ⟨l,k,xs,e1,e2,h1,h2,h3,hz,q⟩=>⟨l,k,xs,e1,e2,h1,h2,h3,hz,q.upd⟩
theorem fU:cU X (.type "list") (fv X.K):=xB.weak fun _ _ _ ⟨p,ys,e,h,q⟩=>⟨p,ys,e,h,q.upd⟩
theorem ym:cU X (.type "tuple") (pW X.K):=oo.weak fun _ _ _ ⟨p,ys,e,h,q⟩=>⟨p,ys,e,.inl ⟨h,q.upd⟩⟩
end
section
variable{X:Cx}{es:List Expr}{t:TA}{pos:Pos}
theorem bQ{x1}(h:PA X es t):PE X (.Tuple es x1 pos) (cD t):=by
 intro pins s σ H Q I hq;refine QS (thn (h pos pins s σ H _ I hq) fun us s1 ⟨xs,H1,I1,r,z,q⟩=>⟨by rw[<-r.length];exact z,?_⟩);have hf:H1 s1.heap.objs.size=none:=I1.hok.fresh (JF _);refine⟨.ref s1.heap.objs.size,upd H1 s1.heap.objs.size (.tup xs),I1.laid (t':=s1.toks) (fun b u e=>JA _ e) (JF _) ?_,rfl,q.upd _ hf⟩;exact⟨z,us,r,d6.new _ _⟩
theorem cg(h:PA X es t):PE X (.List es pos) (db t):=by
 intro pins s σ H Q I hq;refine Q9 (thn (h pos pins s σ H _ I hq) fun us s1 ⟨xs,H1,I1,r,z,q⟩=>⟨by rw[<-r.length];exact z,?_⟩);have hf:H1 s1.heap.objs.size=none:=I1.hok.fresh (JF _);refine⟨.ref s1.heap.objs.size,upd H1 s1.heap.objs.size (.lst xs),I1.laid (t':=s1.toks) (fun b u e=>JA _ e) (JF _) ?_,rfl,q.upd _ hf⟩;exact⟨z,us,0,r,JM _ rfl⟩
end
section
variable{X:Cx}{es:List Expr}{te:TE}{t:TA}
theorem aq{v:Const}{j:Nat}{p:Pos}(ha:PE X (.Constant v j p) te)(hr:PA X es t):PA X (.Constant v j p::es) (ab te t):=eU ha hr rfl
theorem ac{x:Str}{p:Pos}(ha:PE X (.Name x p) te)(hr:PA X es t):PA X (.Name x p::es) (ab te t):=eU ha hr rfl
theorem aK{a b:Expr}{o:Operator}{p:Pos}(ha:PE X (.BinOp a o b p) te)(hr:PA X es t):PA X (.BinOp a o b p::es) (ab te t):=eU ha hr rfl
theorem aP{f:Expr}{as:List Expr}{ks:List Keyword}{p:Pos}(ha:PE X (.Call f as ks p) te)(hr:PA X es t):PA X (.Call f as ks p::es) (ab te t):=eU ha hr rfl
theorem bC{as:List Expr}{k:Nat}{p:Pos}(ha:PE X (.Tuple as k p) te)(hr:PA X es t):PA X (.Tuple as k p::es) (ab te t):=eU ha hr rfl
theorem EQ{as:List Expr}{p:Pos}(ha:PE X (.List as p) te)(hr:PA X es t):PA X (.List as p::es) (ab te t):=eU ha hr rfl
theorem ay{a b:Expr}{p:Pos}(ha:PE X (.Subscript a b p) te)(hr:PA X es t):PA X (.Subscript a b p::es) (ab te t):=eU ha hr rfl
theorem qS{a:Expr}{os:List CmpOp}{bs:List Expr}{p:Pos}(ha:PE X (.Compare a os bs p) te)(hr:PA X es t):PA X (.Compare a os bs p::es) (ab te t):=eU ha hr rfl
theorem bN{e:Expr}(ha:PE X e te)(hr:PA X es t)(hs:J4 (e::es) X.env=(false,eval e X.env)::J4 es X.env:=by rfl):PA X (e::es) (ab te t):=eU ha hr hs
structure Jx(N:List Str)(sc:Scope)(i:Nat)(x:Str):Prop where
 n:N[i]?=some x
 v:Vis sc x
 d:(x==("__debug__":Str))=false
 c:(x==("__classdict__":Str))=false
end
end
section
open PySem.Spec
theorem yn{X:Cx}:SlR X (xM X.K):=fun pins s σ H x v vl vu lo hi sl Q I rx hs pl pu ⟨a,xs,e,h,n,q⟩=>Hx pins s σ H x v vl vu lo hi sl Q I rx hs pl pu ⟨a,xs,e,h,n,q.upd⟩
noncomputable def tw(P:Program)(w:World)(K:Fg)(a:Addr)(kvs:List (Str×V)):Prop:=
 (a==LF)=false/\∃(o:Obj)(es:Array Q5)(ep:Nat)(vs:List (Key×Value)),K.lookup a=some o/\o.ExactDict/\o.data=.dict es ep/\KeysOf (hZ P w) es/\Pairs (hZ P w) es.toList vs/\(vs.map (·.1)).Nodup/\
  Paired (fun(p:Str×V)(q:Key×Value)=>q.1=.inr p.1/\aO p.2 q.2) kvs vs
theorem kr{k:Str}{v:V}:∀{kvs:List (Str×V)} {vs:List (Key×Value)},Paired (fun(p:Str×V)(q:Key×Value)=>q.1=.inr p.1/\aO p.2 q.2) kvs vs->kvs.lookup k=some v->∃u,valueAt vs (.inr k)=some u/\aO v u
 |_,_,.nil,h=>by cases h
 |_,_,.cons (a:=p) (b:=q) r t,h=>by
  obtain⟨x,y⟩:=p;obtain⟨kq,u⟩:=q;obtain⟨r1,r2⟩:=r;simp only at r1 r2;subst r1;rw[KC]at h;unfold valueAt;rw[Kl];by_cases e:k=x
  ·subst e
   rw[beq_self_eq_true]at h;cases h;rw[show decide ((LC k:Key)=LC k)=true from decide_eq_true rfl];exact⟨u,rfl,r2⟩
  ·rw[show(k==x)=false from beq_eq_false_iff_ne.mpr e]at h
   rw[show decide ((LC x:Key)=LC k)=false from decide_eq_false fun z=>e (Nr z).symm];exact kr t h
section
variable{X:Cx}{o i:Expr}{pos:Pos}{td ty:TE}{a:Addr}{kvs:List (Str×V)}
theorem tw.of{pins:List (Addr×Obj)}{σ:St}{H:Hp}{s:Shared}(D:tw X.prog X.w X.K a kvs)(I:Inv X pins σ H s):∃vs,s.heap.DictOf (hZ X.prog X.w) a vs/\Paired (fun(p:Str×V)(q:Key×Value)=>q.1=.inr p.1/\aO p.2 q.2) kvs vs:=by
 obtain⟨_,o,es,ep,vs,lk,ex,hd,hk,hp,nd,rel⟩:=D;exact⟨vs,⟨o,es,ep,I.kIn a o lk,ex,hd,hk,hp,nd⟩,rel⟩
theorem Di(D:tw X.prog X.w X.K a kvs)(ho:PE X o td)(hi:PE X i ty)(hs:Er i):PE X (.Subscript o i pos) (tOp (AT kvs a) td ty):=by
 intro pins s σ H Q I h;refine Ac Pn.lookup hs (thn (ho pins s σ H _ I h) fun u s1 ⟨x,H1,I1,rx,q1⟩=>thn (hi pins s1 σ H1 _ I1 q1) fun iv s2 ⟨y,H2,I2,ry,ex,k,v,ey,el,q2⟩=>?_);subst ex ey;obtain rfl:u=J8 a:=rx;obtain⟨vs,dd,rel⟩:=D.of I2;obtain⟨w',hw,rw'⟩:=kr rel el;exact⟨dd.typeIs,R6 (FK (k:=.inr k) ry) dd.mapOf hw ⟨v,H2,I2.tok _,rw',q2⟩⟩
theorem qT{k:Str}:∀{kvs:List (Str×V)} {vs:List (Key×Value)},Paired (fun(p:Str×V)(q:Key×Value)=>q.1=.inr p.1/\aO p.2 q.2) kvs vs->kvs.lookup k=none->valueAt vs (.inr k)=none
 |_,_,.nil,_=>rfl
 |_,_,.cons (a:=p) (b:=q) r t,h=>by
  obtain⟨x,y⟩:=p;obtain⟨kq,u⟩:=q;obtain⟨r1,r2⟩:=r;simp only at r1 r2;subst r1;rw[KC]at h;unfold valueAt;rw[Kl];by_cases e:k=x
  ·subst e
   rw[beq_self_eq_true]at h;cases h
  ·rw[show(k==x)=false from beq_eq_false_iff_ne.mpr e]at h
   rw[show decide ((LC x:Key)=LC k)=false from decide_eq_false fun z=>e (Nr z).symm];exact qT t h
theorem yo(D:tw X.prog X.w X.K a kvs):OpR X (Lk .NotIn) (xN kvs a true):=by
 intro pins s σ H x y v u Q I rx ry h;obtain⟨rfl,k,rfl,q⟩:=h;obtain rfl:u=J8 a:=ry;obtain⟨vs,dd,rel⟩:=D.of I;refine wpAny_notIn_of (FK (k:=.inr k) rx) D.1 dd.mapOf ?_;refine⟨.bl (!(kvs.lookup k).isSome),H,I.tok _,?_,q⟩;cases e:kvs.lookup k with
 |none=>rw[qT rel e];rfl
 |some v'=>
  obtain⟨w',hw,_⟩:=kr rel e;rw[hw];rfl
end
end
section
open PySem.Spec
structure ER(P:Program)(w:World)(K:Fg)(mg:Str->Option Value)(G:Glo):Prop where
 ok:sS K G
 mf:mg "FORMS"=some (.ref G.forms)
 df:tw P w K G.forms G.kvs
theorem ig{K:Fg}{a:Addr}{od:Option Addr}{its:Array Value}{n:Nat}{sl:Array (Option Value)}(l:K.lookup a=some ⟨.type "tuple",od,.seq its n,sl⟩)(xs:List V)(hz:its.size<=JP)(r:aL xs its.toList):km K a xs:=⟨_,its,n,l,rfl,rfl,hz,r⟩
theorem GN{P:Program}{w:World}{K:Fg}{mg:Str->Option Value}{aF aC f1 f2 f3 f4 f5 f6 f7 f8:Addr}{k1 k2 k3 k4 k5 k6 k7 k8 u1 u2 u3 u4 u5 u6 u7 u8 u9 ua ub uc ud ue:Tok}{ep n1 n2 n3 n4 n5 n6 n7 n8:Nat}{o1 o2 o3 o4 o5 o6 o7 o8:Option Addr}{s1 s2 s3 s4 s5 s6 s7 s8:Array (Option Value)}
  (nF:(aF==LF)=false) (mf:mg "FORMS"=some (.ref aF))
  (lF:K.lookup aF=some ⟨.type "dict",none,.dict #[⟨KS w.params "holds",.str "holds" k1,.ref f1⟩,⟨KS w.params "not",.str "not" k2,.ref f2⟩,⟨KS w.params "and",.str "and" k3,.ref f3⟩,⟨KS w.params "or",.str "or" k4,.ref f4⟩,
   ⟨KS w.params "knows",.str "knows" k5,.ref f5⟩,⟨KS w.params "all",.str "all" k6,.ref f6⟩,⟨KS w.params "common",.str "common" k7,.ref f7⟩,⟨KS w.params "sees",.str "sees" k8,.ref f8⟩] ep,#[]⟩)
  (l1:K.lookup f1=some ⟨.type "tuple",o1,.seq #[.str "holder" u1,.str "card" u2] n1,s1⟩) (l2:K.lookup f2=some ⟨.type "tuple",o2,.seq #[.str "saying" u3] n2,s2⟩) (l3:K.lookup f3=some ⟨.type "tuple",o3,.seq #[.str "saying" u4,.str "saying" u5] n3,s3⟩) (l4:K.lookup f4=some ⟨.type "tuple",o4,.seq #[.str "saying" u6,.str "saying" u7] n4,s4⟩)
  (l5:K.lookup f5=some ⟨.type "tuple",o5,.seq #[.str "hand" u8,.str "saying" u9] n5,s5⟩) (l6:K.lookup f6=some ⟨.type "tuple",o6,.seq #[.str "hands" ua,.str "saying" ub] n6,s6⟩) (l7:K.lookup f7=some ⟨.type "tuple",o7,.seq #[.str "hands" uc,.str "saying" ud] n7,s7⟩) (l8:K.lookup f8=some ⟨.type "tuple",o8,.seq #[.str "hand" ue] n8,s8⟩)
  : ER P w K mg ⟨aF,aC,f1,f2,f3,f4,f5,f6,f7,f8⟩ where
 mf:=mf
 ok:=⟨ig l1 _ (by show 2<=JP;decide) (.cons ⟨_,rfl⟩ (.cons ⟨_,rfl⟩ .nil)),ig l2 _ (by show 1<=JP;decide) (.cons ⟨_,rfl⟩ .nil),ig l3 _ (by show 2<=JP;decide) (.cons ⟨_,rfl⟩ (.cons ⟨_,rfl⟩ .nil)),ig l4 _ (by show 2<=JP;decide) (.cons ⟨_,rfl⟩ (.cons ⟨_,rfl⟩ .nil)),
  ig l5 _ (by show 2<=JP;decide) (.cons ⟨_,rfl⟩ (.cons ⟨_,rfl⟩ .nil)),ig l6 _ (by show 2<=JP;decide) (.cons ⟨_,rfl⟩ (.cons ⟨_,rfl⟩ .nil)),ig l7 _ (by show 2<=JP;decide) (.cons ⟨_,rfl⟩ (.cons ⟨_,rfl⟩ .nil)),ig l8 _ (by show 1<=JP;decide) (.cons ⟨_,rfl⟩ .nil)⟩
 df:=by
  refine⟨nF,_,_,_,[(.inr "holds",.ref f1),(.inr "not",.ref f2),(.inr "and",.ref f3),(.inr "or",.ref f4),(.inr "knows",.ref f5),(.inr "all",.ref f6),(.inr "common",.ref f7),(.inr "sees",.ref f8)],lF,⟨rfl,rfl,rfl⟩,rfl,?_,?_,?_,?_⟩
  ·intro e he
   simp only[List.mem_toArray,Array.mem_def,JH,KL,or_false]at he;rcases he with rfl|rfl|rfl|rfl|rfl|rfl|rfl|rfl
   ·exact⟨.inr "holds",bx P w _ _,rfl⟩
   ·exact⟨.inr "not",bx P w _ _,rfl⟩
   ·exact⟨.inr "and",bx P w _ _,rfl⟩
   ·exact⟨.inr "or",bx P w _ _,rfl⟩
   ·exact⟨.inr "knows",bx P w _ _,rfl⟩
   ·exact⟨.inr "all",bx P w _ _,rfl⟩
   ·exact⟨.inr "common",bx P w _ _,rfl⟩
   ·exact⟨.inr "sees",bx P w _ _,rfl⟩
  ·exact .cons (bx P w _ _) rfl (.cons (bx P w _ _) rfl (.cons (bx P w _ _) rfl (.cons (bx P w _ _) rfl (.cons (bx P w _ _) rfl (.cons (bx P w _ _) rfl (.cons (bx P w _ _) rfl (.cons (bx P w _ _) rfl .nil)))))))
  ·show([.inr "holds",.inr "not",.inr "and",.inr "or",.inr "knows",.inr "all",.inr "common",.inr "sees"]:List Key).Nodup
   decide+kernel
  ·exact .cons ⟨rfl,rfl⟩ (.cons ⟨rfl,rfl⟩ (.cons ⟨rfl,rfl⟩ (.cons ⟨rfl,rfl⟩ (.cons ⟨rfl,rfl⟩ (.cons ⟨rfl,rfl⟩ (.cons ⟨rfl,rfl⟩ (.cons ⟨rfl,rfl⟩ .nil)))))))
end
section
open PySem.Spec
theorem bI.there{P:Program}{w:World}{H:Hp}{h:Heap}{a:Addr}{o:HO}(x:bI P w H h a o):∃ob,h.get? a=some ob:=by
 cases o with
 |lst xs=>obtain⟨_,_,_,_,e⟩:=x;exact⟨_,e⟩
 |tup xs=>obtain⟨_,_,_,_,e,_⟩:=x;exact⟨_,e⟩
 |dK kvs=>obtain⟨_,_,_,_,o,_,_,e,_⟩:=x;exact⟨_,e⟩
 |dT kvs=>obtain⟨_,_,_,_,o,_,_,e,_⟩:=x;exact⟨_,e⟩
 |set S n=>obtain⟨o,_,_,_,e,_⟩:=x;exact⟨_,e⟩
 |ins C dx fs=>obtain⟨_,_,_,e,_⟩:=x;exact⟨_,e⟩
 |own y=>exact x
 |xd fs=>obtain⟨_,⟨_,_,_,e,_⟩,_⟩:=x;exact⟨_,e⟩
 |rng lo hi=>obtain⟨_,_,_,e⟩:=x;exact⟨_,e⟩
 |frz ob u=>obtain⟨e,_⟩:=x;exact⟨_,e⟩
 |tbl ps=>exact⟨_,x⟩
 |met f y=>exact⟨_,x⟩
 |ext φ=>obtain⟨_,e,_⟩:=x;exact e
section
variable{P:Program}{w:World}{K:Fg}{mg:Str->Option Value}{base:Heap}{N:List Str}{qual:Str}{scope:Scope}{f:Addr}{cd:Value}{A:Around}{outer:List Env}{s:Shared}{H:Hp}{E:XK}
end
end
section
open PySem.Spec
section
variable{X:Cx}{pins:List (Addr×Obj)}{σ:St}{H:Hp}{s:Shared}{B h':Heap}
end
section
variable{X:Cx}{pins pn pins':List (Addr×Obj)}{σ:St}{H:Hp}{s:Shared}{B:Heap}{E:Value->Shared->Prop}{a:Addr}
end
end
section
open PySem.Spec PySem.W
section
variable{prog:Program}{w:World}{A:Around}{E:Value->Shared->Prop}{h:Heap}{g:Array Qy}{d:Drawn}{t:Nat}{os:OsState}{a:Addr}{o:Obj}{C:Addr}{K:Frag}
end
end
section
open PySem.Spec PySem.W
end
section
open PySem.Spec PySem.W
section
variable{P:Program}{w:World}{K:Frag}{mg:Str->Option Value}{base:Heap}{k:Nat}{f:Addr}{fd:JV}{ps:List Str}
end
end
section
open PySem.Spec PySem.W
section
variable{P:Program}{w:World}{K:Frag}{mg:Str->Option Value}{base:Heap}
noncomputable def FnM(P:Program)(w:World)(K:Frag)(mg:Str->Option Value)(base:Heap)(k:Nat)(C:Addr)(m:Str)(ps:List Str)(sp:Sp):Prop:=
 ∃f fd,gi P w K mg base CX0 k f fd ps sp/\xu K C m f/\eK K fd ps []
structure fA(K:Frag)(C:Addr)(m qual:Str)(st:Stmt)(ps:List Str)(f:Addr)(fd:JV):Prop where
 fn:Fun K m qual st f fd
 mt:xu K C m f
 b:eK K fd ps []
theorem fA.ok{C:Addr}{m qual:Str}{st:Stmt}{N ps:List Str}{f:Addr}{fd:JV}{k:Nat}{sp:Sp}(D:fA K C m qual st ps f fd)(S:ax N ps (aj st))(len:∀vs H Q E,sp vs H Q E->vs.length=ps.length)
  (hbody:∀(cdv:Value)(A:Around)(outer:List Env)(s:Shared)(H:Hp)(vs:List V)(Q:VK)(E:XK),cc k (A.deeper (envOfC qual (aj st) s.heap.objs.size f cdv))->sp vs H Q E->
   ∃t,PSs (m9 CX0 P w K mg base N qual (aj st) f cdv A outer s H E).nox (d9 st) t/\t { nx:=fun _ H'=>Q .non H',rt:=Q } (start N vs) H):FnM P w K mg base (k+1) C m ps sp:=
 ⟨f,fd,D.fn.ok S len hbody,D.mt,D.b⟩
noncomputable def FnI(P:Program)(w:World)(K:Frag)(mg:Str->Option Value)(base:Heap)(k:Nat)(C:Addr)(ps:List Str)(sp:Sp):Prop:=
 ∃f fd,gi P w K mg base CX0 k f fd ps sp/\Mk K C f/\eK K fd ps []
structure yp(K:Frag)(C:Addr)(qual:Str)(st:Stmt)(ps:List Str)(f:Addr)(fd:JV):Prop where
 fn:Fun K "__init__" qual st f fd
 made:Mk K C f
 b:eK K fd ps []
theorem yp.ok{C:Addr}{qual:Str}{st:Stmt}{N ps:List Str}{f:Addr}{fd:JV}{k:Nat}{sp:Sp}(D:yp K C qual st ps f fd)(S:ax N ps (aj st))(len:∀vs H Q E,sp vs H Q E->vs.length=ps.length)
  (hbody:∀(cdv:Value)(A:Around)(outer:List Env)(s:Shared)(H:Hp)(vs:List V)(Q:VK)(E:XK),cc k (A.deeper (envOfC qual (aj st) s.heap.objs.size f cdv))->sp vs H Q E->
   ∃t,PSs (m9 CX0 P w K mg base N qual (aj st) f cdv A outer s H E).nox (d9 st) t/\t { nx:=fun _ H'=>Q .non H',rt:=Q } (start N vs) H):FnI P w K mg base (k+1) C ps sp:=
 ⟨f,fd,D.fn.ok S len hbody,D.made,D.b⟩
end
section
variable{X:Cx}{k:Nat}{C:Addr}{m:Str}{ps:List Str}{sp:Sp}{p pos apos:Pos}{o e:Expr}{es:List Expr}{ta:TE}{t:TA}
theorem bm{a:Expr}{f:Str}{p:Pos}{te:TE}(ha:PE X (.Attribute a f p) te)(hr:PA X es t):PA X (.Attribute a f p::es) (ab te t):=eU ha hr rfl
theorem eO{pl:Sem Bool}(F:FnM X.prog X.w X.K X.mg X.base k C m ps sp)(hr:cc k X.A)(c:Cls X.K C)(he:PE X o ta)(ha:PA X (e::es) t)
  (hst:J4 (e::es) X.env=(false,eval e X.env)::J4 es X.env:=by rfl) (hpl:(backTo pos (J4 es X.env)).any (·.1)=false:=by rfl)
  (ht:eval (.Call (.Attribute o m apos) (e::es) [] pos) X.env=(do
   let ov <-eval o X.env
   standAt apos.atName
   let(f,first) <-holding [ov] (OO ov m pl)
   RP pos f first (backTo pos (J4 (e::es) X.env)) (N4 pos (M8 [] X.env))):=by rfl):
  PE X (.Call (.Attribute o m apos) (e::es) [] pos) (eJ C m sp [] E0 ta t):=by
 obtain⟨f,fd,ok,mt,b⟩:=F;exact Ge he c mt ok hr b .nil w5 ha hst hpl ht
theorem Dj{pl:Sem Bool}(F:FnM X.prog X.w X.K X.mg X.base k C m ps sp)(hr:cc k X.A)(c:Cls X.K C)(he:PE X o ta)
  (ht:eval (.Call (.Attribute o m apos) [] [] pos) X.env=(do
   let ov <-eval o X.env
   standAt apos.atName
   let(f,first) <-holding [ov] (OO ov m pl)
   RP pos f first (backTo pos (J4 [] X.env)) (N4 pos (M8 [] X.env))):=by rfl):
  PE X (.Call (.Attribute o m apos) [] [] pos) (eJ C m sp [] E0 ta af):=by
 obtain⟨f,fd,ok,mt,b⟩:=F;exact Ea he c mt ok hr b .nil w5 ht
theorem yq{x:Str}(F:FnI X.prog X.w X.K X.mg X.base k C ps sp)(hr:cc (k+1) X.A)(hm:X.mg x=some (.ref C))(ha:PA X (e::es) t)(hg:Gl X x:=by rfl)
  (hdb:(x==("__debug__":Str))=false:=by decide) (he:J4 (e::es) X.env=(false,eval e X.env)::J4 es X.env:=by rfl) (hpl:(backTo pos (J4 es X.env)).any (·.1)=false:=by rfl):
  PE X (.Call (.Name x p) (e::es) [] pos) (rV C sp [] E0 t):=by
 obtain⟨f,fd,ok,mk,b⟩:=F;exact Gf mk ok hr hg hm b .nil w5 ha hdb he hpl
end
end
section
open PySem.Spec PySem.W
structure mF(K:Frag)(C:Addr):Prop where
 cl:Cls K C
 n1:dN K C "dealt"
 n2:dN K C "cards"
 n3:dN K C "sizes"
 n4:dN K C "hands"
 n5:dN K C "views"
 n6:dN K C "deeds"
set_option genInjectivity false in
structure GF extends Glo where
 Table:Addr
structure dq(P:Program)(w:World)(K:Frag)(mg:Str->Option Value)(G:GF):Prop where
 tb:ER P w K mg G.toGlo
 m_Table:mg "Table"=some (.ref G.Table)
 ct:mF K G.Table
theorem dq.cl_Table{P:Program}{w:World}{K:Frag}{mg:Str->Option Value}{G:GF}(T:dq P w K mg G):Cls K G.Table:=T.ct.cl
theorem ES{P:Program}{w:World}{K:Frag}{mg:Str->Option Value}{G:Glo}{aT:Addr}(t:ER P w K mg G)(m:mg "Table"=some (.ref aT))(pg:plainGet K aT SF=true)(hd:hasDictIn K aT=true)(po:plainOver K aT=true)(sa:findIn K (.ref aT) "__setattr__"=some (some (.builtin "object.__setattr__")))
  (n1:findIn K (.ref aT) "dealt"=some none) (n2:findIn K (.ref aT) "cards"=some none) (n3:findIn K (.ref aT) "sizes"=some none) (n4:findIn K (.ref aT) "hands"=some none) (n5:findIn K (.ref aT) "views"=some none) (n6:findIn K (.ref aT) "deeds"=some none):dq P w K mg ⟨G,aT⟩:=
 ⟨t,m,⟨⟨pg,hd,po,sa⟩,n1,n2,n3,n4,n5,n6⟩⟩
end
end L2
section
namespace L2
open PySem
end L2
end
section
namespace L2
open PySem
noncomputable def rD(K:Fg)(t:TA):TE:=fun σ H Q=>t σ H fun xs H1=>∃(p:Addr)(ns:List Int),xs=[.ref p]/\SqL K H1 p (ns.map V.int)/\ns.length<64/\
 ∀(q:Addr)(H':Hp)(ms:List Int),H1 q=none->am H1 H'->H' q=some (.lst (ms.map V.int))->ms.Pairwise (· < ·)->(∀y,y∈ms↔y∈ns)->Q (.ref q) H'
theorem Dl{K:Fg}{t:TA}{σ:St}{H:Hp}{Q:VK} (h:t σ H fun xs H1=>∃(p:Addr)(ns:List Int),xs=[.ref p]/\SqL K H1 p (ns.map V.int)/\ns.length<64/\
 ∀(q:Addr)(H':Hp)(ms:List Int),H1 q=none->am H1 H'->H' q=some (.lst (ms.map V.int))->ms.Pairwise (· < ·)->(∀y,y∈ms↔y∈ns)->Q (.ref q) H'):rD K t σ H Q:=h
theorem yr{α:Type}[DecidableEq α]:∀{l m:List α},l.Nodup->(∀x∈l,x∈m)->l.length<=m.length
 | [],m,_,_=>Ks _
 |x::l,m,nd,h=>by
  have hx:x∈m:=h x JI;obtain⟨n1,n2⟩:=Mg.mp nd;have:=yr (m:=m.erase x) n2 fun y hy=>(List.mem_erase_of_ne (fun e:y=x=>n1 (e▸hy))).mpr (h y (JO _ hy));rw[List.length_erase_of_mem hx]at this;have:=List.length_pos_of_mem hx;rw[Kd];omega
end L2
end
namespace L2
open PySem PyProof.Rows
noncomputable def GE(P:Hp->V->Prop)(σ:St)(H0:Hp)(te:TE):Prop:=∀H,am H0 H->∀Q:VK,(∀x H',am H H'->P H' x->Q x H')->te σ H Q
noncomputable def GA(P:Hp->V->Prop)(σ:St)(H0:Hp)(n:Nat)(ta:TA):Prop:=∀H,am H0 H->∀R:List V->Hp->Prop,(∀xs H',am H H'->xs.length=n->(∀x∈xs,P H' x)->R xs H')->ta σ H R
theorem GA.nil{P:Hp->V->Prop}{σ:St}{H0:Hp}:GA P σ H0 0 af:=fun H s R q=>FG (q [] H (am.refl _) rfl fun _ h=>(nomatch h))
theorem GA.cons{P:Hp->V->Prop}(st:∀H H' x,am H H'->P H x->P H' x){σ:St}{H0:Hp}{n:Nat}{te:TE}{tr:TA}(b:GE P σ H0 te)(t:GA P σ H0 n tr):GA P σ H0 (n+1) (ab te tr):=fun H s R q=>
 CI (b H s _ fun x H1 s1 px=>t H1 (s.trans s1) _ fun xs H2 s2 hl hb=>q (x::xs) H2 (s1.trans s2) (by rw[Kd,hl]) fun y hy=>by
  rcases JH.mp hy with rfl|hy
  ·exact st _ _ _ s2 px
  ·exact hb y hy)
theorem pE{P:Hp->V->Prop}(st:∀H H' x,am H H'->P H x->P H' x){σ:St}{H0 H:Hp}{n:Nat}{ta:TA}{R:List V->Hp->Prop}(s:am H0 H)(b:GA P σ H0 n ta)(q:∀xs H',am H H'->xs.length=n->(∀x∈xs,P H' x)->R xs H'):ta σ H R:=b H s R q
theorem ma(z:Int){m:Int}(h:0<m):∃k:Nat,z%m=(k:Int)/\(k:Int)<m:=by
 have m1:=My z (b:=m) (by omega);have m2:=Md z h;exact⟨(z%m).toNat,by omega,by omega⟩
section
variable{K:Fg}{vs:List V}{H:Hp}{Q:VK}{E:XK}
noncomputable def dc(_:Fg):Sp:=fun vs H Q _=>∃(z:Int)(h:Nat),vs=[.int z,.int h]/\h<=5/\∀(p:Addr)(g:List Nat)(H':Hp),am H H'->H' p=some (.tup (ar g))->g.Pairwise (· < ·)->(∀k∈g,k<h)->Q (.ref p) H'
noncomputable def iL(K:Fg):TS:=(aI (tCB (pW K) (ab (bo (cZ (ab (aa 1) af)) (fun _ _ _ _=>(ag 0)) (fun _ _ _ _=>(aU (tOp rEq (tOp (rI (fun _ j=>0<j) fun i j=>.int (i%j)) (tOp (rI dI fun i j=>.int (i/j)) (aa 1) (tOp (bT K) (db (ab (tC (.int 1)) (ab (tC (.int 2)) (ab (tC (.int 4)) (ab (tC (.int 8)) (ab (tC (.int 16)) af)))))) (aa 0))) (tC (.int 2))) (tC (.int 1))))) (fun _ _ _ _=>(aa 0)) [none,some 0]) af)))
theorem at5{i:Nat}(h:i<5):∃v:Int,atI [V.int 1,V.int 2,V.int 4,V.int 8,V.int 16] (i:Int)=some (.int v)/\0<v/\v<=16:=by
 match i,h with
 |0,_=>exact⟨1,rfl,by decide,by decide⟩
 |1,_=>exact⟨2,rfl,by decide,by decide⟩
 |2,_=>exact⟨4,rfl,by decide,by decide⟩
 |3,_=>exact⟨8,rfl,by decide,by decide⟩
 |4,_=>exact⟨16,rfl,by decide,by decide⟩
theorem wu(h:dc K vs H Q E):iL K { nx:=fun _ H'=>Q .non H',rt:=Q } (start ["_law_number","_law_hands"] vs) H:=by
 obtain⟨z,h,rfl,h5,q⟩:=h;show iL K _ [some _,some _] _;unfold iL;right;refine jp h (by omega) (by omega) (by omega) (fun i acc _=>∃g:List Nat,acc=ar g/\g.Pairwise (· < ·)/\∀k∈g,k<i) (fun _ _=>⟨[],rfl,.nil,fun _ h=>(nomatch h)⟩) ?_ ?_
 ·rintro p hp C s' H' fp i acc H2 hi ⟨s2,e2,l2,g,rfl,pw,hb⟩
  right;refine⟨by simp[JJ],fun b H3 hb3 s3 e3=>?_⟩;right;obtain⟨v,hv,v0,v16⟩:=at5 (i:=i) (by omega);refine bz (SqL.of e3) hv ?_;right;have e23:=s3 _ _ e2;refine bW (fun c=>?_) (fun c=>?_)
  ·right
   refine aW.put hp (fun _ _ _ _ r _=>r) (s2.trans s3) e23 l2 ⟨g++[i],by rw[<-fw],?_,fun k hk=>?_⟩
   ·rw[Ou]
    exact⟨pw,PM _ _,fun x hx y hy=>by rw[JE]at hy;have:=hb x hx;omega⟩
   ·rcases Ka.mp hk with hk|hk
    ·have:=hb k hk;omega
    ·rw[JE]at hk;omega
  ·exact aW.skip (s2.trans s3) e23 l2 ⟨g,rfl,pw,fun k hk=>by have:=hb k hk;omega⟩
 ·intro p acc H2 hp s2 e2 ⟨g,hg,pw,hb⟩
  subst hg;right;exact Aa (SqL.of e2) fun t H3 ht s3 e3=>q t g H3 (s2.trans s3) e3 pw hb
noncomputable def tz(H:Hp)(x:V):Option Sy->Prop
 |some t=>aN H x t
 |none=>(∃i,x=.int i)\/∃b g,x=.ref b/\H b=some (.tup (ar g))
theorem tz.keep{H H':Hp}(k:cS H H'){x:V}{o:Option Sy}(h:tz H x o):tz H' x o:=by
 cases o with
 |some t=>exact aN.keep k h
 |none=>
  rcases h with h|⟨b,g,e,h⟩
  ·exact .inl h
  ·exact .inr ⟨b,g,e,k _ _ h⟩
theorem Ak{H:Hp}{v:V}{s:Sy}(h:aN H v s):∃a items os,v=.ref a/\H a=some (.tup (.str s.word::items))/\Paired (tz H) items os/\os.filterMap id=s.subs/\items.length<=2:=by
 cases s with
 |holds w c=>obtain⟨a,e,h⟩:=h;exact⟨a,_,[none,none],e,h,.cons (.inl ⟨_,rfl⟩) (.cons (.inl ⟨_,rfl⟩) .nil),rfl,by simp⟩
 |sees w=>obtain⟨a,e,h⟩:=h;exact⟨a,_,[none],e,h,.cons (.inl ⟨_,rfl⟩) .nil,rfl,by simp⟩
 |not s=>obtain⟨a,x,e,h,r⟩:=h;exact⟨a,_,[some s],e,h,.cons r .nil,rfl,by simp⟩
 |and s t=>obtain⟨a,x,y,e,h,r,q⟩:=h;exact⟨a,_,[some s,some t],e,h,.cons r (.cons q .nil),rfl,by simp⟩
 |or s t=>obtain⟨a,x,y,e,h,r,q⟩:=h;exact⟨a,_,[some s,some t],e,h,.cons r (.cons q .nil),rfl,by simp⟩
 |knows w s=>obtain⟨a,x,e,h,r⟩:=h;exact⟨a,_,[none,some s],e,h,.cons (.inl ⟨_,rfl⟩) (.cons r .nil),rfl,by simp⟩
 |all g s=>obtain⟨a,b,x,e,h,i,r⟩:=h;exact⟨a,_,[none,some s],e,h,.cons (.inr ⟨b,g,rfl,i⟩) (.cons r .nil),rfl,by simp⟩
 |common g s=>obtain⟨a,b,x,e,h,i,r⟩:=h;exact⟨a,_,[none,some s],e,h,.cons (.inr ⟨b,g,rfl,i⟩) (.cons r .nil),rfl,by simp⟩
noncomputable def dM(_:Fg)(n:Nat):Sp:=fun vs H Q _=>∃(v:V)(s:Sy),vs=[v]/\aN H v s/\s.words<=n/\∀H',am H H'->Q (.int (s.words:Nat)) H'
noncomputable def iM(K:Fg)(n:Nat):TS:=(ao (aA (tC (.int 1)) (ag 1))
 (ao (cQ (qX K (tSl (xM K) (aa 0) (rX (tC (.int 1))) mP)) (ag 2) (br (uN (tB (tCB (iu K) (ab (aa 2) (ab (tC (.ty "tuple")) af)))) (uN (aU (tOp (iw (SqT K) true) (aa 2) (cD af))) (tB (tCB (iu K) (ab (tOp (bH K) (aa 2) (tC (.int 0))) (ab (tC (.ty "str")) af)))))) (aA (tOp (rI0 fun i j=>.int (i+j)) (aa 1) (ap (dM K n) [] E0 (ab (aa 2) af))) (ag 1)) ba))
 (aI (aa 1))))
theorem ou(h:dM K 0 vs H Q E):False:=by
 obtain⟨v,s,rfl,_,h,_⟩:=h;have:=s.words_pos;omega
theorem Dm{K:Fg}{H:Hp}{Q:VK}{a b:Addr}{xs:List V}(h1:SqT K H a xs)(h2:SqT K H b [])(q:Q (.bl (!xs.isEmpty)) H):iw (SqT K) true (.ref a) (.ref b) H Q:=by
 refine⟨a,b,xs,[],fun _=>true,rfl,rfl,h1,h2,fun j x y _ hy=>by simp at hy,?_⟩;cases xs with
 |nil=>exact q
 |cons x r=>exact q
noncomputable def kt(os:List (Option Sy)):Nat:=((os.filterMap id).map Sy.words).sum
noncomputable def yt:Option Sy->Nat
 |some t=>t.words
 |none=>0
theorem Dn(os:List (Option Sy))(i:Nat)(o:Option Sy)(h:os[i]?=some o):kt (os.take (i+1))=kt (os.take i)+yt o:=by
 unfold kt;rw[Ls,h,List.filterMap_append,JY,Ll];cases o with
 |none=>simp[yt]
 |some t=>simp[yt]
theorem wv{K:Fg}{n:Nat}{vs:List V}{H:Hp}{Q:VK}{E:XK}(h:dM K (n+1) vs H Q E):iM K n { nx:=fun _ H'=>Q .non H',rt:=Q } (start ["_law_saying_here","_law_found","_law_part"] vs) H:=by
 obtain⟨v,s,rfl,hs,hw,q⟩:=h;obtain⟨a,items,os,rfl,e,hp,hos,h2⟩:=Ak hs;show iM K n _ [some _,none,none] _;unfold iM;right;refine AS (SqT.of e) (mr _ _) fun b H1 hb s1 e1=>?_;rw[rk]at e1;have hw':=s.words_subs;have hol:items.length=os.length:=by
  clear hos h2 e e1
  induction hp with
  |nil=>rfl
  |cons _ _ ih=>rw[Kd,Kd,ih]
 refine sg items (SqT.of e1) (fun i σ H2=>∃st,σ=[some (.ref a),some (.int (1+kt (os.take i):Nat)),st]/\am H1 H2) ⟨none,rfl,am.refl _⟩ (fun i σ H2 _ ⟨_,_,s2⟩=>SqT.of (s2 _ _ e1)) ?_ ?_
 ·rintro i x σ H2 hx ⟨st,rfl,s2⟩
  obtain⟨o,ho,io⟩:=kH hp hx;have ot:=Dn os i o ho;have io2:=io.keep (s1.trans s2).keep;cases o with
  |none=>
   have ot':kt (os.take (i+1))=kt (os.take i):=ot;rcases io2 with⟨j,rfl⟩|⟨g,gs,rfl,eg⟩
   ·right
    refine gH (.int _) (Af K "int" (by decide) "tuple" (by decide)) ?_;right;refine kh ?_;right;exact⟨_,by rw[ot'],s2⟩
   ·right
    refine gH (.tup eg) (jz K) ?_;right;refine⟨by simp[JJ],fun u H3 hu s3 e3=>?_⟩;refine Dm (SqT.of (s3 _ _ eg)) (SqT.of e3) ?_;right;cases gs with
    |nil=>
     refine kh ?_;right;exact⟨_,by rw[ot'],s2.trans s3⟩
    |cons k r=>
     refine ki ?_;right;refine aB (SqT.of (s3 _ _ eg)) (kT _ _) ?_;right;refine gH (.int _) (Af K "int" (by decide) "str" (by decide)) ?_;right;refine kh ?_;right;exact⟨_,by rw[ot'],s2.trans s3⟩
  |some t=>
   have ot':kt (os.take (i+1))=kt (os.take i)+t.words:=ot;have ts:t∈s.subs:=by rw[<-hos];exact ON.mpr ⟨some t,JK ho,rfl⟩
   have hb':=Sy.sub_words ts;obtain⟨a2,items2,_,rfl,et,_⟩:=Ak io2;right;refine gH (.tup et) (jz K) ?_;right;refine⟨by simp[JJ],fun u H3 hu s3 e3=>?_⟩;refine Dm (SqT.of (s3 _ _ et)) (SqT.of e3) ?_;right;refine ki ?_;right;refine aB (SqT.of (s3 _ _ et)) (kT _ _) ?_;right;refine gH (.str _) (yd K "str") ?_;right;refine⟨_,t,rfl,aN.keep s3.keep io2,by omega,fun H4 s4=>?_⟩;right;refine⟨some (.ref a2),?_,(s2.trans s3).trans s4⟩;rw[ot',show((1+kt (os.take i):Nat):Int)+((t.words:Nat):Int)=((1+(kt (os.take i)+t.words):Nat):Int) by omega]
 ·rintro σ H2 ⟨st,rfl,s2⟩
  right;have e:kt (os.take items.length)=(s.subs.map Sy.words).sum:=by rw[hol,Ki];unfold kt;rw[hos]
  rw[e,<-hw'];exact q _ (s1.trans s2)
structure fB(H H2:Hp)(r:Addr)(c h most:Nat)(ss:List Sy):Prop where
 same:am H H2
 new:H r=none
 at_:∃xs,H2 r=some (.lst xs)/\fR H2 xs ss
 ne:ss≠[]
 ok:∀s∈ss,s.Ok c h/\s.words<=most
theorem fB.push{H H2 H3:Hp}{r:Addr}{c h most:Nat}{ss:List Sy}{s:Sy}{v:V}{xs:List V}(R:fB H H2 r c h most ss)(e:H2 r=some (.lst xs))(o:Off r H2 H3)(e3:H3 r=some (.lst (xs++[v])))(hv:aN H2 v s)(ok:s.Ok c h)(w:s.words<=most):fB H H3 r c h most (ss++[s]) where
 same:=R.same.off R.new o
 new:=R.new
 at_:=by
  obtain⟨ys,ey,p⟩:=R.at_;rw[e]at ey;cases ey;exact⟨_,e3,nE (p.keep (o.keep e)) (.cons (hv.keep (o.keep e)) .nil)⟩
 ne:=by simp
 ok:=fun t ht=>by
  rcases Ka.mp ht with ht|ht
  ·exact R.ok t ht
  ·rw[JE]at ht;subst ht;exact⟨ok,w⟩
theorem fB.to{H H2 H3:Hp}{r:Addr}{c h most:Nat}{ss:List Sy}(R:fB H H2 r c h most ss)(s:am H2 H3):fB H H3 r c h most ss where
 same:=R.same.trans s
 new:=R.new
 at_:=by obtain⟨xs,e,p⟩:=R.at_;exact⟨xs,s _ _ e,p.keep s.keep⟩
 ne:=R.ne
 ok:=R.ok
noncomputable def lz(K:Fg):Sp:=fun vs H Q _=>∃(a:Addr)(ns:List Int)(at_:Int)(c h:Nat),vs=[.ref a,.int at_,.int c,.int h]/\eM K H a ns/\0<=at_/\at_<=1000/\1<=h/\∀(r:Addr)(ss:List Sy)(H':Hp),fB H H' r c h 1 ss->ss.length<=4->Q (.ref r) H'
noncomputable def jJ(K:Fg):TS:=(ao (aA (db (ab (cD (ab (tC (.str "sees")) (ab (tOp (rI (fun _ j=>0<j) fun i j=>.int (i%j)) (ap (bj K) [] E0 (ab (aa 0) (ab (aa 1) af))) (aa 3)) af))) af)) (ag 4))
 (ao (cQ (cZ (ab (tOp (rI Mp fun i j=>.int (i*j)) (tC (.int 3)) (tCB Em (ab (tOp (rI0 fun i j=>.bl (decide (j<i))) (aa 2) (tC (.int 0))) af))) af)) (ag 5) (ao (aA (ap (bj K) [] E0 (ab (aa 0) (ab (tOp (rI0 fun i j=>.int (i+j)) (tOp (rI0 fun i j=>.int (i+j)) (aa 1) (tC (.int 1))) (aa 5)) af))) (ag 6))
 (cE (tBM K "list" d8 (aa 4) (ab (cD (ab (tC (.str "holds")) (ab (tOp (rI (fun _ j=>0<j) fun i j=>.int (i%j)) (aa 6) (tOp (rI0 fun i j=>.int (i+j)) (aa 3) (tC (.int 1)))) (ab (tOp (rI (fun _ j=>0<j) fun i j=>.int (i%j)) (tOp (rI dI fun i j=>.int (i/j)) (aa 6) (tC (.int 7))) (aa 2)) af)))) af)))))
 (aI (aa 4))))
theorem yu(h:lz K vs H Q E):jJ K { nx:=fun _ H'=>Q .non H',rt:=Q } (start ["_law_script","_law_at","_law_cards","_law_hands","_law_pool_here","_law_k","_law_cell_here"] vs) H:=by
 obtain⟨a,ns,at_,c,h,rfl,hSc,ha0,ha1,h1,q⟩:=h;show jJ K _ [some _,some _,some _,some _,none,none,none] _;unfold jJ;right;refine⟨a,ns,at_,rfl,hSc,ha0,by omega,?_⟩;right;obtain⟨k,hk,hk2⟩:=ma (bv ns at_) (m:=(h:Int)) (by omega);rw[hk];refine⟨by simp[JJ],fun p1 H1 hp1 s1 e1=>?_⟩;right;refine⟨by simp[JJ],fun r H2 hr s2 e2=>?_⟩;have R0:fB H H2 r c h 1 [.sees k]:=⟨s1.trans s2,s1.free hr,⟨_,e2,.cons ⟨p1,rfl,s2 _ _ e1⟩ .nil⟩,by simp,fun s hs=>by rw[JE]at hs;subst hs;exact⟨show k<h by omega,JF _⟩⟩;right;obtain⟨n,hn,hn3,hnc⟩:∃n:Nat,((3:Int)*(if decide ((0:Int)<(c:Int))=true then 1 else 0))=(n:Int)/\n<=3/\(c=0->n=0):=by
  by_cases hc:(0:Int)<(c:Int)
  ·exact⟨3,by rw[if_pos (decide_eq_true hc)];rfl,JF _,fun z=>by omega⟩
  ·exact⟨0,by rw[if_neg (by rw[decide_eq_false hc];exact JQ)];rfl,by decide,fun _=>rfl⟩
 rw[hn];refine k9 n (by omega) (by omega) (by omega) (fun i σ H3=>∃(ss:List Sy)(v5 v6:Option V),σ=[some (.ref a),some (.int at_),some (.int c),some (.int h),some (.ref r),v5,v6]/\fB H H3 r c h 1 ss/\ss.length=i+1) ⟨_,none,none,rfl,R0,rfl⟩ ?_ ?_
 ·rintro i σ H3 hi ⟨ss,v5,v6,rfl,R,hl⟩
  have hc:0<c:=by
   rcases NC c with z|z
   ·have:=hnc z;omega
   ·exact z
  obtain⟨xs,e3,px⟩:=R.at_;have hxl:=fz px;right;refine⟨a,ns,at_+1+(i:Int),rfl,hSc.same R.same,by omega,by omega,?_⟩;right;refine⟨pT e3,?_⟩;right;obtain⟨k1,hk1,hk12⟩:=ma (bv ns (at_+1+(i:Int))) (m:=(h:Int)+1) (by omega);obtain⟨k2,hk2',hk22⟩:=ma (bv ns (at_+1+(i:Int))/7) (m:=(c:Int)) (by omega);rw[hk1,hk2'];refine⟨by simp[JJ],fun p4 H4 hp4 s4 e4=>?_⟩;right;refine fq (s4 _ _ e3) (by rw[JJ];omega) fun H5 o5 e5=>?_;exact⟨_,_,_,rfl,(R.to s4).push (s4 _ _ e3) o5 e5 (s:=.holds k1 k2) ⟨p4,rfl,e4⟩ ⟨by omega,by omega⟩ (JF _),by rw[JX,hl];rfl⟩
 ·rintro σ H3 ⟨ss,v5,v6,rfl,R,hl⟩
  right;exact q r ss H3 R (by omega)
noncomputable def fV(c h:Nat)(H:Hp)(x:V):Prop:=∃s:Sy,aN H x s/\s.Ok c h/\s.words<=63
theorem fV.same{c h:Nat}{H H':Hp}{x:V}(g:fV c h H x)(s:am H H'):fV c h H' x:=by
 obtain⟨t,i,o,w⟩:=g;exact⟨t,i.keep s.keep,o,w⟩
theorem pF{H:Hp}:∀{l:List V} {m:List Sy},fR H l m->l≠[]->∃x y,atI l (-1)=some x/\y∈m/\aN H x y:=by
 intro l m p hne;have hl:=fz p;have hp:0<l.length:=Oz.mpr hne;obtain⟨x,hx⟩:∃x,l[l.length-1]?=some x:=⟨_,JD (by omega)⟩;obtain⟨y,hy,iy⟩:=lW p hx;refine⟨x,y,?_,JK hy,iy⟩;unfold atI ixN;rw[if_neg (by decide),if_pos (by omega),show(-1+(l.length:Int)).toNat=l.length-1 by omega];exact hx
noncomputable def em(K:Fg):Sp:=fun vs H Q _=>∃(a:Addr)(ns:List Int)(at_:Int)(c h most:Nat),vs=[.ref a,.int at_,.int c,.int h,.int most]/\eM K H a ns/\0<=at_/\at_<=1000/\1<=h/\h<=5/\1<=most/\most<=30/\∀(v:V)(s:Sy)(H':Hp),am H H'->aN H' v s->s.Ok c h->s.words<=most->Q v H'
noncomputable def gL(K:Fg):TS:=(ao (aA (ap (lz K) [] E0 (ab (aa 0) (ab (aa 1) (ab (aa 2) (ab (aa 3) af))))) (ag 5))
 (ao (cQ (cZ (ab (tOp (rI (fun _ j=>0<j) fun i j=>.int (i%j)) (ap (bj K) [] E0 (ab (aa 0) (ab (tOp (rI0 fun i j=>.int (i+j)) (aa 1) (tC (.int 4))) af))) (tC (.int 12))) af)) (ag 6) (ao (aA (ap (bj K) [] E0 (ab (aa 0) (ab (tOp (rI0 fun i j=>.int (i+j)) (tOp (rI0 fun i j=>.int (i+j)) (aa 1) (tC (.int 5))) (aa 6)) af))) (ag 7))
 (ao (aA (tOp (bT K) (aa 5) (tUn (rU fun i=>.int (-i)) (tC (.int 1)))) (ag 8))
 (ao (aA (tOp (bT K) (aa 5) (tOp (rI (fun _ j=>0<j) fun i j=>.int (i%j)) (tOp (rI dI fun i j=>.int (i/j)) (aa 7) (tC (.int 12))) (tCB (bY K) (ab (aa 5) af)))) (ag 9))
 (ao (aA (db (ab (cD (ab (tC (.str "not")) (ab (aa 8) af))) (ab (cD (ab (tC (.str "and")) (ab (aa 8) (ab (aa 9) af)))) (ab (cD (ab (tC (.str "or")) (ab (aa 9) (ab (aa 8) af)))) (ab (cD (ab (tC (.str "not")) (ab (aa 9) af))) af))))) (ag 10))
 (ao (aA (tOp oV (aa 10) (db (ab (cD (ab (tC (.str "knows")) (ab (tOp (rI (fun _ j=>0<j) fun i j=>.int (i%j)) (tOp (rI dI fun i j=>.int (i/j)) (aa 7) (tC (.int 7))) (aa 3)) (ab (aa 8) af)))) (ab (cD (ab (tC (.str "knows")) (ab (tOp (rI (fun _ j=>0<j) fun i j=>.int (i%j)) (tOp (rI dI fun i j=>.int (i/j)) (aa 7) (tC (.int 7))) (aa 3)) (ab (cD (ab (tC (.str "not")) (ab (aa 8) af))) af)))) af)))) (ag 10))
 (ao (aA (tOp oV (aa 10) (db (ab (cD (ab (tC (.str "all")) (ab (ap (dc K) [] E0 (ab (tOp (rI dI fun i j=>.int (i/j)) (aa 7) (tC (.int 36))) (ab (aa 3) af))) (ab (aa 8) af)))) (ab (cD (ab (tC (.str "common")) (ab (ap (dc K) [] E0 (ab (tOp (rI dI fun i j=>.int (i/j)) (aa 7) (tC (.int 36))) (ab (aa 3) af))) (ab (aa 9) af)))) af)))) (ag 10))
 (ao (aA (tOp oV (aa 10) (db (ab (cD (ab (tC (.str "common")) (ab (ap (dc K) [] E0 (ab (tOp (rI dI fun i j=>.int (i/j)) (aa 7) (tC (.int 36))) (ab (aa 3) af))) (ab (aa 8) af)))) (ab (cD (ab (tC (.str "knows")) (ab (tOp (rI (fun _ j=>0<j) fun i j=>.int (i%j)) (tOp (rI dI fun i j=>.int (i/j)) (aa 7) (tC (.int 7))) (aa 3)) (ab (aa 9) af)))) af)))) (ag 10))
 (ao (aA (tOp oV (aa 10) (db (ab (cD (ab (tC (.str "and")) (ab (aa 9) (ab (cD (ab (tC (.str "not")) (ab (aa 8) af))) af)))) (ab (cD (ab (tC (.str "or")) (ab (aa 8) (ab (cD (ab (tC (.str "knows")) (ab (tOp (rI (fun _ j=>0<j) fun i j=>.int (i%j)) (tOp (rI dI fun i j=>.int (i/j)) (aa 7) (tC (.int 7))) (aa 3)) (ab (aa 9) af)))) af)))) af)))) (ag 10))
 (br (aU (tOp (rI0 fun i j=>.bl (decide (i<=j))) (ap (dM K 70) [] E0 (ab (tOp (bT K) (aa 10) (tOp (rI (fun _ j=>0<j) fun i j=>.int (i%j)) (aa 7) (tC (.int 12)))) af)) (aa 4))) (cE (tBM K "list" d8 (aa 5) (ab (tOp (bT K) (aa 10) (tOp (rI (fun _ j=>0<j) fun i j=>.int (i%j)) (aa 7) (tC (.int 12)))) af))) ba))))))))))
 (aI (tOp (bT K) (aa 5) (tUn (rU fun i=>.int (-i)) (tC (.int 1)))))))
theorem vg(h:em K vs H Q E):gL K { nx:=fun _ H'=>Q .non H',rt:=Q } (start ["_law_script","_law_at","_law_cards","_law_hands","_law_most","_law_pool_here","_law_k","_law_cell_here","_law_one","_law_other","_law_some"] vs) H:=by
 obtain⟨a,ns,at_,c,h,most,rfl,hSc,ha0,ha1,h1,h5,hm1,hm30,q⟩:=h;show gL K _ [some _,some _,some _,some _,some _,none,none,none,none,none,none] _;unfold gL;right;refine⟨a,ns,at_,c,h,rfl,hSc,ha0,ha1,h1,fun r ss0 H1 R0 hl4=>?_⟩;right;refine⟨a,ns,at_+4,rfl,hSc.same R0.same,by omega,by omega,?_⟩;right;have R1:fB H H1 r c h most ss0:=⟨R0.same,R0.new,R0.at_,R0.ne,fun s hs=>⟨(R0.ok s hs).1,by have:=(R0.ok s hs).2;omega⟩⟩;refine k9 (bv ns (at_+4)%12).toNat rfl (by omega) (by omega) (fun i σ H2=>∃(ss:List Sy)(v6 v7 v8 v9 v10:Option V),σ=[some (.ref a),some (.int at_),some (.int c),some (.int h),some (.int most),some (.ref r),v6,v7,v8,v9,v10]/\fB H H2 r c h most ss/\ss.length<=4+i) ⟨ss0,none,none,none,none,none,rfl,R1,by omega⟩ ?_ ?_
 ·rintro i σ H2 hi ⟨ss,v6,v7,v8,v9,v10,rfl,R,hl⟩
  obtain⟨xs,e2,px⟩:=R.at_;have hxl:=fz px;have hne:xs≠[]:=fun z=>R.ne (MV.mp (by rw[<-hxl,z];rfl));have hpos:0<xs.length:=Oz.mpr hne;refine iB ?_;dsimp only[LR,LS];refine cG ?_;nofun;refine⟨a,ns,at_+5+(i:Int),rfl,hSc.same R.same,by omega,by omega,?_⟩;generalize bv ns (at_+5+(i:Int))=z;nofun;refine cG ?_;nofun;obtain⟨x1,s1,hx1,hs1,is1⟩:=pF px hne;obtain⟨ok1,w1⟩:=R.ok s1 hs1;refine bz (SqL.of e2) hx1 ?_;nofun;refine cG ?_;nofun;obtain⟨x2,hx2,hm2⟩:=CJ xs (z/12) rfl hpos;obtain⟨j2,hj2⟩:=QI hm2;obtain⟨s2,hs2,is2⟩:=lW px hj2;obtain⟨ok2,w2⟩:=R.ok s2 (JK hs2);refine bz (SqL.of e2) hx2 ?_;nofun;refine cG ?_;refine kG ?_;refine pX ?_;refine pE (P:=fV c h) (fun _ _ _ s g=>g.same s) (H0:=H2) (n:=4) (am.refl _) ?_ fun ys0 Hy0 sy0 ly0 by0=>?_
  ·skip
   refine GA.cons (fun _ _ _ s g=>g.same s) (n:=3) ?_ ?_
   ·intro H' s' Q q
    have i1:=is1.keep s'.keep;have i2:=is2.keep s'.keep;right;refine⟨by simp[JJ],fun p1 G1 hp1 t1 e1=>?_⟩;have I1:aN G1 (.ref p1) (.not s1):=⟨p1,_,rfl,e1,(aN.keep (am.keep t1) i1)⟩;exact q _ _ t1 ⟨_,I1,ok1,by simp only[Sy.words];omega⟩
   refine GA.cons (fun _ _ _ s g=>g.same s) (n:=2) ?_ ?_
   ·intro H' s' Q q
    have i1:=is1.keep s'.keep;have i2:=is2.keep s'.keep;right;refine⟨by simp[JJ],fun p1 G1 hp1 t1 e1=>?_⟩;have I1:aN G1 (.ref p1) (.and s1 s2):=⟨p1,_,_,rfl,e1,(aN.keep (am.keep t1) i1),(aN.keep (am.keep t1) i2)⟩;exact q _ _ t1 ⟨_,I1,⟨ok1,ok2⟩,by simp only[Sy.words];omega⟩
   refine GA.cons (fun _ _ _ s g=>g.same s) (n:=1) ?_ ?_
   ·intro H' s' Q q
    have i1:=is1.keep s'.keep;have i2:=is2.keep s'.keep;right;refine⟨by simp[JJ],fun p1 G1 hp1 t1 e1=>?_⟩;have I1:aN G1 (.ref p1) (.or s2 s1):=⟨p1,_,_,rfl,e1,(aN.keep (am.keep t1) i2),(aN.keep (am.keep t1) i1)⟩;exact q _ _ t1 ⟨_,I1,⟨ok2,ok1⟩,by simp only[Sy.words];omega⟩
   refine GA.cons (fun _ _ _ s g=>g.same s) (n:=0) ?_ ?_
   ·intro H' s' Q q
    have i1:=is1.keep s'.keep;have i2:=is2.keep s'.keep;right;refine⟨by simp[JJ],fun p1 G1 hp1 t1 e1=>?_⟩;have I1:aN G1 (.ref p1) (.not s2):=⟨p1,_,rfl,e1,(aN.keep (am.keep t1) i2)⟩;exact q _ _ t1 ⟨_,I1,ok2,by simp only[Sy.words];omega⟩
   exact GA.nil
  refine⟨by rw[ly0,JJ];decide,fun l0 Hl0 hl0 sl0 el0=>?_⟩;have sL0:am H2 Hl0:=sy0.trans sl0;have L0:ys0.length=4:=ly0;have B0:∀x∈ys0,fV c h Hl0 x:=fun x hx=>(by0 x hx).same sl0;have eL0:=el0;refine iB ?_;dsimp only[LR,LS];generalize hX0:ys0=X0 at *;refine cG ?_;refine kG ?_;refine rg ?_;refine nu rfl ?_;refine pX ?_;refine pE (P:=fV c h) (fun _ _ _ s g=>g.same s) (H0:=H2) (n:=2) sL0 ?_ fun ys1 Hy1 sy1 ly1 by1=>?_
  ·skip
   refine GA.cons (fun _ _ _ s g=>g.same s) (n:=1) ?_ ?_
   ·intro H' s' Q q
    have i1:=is1.keep s'.keep;have i2:=is2.keep s'.keep;right;obtain⟨kk1,hk1,hk21⟩:=ma (z/7) (m:=(h:Int)) (by omega);rw[hk1];refine⟨by simp[JJ],fun p1 G1 hp1 t1 e1=>?_⟩;have I1:aN G1 (.ref p1) (.knows kk1 s1):=⟨p1,_,rfl,e1,(aN.keep (am.keep t1) i1)⟩;exact q _ _ t1 ⟨_,I1,⟨by omega,ok1⟩,by simp only[Sy.words];omega⟩
   refine GA.cons (fun _ _ _ s g=>g.same s) (n:=0) ?_ ?_
   ·intro H' s' Q q
    have i1:=is1.keep s'.keep;have i2:=is2.keep s'.keep;right;refine⟨by simp[JJ],fun p1 G1 hp1 t1 e1=>?_⟩;have I1:aN G1 (.ref p1) (.not s1):=⟨p1,_,rfl,e1,(aN.keep (am.keep t1) i1)⟩;right;obtain⟨kk2,hk2,hk22⟩:=ma (z/7) (m:=(h:Int)) (by omega);rw[hk2];refine⟨by simp[JJ],fun p2 G2 hp2 t2 e2=>?_⟩;have I2:aN G2 (.ref p2) (.knows kk2 (.not s1)):=⟨p2,_,rfl,e2,(aN.keep (am.keep t2) I1)⟩;exact q _ _ (t1.trans t2) ⟨_,I2,⟨by omega,ok1⟩,by simp only[Sy.words];omega⟩
   exact GA.nil
  refine⟨by rw[ly1,JJ];decide,fun l1 Hl1 hl1 sl1 el1=>?_⟩;refine pY (sl1 _ _ (sy1 _ _ eL0)) el1 (by rw[L0,ly1,JJ];decide) fun m1 Hm1 hm1 sm1 em1=>?_;have sA1:=(sy1.trans sl1).trans sm1;have sL1:am H2 Hm1:=sL0.trans sA1;have L1:(X0++ys1).length=6:=by rw[JX,L0,ly1]
  have B1:∀x∈X0++ys1,fV c h Hm1 x:=fun x hx=>by
   rcases Ka.mp hx with hx|hx
   ·exact(B0 x hx).same sA1
   ·exact(by1 x hx).same (sl1.trans sm1)
  have eL1:=em1;refine iB ?_;dsimp only[LR,LS];generalize X0++ys1=X1 at L1 B1 eL1;clear B0 L0 eL0 by1 ly1 el1 em1;refine cG ?_;refine kG ?_;refine rg ?_;refine nu rfl ?_;refine pX ?_;refine pE (P:=fV c h) (fun _ _ _ s g=>g.same s) (H0:=H2) (n:=2) sL1 ?_ fun ys2 Hy2 sy2 ly2 by2=>?_
  ·skip
   refine GA.cons (fun _ _ _ s g=>g.same s) (n:=1) ?_ ?_
   ·intro H' s' Q q
    have i1:=is1.keep s'.keep;have i2:=is2.keep s'.keep;right;refine⟨_,h,rfl,h5,fun g1 gs1 G1 t1 eg1 pw1 hb1=>?_⟩;right;refine⟨by simp[JJ],fun p2 G2 hp2 t2 e2=>?_⟩;have I2:aN G2 (.ref p2) (.all gs1 s1):=⟨p2,g1,_,rfl,e2,t2 _ _ eg1,(aN.keep (am.keep (t1.trans t2)) i1)⟩;exact q _ _ (t1.trans t2) ⟨_,I2,⟨⟨pw1,hb1⟩,ok1⟩,by simp only[Sy.words];omega⟩
   refine GA.cons (fun _ _ _ s g=>g.same s) (n:=0) ?_ ?_
   ·intro H' s' Q q
    have i1:=is1.keep s'.keep;have i2:=is2.keep s'.keep;right;refine⟨_,h,rfl,h5,fun g1 gs1 G1 t1 eg1 pw1 hb1=>?_⟩;right;refine⟨by simp[JJ],fun p2 G2 hp2 t2 e2=>?_⟩;have I2:aN G2 (.ref p2) (.common gs1 s2):=⟨p2,g1,_,rfl,e2,t2 _ _ eg1,(aN.keep (am.keep (t1.trans t2)) i2)⟩;exact q _ _ (t1.trans t2) ⟨_,I2,⟨⟨pw1,hb1⟩,ok2⟩,by simp only[Sy.words];omega⟩
   exact GA.nil
  refine⟨by rw[ly2,JJ];decide,fun l2 Hl2 hl2 sl2 el2=>?_⟩;refine pY (sl2 _ _ (sy2 _ _ eL1)) el2 (by rw[L1,ly2,JJ];decide) fun m2 Hm2 hm2 sm2 em2=>?_;have sA2:=(sy2.trans sl2).trans sm2;have sL2:am H2 Hm2:=sL1.trans sA2;have L2:(X1++ys2).length=8:=by rw[JX,L1,ly2]
  have B2:∀x∈X1++ys2,fV c h Hm2 x:=fun x hx=>by
   rcases Ka.mp hx with hx|hx
   ·exact(B1 x hx).same sA2
   ·exact(by2 x hx).same (sl2.trans sm2)
  have eL2:=em2;refine iB ?_;dsimp only[LR,LS];generalize X1++ys2=X2 at L2 B2 eL2;clear B1 L1 eL1 by2 ly2 el2 em2;refine cG ?_;refine kG ?_;refine rg ?_;refine nu rfl ?_;refine pX ?_;refine pE (P:=fV c h) (fun _ _ _ s g=>g.same s) (H0:=H2) (n:=2) sL2 ?_ fun ys3 Hy3 sy3 ly3 by3=>?_
  ·skip
   refine GA.cons (fun _ _ _ s g=>g.same s) (n:=1) ?_ ?_
   ·intro H' s' Q q
    have i1:=is1.keep s'.keep;have i2:=is2.keep s'.keep;right;refine⟨_,h,rfl,h5,fun g1 gs1 G1 t1 eg1 pw1 hb1=>?_⟩;right;refine⟨by simp[JJ],fun p2 G2 hp2 t2 e2=>?_⟩;have I2:aN G2 (.ref p2) (.common gs1 s1):=⟨p2,g1,_,rfl,e2,t2 _ _ eg1,(aN.keep (am.keep (t1.trans t2)) i1)⟩;exact q _ _ (t1.trans t2) ⟨_,I2,⟨⟨pw1,hb1⟩,ok1⟩,by simp only[Sy.words];omega⟩
   refine GA.cons (fun _ _ _ s g=>g.same s) (n:=0) ?_ ?_
   ·intro H' s' Q q
    have i1:=is1.keep s'.keep;have i2:=is2.keep s'.keep;right;obtain⟨kk1,hk1,hk21⟩:=ma (z/7) (m:=(h:Int)) (by omega);rw[hk1];refine⟨by simp[JJ],fun p1 G1 hp1 t1 e1=>?_⟩;have I1:aN G1 (.ref p1) (.knows kk1 s2):=⟨p1,_,rfl,e1,(aN.keep (am.keep t1) i2)⟩;exact q _ _ t1 ⟨_,I1,⟨by omega,ok2⟩,by simp only[Sy.words];omega⟩
   exact GA.nil
  refine⟨by rw[ly3,JJ];decide,fun l3 Hl3 hl3 sl3 el3=>?_⟩;refine pY (sl3 _ _ (sy3 _ _ eL2)) el3 (by rw[L2,ly3,JJ];decide) fun m3 Hm3 hm3 sm3 em3=>?_;have sA3:=(sy3.trans sl3).trans sm3;have sL3:am H2 Hm3:=sL2.trans sA3;have L3:(X2++ys3).length=10:=by rw[JX,L2,ly3]
  have B3:∀x∈X2++ys3,fV c h Hm3 x:=fun x hx=>by
   rcases Ka.mp hx with hx|hx
   ·exact(B2 x hx).same sA3
   ·exact(by3 x hx).same (sl3.trans sm3)
  have eL3:=em3;refine iB ?_;dsimp only[LR,LS];generalize X2++ys3=X3 at L3 B3 eL3;clear B2 L2 eL2 by3 ly3 el3 em3;refine cG ?_;refine kG ?_;refine rg ?_;refine nu rfl ?_;refine pX ?_;refine pE (P:=fV c h) (fun _ _ _ s g=>g.same s) (H0:=H2) (n:=2) sL3 ?_ fun ys4 Hy4 sy4 ly4 by4=>?_
  ·skip
   refine GA.cons (fun _ _ _ s g=>g.same s) (n:=1) ?_ ?_
   ·intro H' s' Q q
    have i1:=is1.keep s'.keep;have i2:=is2.keep s'.keep;right;refine⟨by simp[JJ],fun p1 G1 hp1 t1 e1=>?_⟩;have I1:aN G1 (.ref p1) (.not s1):=⟨p1,_,rfl,e1,(aN.keep (am.keep t1) i1)⟩;right;refine⟨by simp[JJ],fun p2 G2 hp2 t2 e2=>?_⟩;have I2:aN G2 (.ref p2) (.and s2 (.not s1)):=⟨p2,_,_,rfl,e2,(aN.keep (am.keep (t1.trans t2)) i2),(aN.keep (am.keep t2) I1)⟩;exact q _ _ (t1.trans t2) ⟨_,I2,⟨ok2,ok1⟩,by simp only[Sy.words];omega⟩
   refine GA.cons (fun _ _ _ s g=>g.same s) (n:=0) ?_ ?_
   ·intro H' s' Q q
    have i1:=is1.keep s'.keep;have i2:=is2.keep s'.keep;right;obtain⟨kk1,hk1,hk21⟩:=ma (z/7) (m:=(h:Int)) (by omega);rw[hk1];refine⟨by simp[JJ],fun p1 G1 hp1 t1 e1=>?_⟩;have I1:aN G1 (.ref p1) (.knows kk1 s2):=⟨p1,_,rfl,e1,(aN.keep (am.keep t1) i2)⟩;right;refine⟨by simp[JJ],fun p2 G2 hp2 t2 e2=>?_⟩;have I2:aN G2 (.ref p2) (.or s1 (.knows kk1 s2)):=⟨p2,_,_,rfl,e2,(aN.keep (am.keep (t1.trans t2)) i1),(aN.keep (am.keep t2) I1)⟩;exact q _ _ (t1.trans t2) ⟨_,I2,⟨ok1,⟨by omega,ok2⟩⟩,by simp only[Sy.words];omega⟩
   exact GA.nil
  refine⟨by rw[ly4,JJ];decide,fun l4 Hl4 hl4 sl4 el4=>?_⟩;refine pY (sl4 _ _ (sy4 _ _ eL3)) el4 (by rw[L3,ly4,JJ];decide) fun m4 Hm4 hm4 sm4 em4=>?_;have sA4:=(sy4.trans sl4).trans sm4;have sL4:am H2 Hm4:=sL3.trans sA4;have L4:(X3++ys4).length=12:=by rw[JX,L3,ly4]
  have B4:∀x∈X3++ys4,fV c h Hm4 x:=fun x hx=>by
   rcases Ka.mp hx with hx|hx
   ·exact(B3 x hx).same sA4
   ·exact(by4 x hx).same (sl4.trans sm4)
  have eL4:=em4;refine iB ?_;dsimp only[LR,LS];generalize X3++ys4=X4 at L4 B4 eL4;clear B3 L3 eL3 by4 ly4 el4 em4;obtain⟨y,hy,my⟩:=CJ X4 z (m:=12) L4 (by decide);obtain⟨sy,iy,oky,wy⟩:=B4 y my;have R4:=R.to sL4;have e24:=sL4 _ _ e2;right;refine bz (SqL.of eL4) hy ?_;right;refine⟨y,sy,rfl,iy,by omega,fun H5 s5=>?_⟩;right;refine bW (fun cm=>?_) (fun cm=>?_)
  ·right
   refine⟨pT (s5 _ _ e24),?_⟩;right;refine bz (SqL.of (s5 _ _ eL4)) hy ?_;right;refine fq (s5 _ _ e24) (by rw[JJ];omega) fun H6 o6 e6=>?_;exact⟨_,_,_,_,_,_,rfl,(R4.to s5).push (s5 _ _ e24) o6 e6 (iy.keep s5.keep) oky (by omega),by rw[JX];show ss.length+1<=_;omega⟩
  ·right
   exact⟨_,_,_,_,_,_,rfl,R4.to s5,by omega⟩
 ·rintro σ H2 ⟨ss,v6,v7,v8,v9,v10,rfl,R,hl⟩
  obtain⟨xs,e2,px⟩:=R.at_;have hxl:=fz px;have hne:xs≠[]:=fun z=>R.ne (MV.mp (by rw[<-hxl,z];rfl));obtain⟨x1,s1,hx1,hs1,is1⟩:=pF px hne;right;exact bz (SqL.of e2) hx1 (q x1 s1 H2 R.same is1 (R.ok s1 hs1).1 (R.ok s1 hs1).2)
end
section
variable{K:Fg}{vs:List V}{H:Hp}{Q:VK}{E:XK}
open KF
noncomputable def iaR:IA->V
 |none=>.non
 |some c=>.int c
theorem Ja(a:IA):iaV (iaR a)=some a:=by cases a<;>rfl
noncomputable def wAt(w:List Nat)(c:Int):Int:=(w.getD c.toNat 0:Nat)
noncomputable def ka(w:List Nat)(h:Int)(cs:List Int)(a:IA):Prop:=
 (a=none/\∀c∈cs,wAt w c≠h)\/∃c,a=some c/\c∈cs/\wAt w c=h/\∀d∈cs,wAt w d=h->c<=d
theorem ka.uniq{w:List Nat}{h:Int}{cs ds:List Int}(m:∀y,y∈cs↔y∈ds){a b:IA}(x:ka w h cs a)(y:ka w h ds b):a=b:=by
 rcases x with⟨rfl,x⟩|⟨c,rfl,x1,x2,x3⟩
 ·rcases y with⟨rfl,_⟩|⟨d,rfl,y1,y2,_⟩
  ·rfl
  ·exact absurd y2 (x d ((m d).mpr y1))
 ·rcases y with⟨rfl,y⟩|⟨d,rfl,y1,y2,y3⟩
  ·exact absurd x2 (y c ((m c).mp x1))
  ·have h1:=x3 d ((m d).mpr y1) y2
   have h2:=y3 c ((m c).mp x1) x2;rw[show c=d by omega]
theorem ka.stay{w:List Nat}{h c d:Int}{cs:List Int}(x:ka w h cs (some d))(e:¬c<d):ka w h (cs++[c]) (some d):=by
 rcases x with⟨z,_⟩|⟨d',z,x1,x2,x3⟩
 ·cases z
 ·cases z
  refine .inr ⟨d,rfl,Li _ x1,x2,fun y hy hz=>?_⟩;rcases Ka.mp hy with z|z
  ·exact x3 y z hz
  ·rw[JE.mp z]
   omega
theorem ET{w:List Nat}{c:Int}(h0:0<=c)(h1:c<w.length):atI (ar w) c=some (.int (wAt w c)):=by
 obtain⟨n,rfl⟩:∃n:Nat,c=(n:Int):=⟨c.toNat,by omega⟩;have hn:n<w.length:=by omega
 refine b8 ?_;unfold wAt ar;rw[JS,JD hn];simp[JN,JD hn]
noncomputable def ku(_:Fg):Sp:=fun vs H Q _=>∃(t p:Addr)(w:List Nat)(h:Int)(ms:List Int),vs=[.ref t,.int h,.ref p]/\H t=some (.tup (ar w))/\H p=some (.lst (ms.map V.int))/\ms.Pairwise (· < ·)/\(∀c∈ms,0<=c/\c<w.length)/\
 ∀a,ka w h ms a->Q (iaR a) H
noncomputable def iN(K:Fg):TS:=(ao (cQ (ca K (aa 2)) (ag 3) (br (aU (tOp rEq (tOp (bH K) (aa 0) (aa 3)) (aa 1))) (aI (aa 3)) ba))
 (aI (tC .non)))
theorem ww(h:ku K vs H Q E):iN K { nx:=fun _ H'=>Q .non H',rt:=Q } (start ["deal","holder","rising","card"] vs) H:=by
 obtain⟨t,p,w,h,ms,rfl,et,ep,pw,hb,q⟩:=h;show iN K _ [some _,some _,some _,none] _;unfold iN;right;refine mR (ms.map V.int) (SqL.of ep) (fun i σ' H2=>∃u:Option V,σ'=[some (.ref t),some (.int h),some (.ref p),u]/\H2=H/\∀c∈ms.take i,wAt w c≠h) ⟨none,rfl,rfl,fun c hc=>by simp at hc⟩ ?_ ?_ ?_
 ·rintro i σ' H2 hi ⟨u,rfl,rfl,_⟩
  exact SqL.of ep
 ·rintro i x σ' H2 hx ⟨u,rfl,rfl,hn⟩
  rw[JS]at hx;obtain⟨c,hc,rfl⟩:=Qg.mp hx;have hm:c∈ms:=JK hc;right;refine aB (SqT.of et) (ET (hb c hm).1 (hb c hm).2) ?_;right;by_cases e:wAt w c=h
  ·rw[if_pos (decide_eq_true e)]
   right;refine q (some c) (.inr ⟨c,rfl,hm,e,fun d hd he=>?_⟩);obtain⟨j,hj⟩:=QI hd;obtain⟨hi1,hi2⟩:=JG.mp hc;obtain⟨hj1,hj2⟩:=JG.mp hj;rcases Pj j i with z|z|z
   ·exact absurd he (hn d (Od.mpr ⟨j,by rw[Pw z];exact hj⟩))
   ·subst z
    rw[<-hi2,<-hj2];exact Int.le_refl _
   ·have:=MI.mp pw i j hi1 hj1 z
    rw[hi2,hj2]at this;omega
  ·rw[if_neg (by rw[decide_eq_false e];exact JQ)]
   right;refine⟨_,rfl,rfl,fun d hd=>?_⟩;rw[Ls,hc]at hd;rcases Ka.mp hd with z|z
   ·exact hn d z
   ·rw[JE.mp z]
    exact e
 ·rintro σ' H2 ⟨u,rfl,rfl,hn⟩
  right;rw[JB,Ki]at hn;exact q none (.inl ⟨rfl,hn⟩)
noncomputable def bR(_:Fg):Sp:=fun vs H Q _=>∃z:Str,vs=[.bl true,.str z]/\Q .non H
noncomputable def ff(K:Fg):TS:=(br (dH (tB (aa 0))) oH ba)
theorem rE(h:bR K vs H Q E):ff K { nx:=fun _ H'=>Q .non H',rt:=Q } (start ["fit","reason"] vs) H:=by
 obtain⟨z,rfl,q⟩:=h;show ff K _ [some _,some _] _;unfold ff;right;exact q
noncomputable def lA(_:Fg):Sp:=fun vs H Q _=>∃(p:Addr)(ns:List Int)(c:Int),vs=[.ref p,.int c]/\H p=some (.lst (ns.map V.int))/\ns.length<=1000/\(∀n∈ns,0<=n/\n<c)/\∀H',am H H'->Q (.bl true) H'
noncomputable def jK(K:Fg):TS:=(aI (fM (tCB (iu K) (ab (aa 0) (ab (tC (.ty "list")) af))) (tCB (AO K) (ab (bo (ca K (aa 0)) (fun _ _ _ _=>(ag 0)) (fun _ _ _ _=>aS) (fun _ _ _ _=>(ap (cq K) [] E0 (ab (aa 0) (ab (aa 1) af)))) [none,some 1]) af))))
theorem yv(h:lA K vs H Q E):jK K { nx:=fun _ H'=>Q .non H',rt:=Q } (start ["thing","cards"] vs) H:=by
 obtain⟨p,ns,c,rfl,ep,hl,hb,q⟩:=h;show jK K _ [some _,some _] _;unfold jK;right;refine gH (.lst ep) (jA K) ?_;right;refine cK (ns.map V.int) (SqL.of ep) (by rw[JB];omega) (fun i acc _=>acc=(Km i true).map V.bl) (fun _ _=>rfl) ?_ ?_
 ·rintro p' hp' C s' H' fp i x acc H2 hx ⟨s2,e2,l2,rfl⟩
  obtain⟨z,hz,rfl⟩:=ya hx;have⟨b1,b2⟩:=hb z (JK hz);right;refine⟨z,c,rfl,?_⟩;rw[dR b1 (show z<=c-1 by omega)];exact aW.put hp' (fun i acc H H' r k=>r) s2 e2 l2 (by rw[Nn,JY];rfl)
 ·rintro p' acc H2 hp' s2 e2 rfl
  right;refine⟨p',Km ns.length true,rfl,SqL.of (by rw[e2,JB]),?_⟩;have ha:(Km ns.length true).all id=true:=by simp
  rw[ha];exact q H2 s2
theorem kb{K:Fg}{ta tv:TE}{f:Str}{D:jk}{σ:St}{H:Hp}(h:tv σ H fun y H1=>ta σ H1 fun x H2=>∃a C dx fs,x=.ref a/\H2 a=some (.ins C dx fs)/\Cls K C/\dN K C f/\fs.length<1000/\D.nx σ (upd H2 a (.ins C dx (fo f y fs)))):mq K ta tv f D σ H:=h
theorem cn{K:Fg}{ta:TE}{f:Str}{σ:St}{H:Hp}{Q:VK}(h:ta σ H fun x H1=>∃a C dx fs v,x=.ref a/\H1 a=some (.ins C dx fs)/\Cls K C/\dN K C f/\fs.lookup f=some v/\Q v H1):cF K ta f σ H Q:=h
theorem Do{C:Addr}{sp:Sp}{dvs:List V}{E:XK}{t:TA}{σ:St}{H:Hp}{Q:VK}(h:t σ H fun vs H1=>∀x dx,H1 x=none->H1 dx=none->dx≠x->sp (.ref x::(vs++dvs)) (upd (upd H1 dx (.own x)) x (.ins C dx [])) (fun v H2=>v=.non/\Q (.ref x) H2) E):rV C sp dvs E t σ H Q:=h
theorem gy{C:Addr}{m:Str}{sp:Sp}{dvs:List V}{E:XK}{ta:TE}{t:TA}{σ:St}{H:Hp}{Q:VK}(h:ta σ H fun x H1=>∃a dx fs,x=.ref a/\H1 a=some (.ins C dx fs)/\fs.lookup m=none/\t σ H1 fun vs H2=>sp (x::(vs++dvs)) H2 Q E):eJ C m sp dvs E ta t σ H Q:=h
noncomputable def Kx(x:Addr)(H H':Hp):Prop:=∀b o,b≠x->H b=some o->H' b=some o
theorem Kx.refl(x:Addr)(H:Hp):Kx x H H:=fun _ _ _ e=>e
theorem Kx.same{x:Addr}{H H1 H2:Hp}(k:Kx x H H1)(s:am H1 H2):Kx x H H2:=fun b o n e=>s _ _ (k b o n e)
theorem Kx.upd{x:Addr}{H H1:Hp}{u:HO}(k:Kx x H H1):Kx x H (L2.upd H1 x u):=fun b o n e=>by rw[aR n];exact k b o n e
theorem fC{H H':Hp}{x p:Addr}{ws:List (List Nat)}{C dx:Addr}{fs:List (Str×V)}(D:bu H p ws)(hx:H x=some (.ins C dx fs))(k:Kx x H H'):bu H' p ws:=by
 obtain⟨rs,e,hr⟩:=D;refine⟨rs,k _ _ (fun z=>by rw[z,hx]at e;cases e) e,Paired.mapP hr fun a w e=>k _ _ (fun z=>by rw[z,hx]at e;cases e) e⟩
theorem iO{H:Hp}{x b:Addr}{C dx:Addr}{fs:List (Str×V)}{xs:List V}(hx:H x=some (.ins C dx fs))(e:H b=some (.lst xs)):b≠x:=fun z=>by rw[z,hx]at e;cases e
theorem md{R:Hp->Prop}{H:Hp}{a C dx:Addr}{fs:List (Str×V)}(h:∀H3,Kx a H H3->H3 a=some (.ins C dx fs)->R H3):R (upd H a (.ins C dx fs)):=h _ (Kx.upd (Kx.refl _ _)) az
structure Kp(M:List Addr)(H H':Hp):Prop where
 k:∀b o,H b=some o->(b∉M\/∀xs,o≠.lst xs)->H' b=some o
 f:∀b,H' b=none->H b=none
theorem Kp.of{M:List Addr}{H H':Hp}(s:am H H'):Kp M H H':=⟨fun b o e _=>s b o e,fun b h=>s.free h⟩
theorem Kp.trans{M:List Addr}{H H1 H2:Hp}(a:Kp M H H1)(b:Kp M H1 H2):Kp M H H2:=⟨fun x o e h=>b.k x o (a.k x o e h) h,fun x h=>a.f x (b.f x h)⟩
theorem Kp.mono{M N:List Addr}{H H':Hp}(a:Kp M H H')(h:∀b∈M,b∈N):Kp N H H':=⟨fun x o e q=>a.k x o e (q.imp (fun n m=>n (h x m)) id),a.f⟩
theorem Kp.keep{M:List Addr}{H H':Hp}(a:Kp M H H'):cS H H':=fun b xs e=>a.k b _ e (.inr fun _ z=>nomatch z)
theorem Kp.tup{M:List Addr}{H H':Hp}(a:Kp M H H'){b:Addr}{xs:List V}(e:H b=some (.tup xs)):H' b=some (.tup xs):=a.keep _ _ e
theorem Kp.ins{M:List Addr}{H H':Hp}(a:Kp M H H'){b C dx:Addr}{fs:List (Str×V)}(e:H b=some (.ins C dx fs)):H' b=some (.ins C dx fs):=a.k b _ e (.inr fun _ z=>nomatch z)
theorem Kp.lst{M:List Addr}{H H':Hp}(a:Kp M H H'){b:Addr}{o:HO}(n:b∉M)(e:H b=some o):H' b=some o:=a.k b _ e (.inl n)
theorem Kp.new{M:List Addr}{H0 H H':Hp}(s:am H0 H)(a:Kp M H H')(h:∀b∈M,H0 b=none):am H0 H':=fun b o e=>a.lst (fun m=>by rw[h b m]at e;cases e) (s b o e)
theorem Kp.upd{M:List Addr}{H H':Hp}{l:Addr}{xs ys:List V}(a:Kp M H H')(e:H' l=some (.lst xs))(hl:l∈M):Kp M H (L2.upd H' l (.lst ys)):=⟨fun b o q n=>by
 by_cases z:b=l
 ·subst z
  have:=a.k _ _ q n;rw[e]at this;cases this;rcases n with n|n
  ·exact absurd hl n
  ·exact absurd rfl (n _)
 ·rw[aR z]
  exact a.k b o q n,fun b h=>by
 by_cases z:b=l
 ·subst z
  rw[az]at h;cases h
 ·rw[aR z]at h
  exact a.f b h⟩
theorem Kp.off{M:List Addr}{H H1 H2:Hp}{l:Addr}{xs ys:List V}(a:Kp M H H1)(e:H1 l=some (.lst xs))(hl:l∈M)(o:Off l H1 H2)(e2:H2 l=some (.lst ys)):Kp M H H2:=by
 have:H2=L2.upd H1 l (.lst ys):=by
  funext b
  by_cases z:b=l
  ·subst z;rw[az];exact e2
  ·rw[aR z];exact o b z
 rw[this];exact a.upd e hl
noncomputable def tD(M:List Addr)(H:Hp)(d:V)(m:List Nat×List V):Prop:=∃t h v,d=.ref t/\H t=some (.tup [.ref h,.ref v])/\H h=some (.tup (ar m.1))/\H v=some (.lst m.2)/\v∉M
theorem tD.kp{M N:List Addr}{H H':Hp}{d:V}{m:List Nat×List V}(h:tD M H d m)(a:Kp N H H')(hn:∀b∈N,b∈M):tD M H' d m:=by
 obtain⟨t,x,v,e,h1,h2,h3,h4⟩:=h;exact⟨t,x,v,e,a.tup h1,a.tup h2,a.lst (fun z=>h4 (hn _ z)) h3,h4⟩
noncomputable def rF(pd ps pv pe:Addr)(T:TM):List (Str×V):=[("dealt",.ref pd),("cards",.int T.c),("sizes",.ref ps),("hands",.int T.k),("views",.ref pv),("deeds",.ref pe)]
structure TbX(G:GF)(M:List Addr)(H:Hp)(x pv pe:Addr)(T:TM)(dx pd ps:Addr)(qs:List Addr)(es:List V):Prop where
 hx:H x=some (.ins G.Table dx (rF pd ps pv pe T))
 dl:bu H pd T.ws
 nd:pd∉M
 sz:H ps=some (.lst (ar T.ss))
 ns:ps∉M
 vs:H pv=some (.lst (qs.map V.ref))
 qv:Paired (fun(q:Addr)(v:List Nat)=>H q=some (.lst (ar v))/\q∉M) qs T.vw
 pes:H pe=some (.lst es)
 ed:Paired (tD M H) es T.ds
structure Tb(G:GF)(M:List Addr)(H:Hp)(x pv pe:Addr)(T:TM):Prop where
 ok:T.Ok
 ex:∃dx pd ps qs es,TbX G M H x pv pe T dx pd ps qs es
 ne:pv≠pe
 mv:pv∈M
 me:pe∈M
 al:∀b∈M,H b≠none
theorem bu.kp{M:List Addr}{H H':Hp}{p:Addr}{ws:List (List Nat)}(d:bu H p ws)(a:Kp M H H')(n:p∉M):bu H' p ws:=d.to' a.keep fun rs e=>a.lst n e
theorem Tb.kp{G:GF}{M N:List Addr}{H H':Hp}{x pv pe:Addr}{T:TM}(t:Tb G M H x pv pe T)(a:Kp N H H')(hn:∀b∈N,b∈M)(n1:pv∉N)(n2:pe∉N):Tb G M H' x pv pe T:=by
 obtain⟨dx,pd,ps,qs,es,X⟩:=t.ex;exact⟨t.ok,⟨dx,pd,ps,qs,es,a.ins X.hx,X.dl.kp a fun z=>X.nd (hn _ z),X.nd,a.lst (fun z=>X.ns (hn _ z)) X.sz,X.ns,a.lst n1 X.vs,Paired.mapP X.qv fun _ _ ⟨e,n⟩=>⟨a.lst (fun z=>n (hn _ z)) e,n⟩,a.lst n2 X.pes,Paired.mapP X.ed fun _ _ h=>h.kp a hn⟩,t.ne,t.mv,t.me,fun b hb z=>t.al b hb (a.f b z)⟩
theorem Tb.same{G:GF}{M:List Addr}{H H':Hp}{x pv pe:Addr}{T:TM}(t:Tb G M H x pv pe T)(s:am H H'):Tb G M H' x pv pe T:=t.kp (N:=[]) (Kp.of s) (fun _ z=>nomatch z) (fun z=>nomatch z) (fun z=>nomatch z)
theorem Tb.grow{G:GF}{M N:List Addr}{H:Hp}{x pv pe:Addr}{T:TM}(t:Tb G M H x pv pe T){H':Hp}(s:am H H')(hn:∀b∈N,H b=none)(ha:∀b∈N,H' b≠none):Tb G (N++M) H' x pv pe T:=by
 obtain⟨dx,pd,ps,qs,es,X⟩:=t.ex;have go:∀{b:Addr} {o:HO},H b=some o->b∉M->b∉N++M:=fun e n z=>by
  rcases Ka.mp z with z|z
  ·rw[hn _ z]at e;cases e
  ·exact n z
 have hd:pd∉N++M:=by
  obtain⟨rs,e,_⟩:=X.dl;exact go e X.nd
 exact⟨t.ok,⟨dx,pd,ps,qs,es,s _ _ X.hx,X.dl.same' s,hd,s _ _ X.sz,go X.sz X.ns,s _ _ X.vs,Paired.mapP X.qv fun _ _ ⟨e,n⟩=>⟨s _ _ e,go e n⟩,s _ _ X.pes,Paired.mapP X.ed fun _ _ ⟨t,h,v,e,h1,h2,h3,h4⟩=>⟨t,h,v,e,s _ _ h1,s _ _ h2,s _ _ h3,go h3 h4⟩⟩,t.ne,Kh _ t.mv,Kh _ t.me,fun b hb=>by
  rcases Ka.mp hb with z|z
  ·exact ha b z
  ·intro y
   exact t.al b z (s.free y)⟩
theorem Tb.off{G:GF}{M:List Addr}{H:Hp}{x pv pe:Addr}{T:TM}(t:Tb G M H x pv pe T){p:Addr}(h:H p=none):p∉M:=fun z=>t.al p z h
theorem Tb.at{G:GF}{M:List Addr}{H:Hp}{x pv pe:Addr}{T:TM}(t:Tb G M H x pv pe T)(m:Str)(h1:(m=="dealt")=false)(h2:(m=="cards")=false)(h3:(m=="sizes")=false)(h4:(m=="hands")=false)(h5:(m=="views")=false)(h6:(m=="deeds")=false):∃dx fs,H x=some (.ins G.Table dx fs)/\fs.lookup m=none:=by
 obtain⟨dx,pd,ps,qs,es,X⟩:=t.ex;refine⟨dx,_,X.hx,?_⟩;simp only[rF,M7,h1,h2,h3,h4,h5,h6]
noncomputable def de(_:Fg)(G:GF):Sp:=fun vs H Q _=>∃(M:List Addr)(x dx a:Addr)(c:Nat)(ss:List Nat),vs=[.ref x,.int c,.ref a]/\H x=some (.ins G.Table dx [])/\H a=some (.lst (ar ss))/\oY c ss/\KM.cC c ss<=2000/\(∀b∈M,H b≠none)/\x∉M/\
 ∀(H':Hp)(pv pe:Addr),Kx x H H'->H pv=none->H pe=none->Tb G (pv::pe::M) H' x pv pe (TM.begun c ss)->Q .non H'
noncomputable def iP(K:Fg)(G:GF):TS:=(ao (mq K (aa 0) (ap (jD K) [] E0 (ab (aa 1) (ab (aa 2) af))) "dealt")
 (ao (mq K (aa 0) (aa 1) "cards")
 (ao (mq K (aa 0) (tCB (fv K) (ab (aa 2) af)) "sizes")
 (ao (mq K (aa 0) (tCB (bY K) (ab (aa 2) af)) "hands")
 (ao (mq K (aa 0) (bo (cZ (ab (cF K (aa 0) "hands") af)) (fun _ _ _ _=>(ag 0)) (fun _ _ _ _=>aS) (fun _ _ _ _=>(ap (ko K) [] E0 (ab (cF K (aa 1) "dealt") (ab (aa 0) af)))) [none,some 0]) "views")
 (mq K (aa 0) (db af) "deeds"))))))
noncomputable abbrev yw:List Str:=["self","cards","sizes"]
theorem kd{α β:Type}{F:α->β->Prop}{l:List α}{m:List β}{a:α}{b:β}(h:Paired F l m)(q:F a b):Paired F (l++[a]) (m++[b]):=by
 induction h with
 |nil=>exact .cons q .nil
 |cons x _ ih=>exact .cons x ih
theorem yx{R:Addr->List Nat->Prop}:∀{acc:List V} {f:Nat->List Nat},(∀j:Nat,j<acc.length->∃q,acc[j]?=some (.ref q)/\R q (f j))->∃qs:List Addr,acc=qs.map V.ref/\Paired R qs ((JT acc.length).map f)
 | [],_,_=>⟨[],rfl,.nil⟩
 |x::acc,f,h=>by
  obtain⟨qs,e,p⟩:=yx (acc:=acc) (f:=fun j=>f (j+1)) fun j hj=>by
   obtain⟨q,h1,h2⟩:=h (j+1) (by rw[Kd];omega);exact⟨q,by simpa using h1,h2⟩
  obtain⟨q,h1,h2⟩:=h 0 (by simp);refine⟨q::qs,by rw[JZ,<-e];exact congrArg (· ::acc) (by simpa using h1),?_⟩;rw[Kd,Qe,JZ,Mv];exact .cons h2 p
theorem wx{K:Fg}{G:GF}(ct:mF K G.Table){vs:List V}{H:Hp}{Q:VK}{E:XK}(h:de K G vs H Q E):iP K G { nx:=fun _ H'=>Q .non H',rt:=Q } (start yw vs) H:=by
 obtain⟨M,x,dx,a,c,ss,rfl,hx,e,pk,hm,hM,hxM,q⟩:=h;have nk:∀{H1:Hp} {b:Addr} {fs:List (Str×V)},Kx x H H1->H1 x=some (.ins G.Table dx fs)->H1 b=none->H b=none:=fun{H1 b fs} kk ex eb=>by
  cases e:H b with
  |none=>rfl
  |some o=>
   by_cases z:b=x
   ·rw[z,ex]at eb;cases eb
   ·rw[kk _ _ z e]at eb;cases eb
 have h5:=pk.l5;have nxa:a≠x:=fun z=>by rw[z,hx]at e;cases e
 show iP K G _ [some _,some _,some _] _;unfold iP;refine cG (kb ?_);right;refine⟨c,a,ss,rfl,e,pk,hm,fun p H1 s1 hp D1=>?_⟩;have okT:=TM.Ok.begun pk hm;have hws:∀w∈KM.cr (ss++[c-ss.sum]) c,w.length<=1000:=fun w hw=>by
  have:=(KM.gr _ c w hw).len;have:=pk.c12;omega
 have hwl:(KM.cr (ss++[c-ss.sum]) c).length<=2000:=by rw[KM.mB pk.sum];exact hm
 obtain⟨ws,hWs⟩:∃ws,ws=KM.cr (ss++[c-ss.sum]) c:=⟨_,rfl⟩;rw[<-hWs]at hws hwl D1;right;refine⟨x,G.Table,dx,[],rfl,s1 _ _ hx,ct.cl,ct.n1,by simp,md fun H2 l2 x2=>?_⟩;have k2:Kx x H H2:=fun b o n e=>l2 _ _ n (s1 _ _ e);have D2:=fC D1 (s1 _ _ hx) l2;refine cG (kb ?_);right;refine⟨x,G.Table,dx,_,rfl,x2,ct.cl,ct.n2,LM rfl,md fun H3 l3 x3=>?_⟩;have k3:Kx x H H3:=fun b o n e=>l3 _ _ n (k2 _ _ n e);have D3:=fC D2 x2 l3;refine cG (kb ?_);right;refine iC (SqL.of (k3 _ _ nxa e)) fun l4 H4 hl4 s4 e4=>?_;have nxl:l4≠x:=iO (s4 _ _ x3) e4;right;refine⟨x,G.Table,dx,_,rfl,s4 _ _ x3,ct.cl,ct.n3,LM rfl,md fun H5 l5 x5=>?_⟩;have k5:Kx x H H5:=fun b o n e=>l5 _ _ n (s4 _ _ (k3 _ _ n e));have D5:=fC (D3.same' s4) (s4 _ _ x3) l5;have a5:=k5 _ _ nxa e;refine cG (kb ?_);right;rw[be];refine⟨x,G.Table,dx,_,rfl,x5,ct.cl,ct.n4,LM rfl,md fun H6 l6 x6=>?_⟩;have k6:Kx x H H6:=fun b o n e=>l6 _ _ n (k5 _ _ n e);have D6:=fC D5 x5 l6;have e46:H6 l4=some (.lst (ar ss)):=l6 _ _ nxl (l5 _ _ nxl e4);refine cG (kb ?_);right;refine cn ?_;right;refine⟨x,G.Table,dx,_,_,rfl,x6,ct.cl,ct.n4,rfl,?_⟩;right;refine lZ ss.length (by omega) (by omega) (by omega) (fun p' i acc H2=>acc.length=i/\∀j:Nat,j<i->∃q,acc[j]?=some (.ref q)/\(q≠p'/\q∉M)/\H2 q=some (.lst (ar (ll ws (j:Int))))) (fun _ _ _=>⟨rfl,fun j hj=>absurd hj (M4 _)⟩) ?_ ?_
 ·intro p' hp' C s' H' fp i acc H7 hi ⟨s7,e7,l7,r7⟩
  right;refine cn ?_;right;refine⟨x,G.Table,dx,_,_,rfl,s7 _ _ x6,ct.cl,ct.n1,rfl,?_⟩;right;refine⟨p,ws,(i:Int),rfl,D6.same' s7,hws,by omega,fun q8 H8 hq8 s8 e8=>?_⟩;obtain⟨r1,r2⟩:=r7;refine aW.putW hp' (s7.trans s8) (s8 _ _ e7) l7 fun H9 o9=>⟨by rw[JX,r1];rfl,fun j hj=>?_⟩;by_cases hj2:j<i
  ·obtain⟨q,h1,h2,h3⟩:=r2 j hj2
   exact⟨q,by rw[Me (by omega)];exact h1,h2,(o9 _ h2.1).trans (s8 _ _ h3)⟩
  ·have ej:j=i:=by omega
   subst ej;have hqp:q8≠p':=fun z=>by rw[z,e7]at hq8;cases hq8
   exact⟨q8,by rw[MB (by omega),r1,Ot];rfl,⟨hqp,fun z=>hM _ z (nk (k6.same s7) (s7 _ _ x6) hq8)⟩,(o9 _ hqp).trans e8⟩
 ·intro pv acc H7 hpv s7 e7 ⟨r1,r2⟩
  right;refine⟨x,G.Table,dx,_,rfl,s7 _ _ x6,ct.cl,ct.n5,LM rfl,md fun H8 kk x8=>?_⟩;have k8:Kx x H H8:=fun b o n e=>kk _ _ n (s7 _ _ (k6 _ _ n e));have D8:=fC (D6.same' s7) (s7 _ _ x6) kk;have v8:=kk _ _ (iO (s7 _ _ x6) e7) e7;refine kb ?_;right;refine⟨by simp[JJ],fun pe H9 hpe s9 e9=>?_⟩;right;refine⟨x,G.Table,dx,_,rfl,s9 _ _ x8,ct.cl,ct.n6,LM rfl,md fun HA kz xA=>?_⟩;have kA:Kx x H HA:=fun b o n e=>kz _ _ n (s9 _ _ (k8 _ _ n e));have gv:=nk k6 x6 hpv;have ge:=nk k8 x8 hpe;have npv:pv≠pe:=aY v8 hpe;have npd:p∉pv::pe::M:=fun z=>by
   obtain⟨rs6,er6,_⟩:=id D6;rcases JH.mp z with z|z
   ·rw[z]at er6;rw[er6]at hpv;cases hpv
   ·rcases JH.mp z with z|z
    ·obtain⟨rs8,er8,_⟩:=id D8
     rw[z]at er8;rw[er8]at hpe;cases hpe
    ·exact hM _ z hp
  have e48:=kk _ _ nxl (s7 _ _ e46);have nps:l4∉pv::pe::M:=fun z=>by
   rcases JH.mp z with z|z
   ·rw[z]at e46;rw[e46]at hpv;cases hpv
   ·rcases JH.mp z with z|z
    ·rw[z]at e48;rw[e48]at hpe;cases hpe
    ·exact hM _ z (nk k3 x3 hl4)
  have rr:=yx (R:=fun q v=>(q≠pv/\q∉M)/\H8 q=some (.lst (ar v))) (f:=fun j=>ll ws ((j:Nat):Int)) (fun j hj=>by
   obtain⟨q,h1,h2,h3⟩:=r2 j (by rw[<-r1];exact hj);exact⟨q,h1,h2,kk _ _ (iO (s7 _ _ x6) h3) h3⟩)
  rw[r1]at rr;obtain⟨qs,rfl,hqs⟩:=rr;have up:∀{b:Addr} {xs:List V},H8 b=some (.lst xs)->HA b=some (.lst xs):=fun e=>kz _ _ (iO (s9 _ _ x8) (s9 _ _ e)) (s9 _ _ e);have pe9:=kz _ _ (iO (s9 _ _ x8) e9) e9;refine q HA pv pe kA gv ge ⟨okT,⟨dx,p,l4,qs,[],xA,?_,npd,up e48,nps,up v8,?_,pe9,.nil⟩,npv,JI,JO _ JI,fun b hb y=>?_⟩
  ·show bu _ p (KM.cr (ss++[c-ss.sum]) c)
   rw[<-hWs];exact fC (D8.same' s9) (s9 _ _ x8) kz
  ·show Paired _ qs ((JT ss.length).map fun i=>ll (KM.cr (ss++[c-ss.sum]) c) ((i:Nat):Int))
   rw[<-hWs];refine Paired.mapP hqs fun a' v ⟨h2,h3⟩=>⟨up h3,fun z=>?_⟩;rcases JH.mp z with z|z
   ·exact h2.1 z
   ·rcases JH.mp z with z|z
    ·rw[z]at h3;rw[h3]at hpe;cases hpe
    ·exact h2.2 z
  ·rcases JH.mp hb with z|z
   ·rw[z,up v8]at y;cases y
   ·rcases JH.mp z with z|z
    ·rw[z,pe9]at y;cases y
    ·cases eb:H b with
     |none=>exact hM b z eb
     |some o=>rw[kA b o (fun w=>hxM (w▸z)) eb]at y;cases y
end
section
open KF
theorem TbX.view{G:GF}{M:List Addr}{H:Hp}{x pv pe:Addr}{T:TM}{dx pd ps:Addr}{qs:List Addr}{es:List V}(X:TbX G M H x pv pe T dx pd ps qs es){i:Nat}(hi:i<T.vw.length):∃qi,qs[i]?=some qi/\H qi=some (.lst (ar (T.vw.getD i [])))/\qi∉M:=by
 have lq:qs.length=T.vw.length:=Kf X.qv;have hq:qs[i]?=some (qs[i]'(by omega)):=JD _;obtain⟨v,hv,h1,h2⟩:=bG X.qv hq;exact⟨_,hq,by rw[ic hv];exact h1,h2⟩
noncomputable def gM(_:Fg)(G:GF):Sp:=fun vs H Q _=>∃(M:List Addr)(x pv pe:Addr)(T:TM)(i:Nat),vs=[.ref x,.int i]/\Tb G M H x pv pe T/\i<T.k/\∀(p:Addr)(H':Hp),H p=none->am H H'->H' p=some (.lst (ar (T.vw.getD i [])))->Q (.ref p) H'
noncomputable def iQ(K:Fg)(G:GF):TS:=(ao (cE (ap (bR K) [] E0 (ab (ap (cq K) [] E0 (ab (aa 1) (ab (cF K (aa 0) "hands") af))) (ab (tC (.str "this is no hand")) af))))
 (aI (tCB (fv K) (ab (tOp (bT K) (cF K (aa 0) "views") (aa 1)) af))))
noncomputable abbrev yy:List Str:=["self","hand"]
theorem wz{K:Fg}{G:GF}(ct:mF K G.Table){vs:List V}{H:Hp}{Q:VK}{E:XK}(h:gM K G vs H Q E):iQ K G { nx:=fun _ H'=>Q .non H',rt:=Q } (start yy vs) H:=by
 obtain⟨M,x,pv,pe,T,i,rfl,t,hi,q⟩:=h;obtain⟨dx,pd,ps,qs,es,X⟩:=t.ex;show iQ K G _ [some _,some _] _;unfold iQ;right;refine cn ?_;right;refine⟨x,G.Table,dx,_,_,rfl,X.hx,ct.cl,ct.n4,rfl,?_⟩;right;refine⟨(i:Int),(T.k:Int),rfl,?_⟩;rw[dR (by omega) (by omega)];right;refine⟨_,rfl,?_⟩;right;refine cn ?_;right;refine⟨x,G.Table,dx,_,_,rfl,X.hx,ct.cl,ct.n5,rfl,?_⟩;right;obtain⟨qi,hq,h2,_⟩:=X.view (i:=i) (by rw[t.ok.len];exact hi);refine bz (SqL.of X.vs) (b8 (v:=.ref qi) (by rw[JS,hq];rfl)) ?_;right;refine iC (SqL.of h2) fun p H1 hp s1 e1=>?_;exact q p H1 hp s1 e1
noncomputable def Tld(G:GF)(M:List Addr)(H:Hp)(x pv pe:Addr)(T:TM)(ys:List V)(Q:VK):Prop:=∀p Hm H',Kp [pv,pe] H Hm->Tb G M Hm x pv pe T->Hm p=none->am Hm H'->H' p=some (.lst ys)->Q (.ref p) H'
theorem Dp{G:GF}{M:List Addr}{H:Hp}{x pv pe:Addr}{T:TM}{ys:List V}{Q:VK}(h:∀p H',H p=none->Kp [pv,pe] H H'->H' p=some (.lst ys)->Tb G M H' x pv pe T->Q (.ref p) H'):Tld G M H x pv pe T ys Q:=fun p _ H' k t hp s e=>h p H' (k.f _ hp) (k.trans (Kp.of s)) e (t.same s)
noncomputable def fW(_:Fg)(G:GF):Sp:=fun vs H Q _=>∃(M:List Addr)(x pv pe tp vp:Addr)(T:TM)(g:List Nat)(as:List IA)(ys:List V),vs=[.ref x,.ref tp,.ref vp]/\Tb G M H x pv pe T/\H tp=some (.tup (ar g))/\(∀h∈g,h<T.k)/\H vp=some (.lst ys)/\vp∉M/\ys.map iaV=as.map some/\as.length=T.n/\T.ds.length<1000/\
 Tld G M H x pv pe (T.learn g as ys) ys Q
noncomputable def gN(K:Fg)(G:GF):TS:=(ao (cQ (qX K (aa 1)) (ag 3) (aA (ap (rB K) [] E0 (ab (tOp (bT K) (cF K (aa 0) "views") (aa 3)) (ab (aa 2) af))) (kW (cF K (aa 0) "views") (aa 3) lM)))
 (ao (cE (tBM K "list" d8 (cF K (aa 0) "deeds") (ab (cD (ab (aa 1) (ab (aa 2) af))) af)))
 (aI (tCB (fv K) (ab (aa 2) af)))))
noncomputable abbrev wA:List Str:=["self","hands","values","hand"]
theorem Jb{n j:Nat}(h:j<n):ixN n (j:Int)=some j:=by
 unfold ixN;rw[if_pos (by omega),if_pos (by omega)];simp
theorem tE{α β:Type}{F:α->β->Prop}{l:List α}{m:List β}(h:Paired F l m){a:α}{b:β}(r:F a b):∀i:Nat,Paired F (l.set i a) (m.set i b):=by
 induction h with
 |nil=>exact fun i=>.nil
 |cons r' t ih=>
  intro i;cases i with
  |zero=>exact .cons r t
  |succ i=>exact .cons r' (ih i)
theorem vh{K:Fg}{G:GF}(ct:mF K G.Table){vs:List V}{H:Hp}{Q:VK}{E:XK}(h:fW K G vs H Q E):gN K G { nx:=fun _ H'=>Q .non H',rt:=Q } (start wA vs) H:=by
 obtain⟨M,x,pv,pe,tp,vp,T,g,as,ys,rfl,t,et,hg,evp,nvp,hia,hla,hds,q⟩:=h;obtain⟨dx,pd,ps,qs,es,X⟩:=t.ex;have n2:=t.ok.n2;show gN K G _ [some _,some _,some _,none] _;unfold gN;right;have me1:pv∈[pv,pe]:=JI;have me2:pe∈[pv,pe]:=JO _ JI;have sub:∀b∈[pv,pe],b∈M:=fun b hb=>by
  rcases JH.mp hb with z|z
  ·rw[z];exact t.mv
  ·rw[JE.mp z];exact t.me
 have nvp':vp∉[pv,pe]:=fun z=>nvp (sub _ z);refine sg (ar g) (SqT.of et) (fun j σ' H2=>∃(u:Option V)(qs2:List Addr),σ'=[some (.ref x),some (.ref tp),some (.ref vp),u]/\Kp [pv] H H2/\H2 pv=some (.lst (qs2.map V.ref))/\Paired (fun(q:Addr)(v:List Nat)=>H2 q=some (.lst (ar v))/\q∉M) qs2 (lrn T.vw (g.take j) as)) ⟨none,qs,rfl,Kp.of (am.refl _),X.vs,X.qv⟩ ?_ ?_ ?_
 ·rintro j σ' H2 hj ⟨u,qs2,rfl,k2,_⟩
  exact SqT.of (k2.tup et)
 ·rintro j y σ' H2 hy ⟨u,qs2,rfl,k2,e2,p2⟩
  obtain⟨hd,hh,rfl⟩:=ek hy;have hk:=hg hd (JK hh);have hx2:=k2.ins X.hx;have lq:qs2.length=T.vw.length:=by rw[Kf p2,qc]
  have hdl:hd<qs2.length:=by rw[lq,t.ok.len];exact hk
  have hq:qs2[hd]?=some (qs2[hd]'hdl):=JD _;generalize qs2[hd]'hdl=qi at hq;obtain⟨v,hv,h1,h2⟩:=bG p2 hq;have hvw:Within T.n v:=qd (P:=Within T.n) (fun v hv=>pD hv hla) (g.take j) T.vw (fun h hh=>by rw[t.ok.len];exact hg h (List.mem_of_mem_take hh)) t.ok.win v (JK hv);right;refine cn ?_;right;refine⟨x,G.Table,dx,_,_,rfl,hx2,ct.cl,ct.n5,rfl,?_⟩;right;refine bz (SqL.of e2) (b8 (v:=.ref qi) (by rw[JS,hq];rfl)) ?_;right;refine⟨qi,vp,v,ys,as,rfl,h1,k2.lst (fun z=>nvp' (by rw[JE.mp z];exact me1)) evp,hia,by rw[hvw.1,hla],by rw[hvw.1];omega,fun q' H3 hq' s3 e3=>?_⟩;right;refine cn ?_;right;refine⟨x,G.Table,dx,_,_,rfl,s3 _ _ hx2,ct.cl,ct.n5,rfl,?_⟩;right;refine oU (s3 _ _ e2) (Jb (by rw[JB];exact hdl)) ?_;have nq:q'≠pv:=(aY e2 hq').symm;have nqM:q'∉M:=fun z=>t.al _ z (k2.f _ hq');refine⟨_,qs2.set hd q',rfl,(k2.trans (Kp.of s3)).upd (s3 _ _ e2) (JE.mpr rfl),by rw[az,Ri],?_⟩;rw[bP hh,EK,ic hv];refine tE (Paired.mapP p2 fun a w ⟨z1,z2⟩=>⟨?_,z2⟩) ⟨by rw[aR nq];exact e3,nqM⟩ hd;rw[aR (show a≠pv from fun z=>z2 (by rw[z];exact t.mv))];exact s3 _ _ z1
 ·rintro σ' H2 ⟨u,qs2,rfl,k2,e2,p2⟩
  rw[be,Ki]at p2;have hx2:=k2.ins X.hx;have ee2:=k2.lst (fun z=>t.ne (JE.mp z).symm) X.pes;right;refine cn ?_;right;refine⟨x,G.Table,dx,_,_,rfl,hx2,ct.cl,ct.n6,rfl,?_⟩;refine⟨.inl ⟨rfl,_,SqL.of ee2⟩,?_⟩;right;refine⟨by simp[JJ],fun p3 H3 hp3 s3 e3=>?_⟩;right;have les:es.length=T.ds.length:=Kf X.ed;refine fq (s3 _ _ ee2) (by rw[JJ];omega) fun H4 o4 e4=>?_;have k4:Kp [pv,pe] H H4:=((k2.mono fun b hb=>by rw[JE.mp hb];exact me1).trans (Kp.of s3)).off (s3 _ _ ee2) me2 o4 e4;right;refine iC (SqL.of (k4.lst nvp' evp)) fun p5 H5 hp5 s5 e5=>?_;have keep4:∀{b:Addr} {o:HO},b≠pe->H2 b=some o->H4 b=some o:=fun nb e=>(o4 _ nb).trans (s3 _ _ e);refine q p5 H4 H5 k4 ⟨t.ok.learn hg hla,⟨dx,pd,ps,qs2,es++[.ref p3],k4.ins X.hx,X.dl.kp k4 fun z=>X.nd (sub _ z),X.nd,k4.lst (fun z=>X.ns (sub _ z)) X.sz,X.ns,keep4 t.ne e2,Paired.mapP p2 fun a w ⟨z1,z2⟩=>⟨keep4 (show a≠pe from fun z=>z2 (by rw[z];exact t.me)) z1,z2⟩,e4,?_⟩,t.ne,t.mv,t.me,fun b hb z=>t.al b hb (k4.f b z)⟩ hp5 s5 e5;refine kd (Paired.mapP X.ed fun _ _ h=>h.kp k4 sub) ⟨p3,tp,vp,rfl,?_,k4.tup et,k4.lst nvp' evp,nvp⟩;exact(o4 _ (fun z=>by rw[z]at hp3;rw[ee2]at hp3;cases hp3)).trans e3
noncomputable def iR(_:Fg)(G:GF):Sp:=fun vs H Q _=>∃(M:List Addr)(x pv pe:Addr)(T:TM)(v:V)(s:Sy),vs=[.ref x,v]/\Tb G M H x pv pe T/\aN H v s/\s.Ok T.c T.k/\s.words<=30/\
 ∀p H',H p=none->am H H'->H' p=some (.lst (blV T.n (T.tr s)))->Q (.ref p) H'
noncomputable def fX(K:Fg)(G:GF):TS:=(ao (br (dH (tB (ap (lw K) [] E0 (ab (cF K (aa 0) "cards") (ab (cF K (aa 0) "hands") (ab (aa 1) af)))))) oH ba)
 (aI (ap (cf K 35) [] E0 (ab (cF K (aa 0) "dealt") (ab (cF K (aa 0) "views") (ab (aa 1) af))))))
noncomputable abbrev vi:List Str:=["self","S"]
theorem Tb.tab{G:GF}{M:List Addr}{H:Hp}{x pv pe:Addr}{T:TM}{dx pd ps:Addr}{qs:List Addr}{es:List V}(ok:T.Ok)(X:TbX G M H x pv pe T dx pd ps qs es):Table H pd pv T.c T.n T.ws T.vw:=
 ⟨X.dl,rfl,ok.cards,by have:=ok.n2;omega,by have:=ok.pk.c12;omega,⟨qs,X.vs,Paired.mapP X.qv fun _ _ h=>h.1⟩,ok.win,by rw[ok.len];have:=ok.pk.l5;show T.ss.length<=1000;omega⟩
theorem tF{K:Fg}{G:GF}(ct:mF K G.Table){vs:List V}{H:Hp}{Q:VK}{E:XK}(h:iR K G vs H Q E):fX K G { nx:=fun _ H'=>Q .non H',rt:=Q } (start vi vs) H:=by
 obtain⟨M,x,pv,pe,T,v,s,rfl,t,hS,hok,hw,q⟩:=h;obtain⟨dx,pd,ps,qs,es,X⟩:=t.ex;show fX K G _ [some _,some _] _;unfold fX;right;refine cn ?_;right;refine⟨x,G.Table,dx,_,_,rfl,X.hx,ct.cl,ct.n2,rfl,?_⟩;right;refine cn ?_;right;refine⟨x,G.Table,dx,_,_,rfl,X.hx,ct.cl,ct.n4,rfl,?_⟩;right;refine⟨T.c,T.k,v,s,rfl,hS,hok,hw,fun H1 s1=>?_⟩;have x1:=s1 _ _ X.hx;right;refine cn ?_;right;refine⟨x,G.Table,dx,_,_,rfl,x1,ct.cl,ct.n1,rfl,?_⟩;right;refine cn ?_;right;refine⟨x,G.Table,dx,_,_,rfl,x1,ct.cl,ct.n5,rfl,?_⟩;right;refine⟨pd,pv,v,T.c,T.n,T.ws,T.vw,s,rfl,(Tb.tab t.ok X).same s1,hS.keep s1.keep,by rw[t.ok.len];exact hok,by omega,fun p H2 hp2 s2 e2=>?_⟩;right;exact q p H2 (s1.free hp2) (s1.trans s2) e2
noncomputable def gO(_:Fg)(G:GF):Sp:=fun vs H Q _=>∃(M:List Addr)(x pv pe tp:Addr)(T:TM)(g:List Nat)(v:V)(s:Sy),vs=[.ref x,.ref tp,v]/\Tb G M H x pv pe T/\H tp=some (.tup (ar g))/\g.Pairwise (· < ·)/\(∀h∈g,h<T.k)/\aN H v s/\s.Ok T.c T.k/\s.words<=30/\T.ds.length<1000/\
 Tld G M H x pv pe (T.word g s) (blV T.n (T.tr s)) Q
noncomputable def iS(K:Fg)(G:GF):TS:=(ao (cE (ap (bR K) [] E0 (ab (ap (iI K) [] E0 (ab (aa 1) (ab (cF K (aa 0) "hands") af))) (ab (tC (.str "this is no tuple of hands")) af))))
 (aI (eJ G.Table "learn" (fW K G) [] E0 (aa 0) (ab (aa 1) (ab (eJ G.Table "truths" (iR K G) [] E0 (aa 0) (ab (aa 2) af)) af)))))
noncomputable abbrev yz:List Str:=["self","hands","S"]
theorem wB{K:Fg}{G:GF}(ct:mF K G.Table){vs:List V}{H:Hp}{Q:VK}{E:XK}(h:gO K G vs H Q E):iS K G { nx:=fun _ H'=>Q .non H',rt:=Q } (start yz vs) H:=by
 obtain⟨M,x,pv,pe,tp,T,g,v,s,rfl,t,et,pw,hg,hS,hok,hw,hds,q⟩:=h;obtain⟨dx,pd,ps,qs,es,X⟩:=t.ex;show iS K G _ [some _,some _,some _] _;unfold iS;right;refine cn ?_;right;refine⟨x,G.Table,dx,_,_,rfl,X.hx,ct.cl,ct.n4,rfl,?_⟩;right;refine⟨tp,g,T.k,rfl,et,pw,hg,?_⟩;right;refine⟨_,rfl,?_⟩;right;obtain⟨dx1,fs1,hx1,hl1⟩:=t.at "learn" (by decide+kernel) (by decide+kernel) (by decide+kernel) (by decide+kernel) (by decide+kernel) (by decide+kernel);refine gy ?_;right;refine⟨x,dx1,fs1,rfl,hx1,hl1,?_⟩;right;obtain⟨dx2,fs2,hx2,hl2⟩:=t.at "truths" (by decide+kernel) (by decide+kernel) (by decide+kernel) (by decide+kernel) (by decide+kernel) (by decide+kernel);refine gy ?_;right;refine⟨x,dx2,fs2,rfl,hx2,hl2,?_⟩;right;refine⟨M,x,pv,pe,T,v,s,rfl,t,hS,hok,hw,fun p1 H1 hp1 s1 e1=>?_⟩;right;refine⟨M,x,pv,pe,tp,p1,T,g,_,_,rfl,t.same s1,s1 _ _ et,hg,e1,t.off hp1,De _ _,Ah _ _,hds,fun p2 Hm H2 k2 t2 hp2 s2 e2=>?_⟩;right;exact q p2 Hm H2 ((Kp.of s1).trans k2) t2 hp2 s2 e2
noncomputable def tG(w:List Nat)(h:Int)(ns:List Int):IA:=(ns.filter fun c=>decide (wAt w c=h)).min?
theorem Dq(w:List Nat)(h:Int)(ns:List Int):ka w h ns (tG w h ns):=by
 unfold tG;cases e:(ns.filter fun c=>decide (wAt w c=h)).min? with
 |none=>
  rw[List.min?_eq_none_iff]at e;refine .inl ⟨rfl,fun c hc z=>?_⟩;have:c∈ns.filter fun c=>decide (wAt w c=h):=L5.mpr ⟨hc,decide_eq_true z⟩;rw[e]at this;cases this
 |some m=>
  rw[List.min?_eq_some_iff]at e;obtain⟨h1,h2⟩:=e;obtain⟨h3,h4⟩:=L5.mp h1;exact .inr ⟨m,rfl,h3,of_decide_eq_true h4,fun d hd z=>h2 d (L5.mpr ⟨hd,decide_eq_true z⟩)⟩
noncomputable def iT(ws:List (List Nat))(h:Int)(ns:List Int):List IA:=ws.map fun w=>tG w h ns
noncomputable def TM.show(T:TM)(i:Nat)(h:Int)(ns:List Int):TM:=T.learn [i] (iT T.ws h ns) ((iT T.ws h ns).map iaR)
noncomputable def kB(_:Fg)(G:GF):Sp:=fun vs H Q _=>∃(M:List Addr)(x pv pe l:Addr)(T:TM)(i:Nat)(h:Int)(ns:List Int),vs=[.ref x,.int i,.int h,.ref l]/\Tb G M H x pv pe T/\H l=some (.lst (ns.map V.int))/\i<T.k/\0<=h/\h<=T.k/\ns.length<64/\(∀n∈ns,0<=n/\n<T.c)/\T.ds.length<1000/\
 Tld G M H x pv pe (T.show i h ns) ((iT T.ws h ns).map iaR) Q
noncomputable def iU(K:Fg)(G:GF):TS:=(ao (cE (ap (bR K) [] E0 (ab (ap (cq K) [] E0 (ab (aa 1) (ab (cF K (aa 0) "hands") af))) (ab (tC (.str "this is no hand")) af))))
 (ao (cE (ap (bR K) [] E0 (ab (ap (cq K) [] E0 (ab (aa 2) (ab (tOp (rI0 fun i j=>.int (i+j)) (cF K (aa 0) "hands") (tC (.int 1))) af))) (ab (tC (.str "this is no holder")) af))))
 (ao (cE (ap (bR K) [] E0 (ab (ap (lA K) [] E0 (ab (aa 3) (ab (cF K (aa 0) "cards") af))) (ab (tC (.str "this is no list of cards")) af))))
 (ao (aA (rD K (ab (aa 3) af)) (ag 4))
 (aI (eJ G.Table "learn" (fW K G) [] E0 (aa 0) (ab (cD (ab (aa 1) af)) (ab (bo (ca K (cF K (aa 0) "dealt")) (fun _ _ _ _=>(ag 0)) (fun _ _ _ _=>aS) (fun _ _ _ _=>(ap (ku K) [] E0 (ab (aa 0) (ab (aa 1) (ab (aa 2) af))))) [none,some 2,some 4]) af))))))))
noncomputable abbrev yA:List Str:=["self","hand","holder","some","rising"]
theorem wC{K:Fg}{G:GF}(ct:mF K G.Table){vs:List V}{H:Hp}{Q:VK}{E:XK}(h:kB K G vs H Q E):iU K G { nx:=fun _ H'=>Q .non H',rt:=Q } (start yA vs) H:=by
 obtain⟨M,x,pv,pe,l,T,i,h,ns,rfl,t,el,hi,h0,h1,hns,hnb,hds,q⟩:=h;obtain⟨dx,pd,ps,qs,es,X⟩:=t.ex;have n2:=t.ok.n2;show iU K G _ [some _,some _,some _,some _,none] _;unfold iU;right;refine cn ?_;right;refine⟨x,G.Table,dx,_,_,rfl,X.hx,ct.cl,ct.n4,rfl,?_⟩;right;refine⟨(i:Int),(T.k:Int),rfl,?_⟩;rw[dR (by omega) (by omega)];right;refine⟨_,rfl,?_⟩;right;refine cn ?_;right;refine⟨x,G.Table,dx,_,_,rfl,X.hx,ct.cl,ct.n4,rfl,?_⟩;right;refine⟨h,(T.k:Int)+1,rfl,?_⟩;rw[dR (by omega) (by omega)];right;refine⟨_,rfl,?_⟩;right;refine cn ?_;right;refine⟨x,G.Table,dx,_,_,rfl,X.hx,ct.cl,ct.n2,rfl,?_⟩;right;refine⟨l,ns,(T.c:Int),rfl,el,by omega,hnb,fun H1 s1=>?_⟩;right;refine⟨_,rfl,?_⟩;right;refine Dl ?_;right;refine⟨l,ns,rfl,SqL.of (s1 _ _ el),hns,fun rp H2 ms hrp s2 e2 pw mm=>?_⟩;have s12:=s1.trans s2;have t2:=t.same s12;right;obtain⟨dx1,fs1,hx1,hl1⟩:=t2.at "learn" (by decide+kernel) (by decide+kernel) (by decide+kernel) (by decide+kernel) (by decide+kernel) (by decide+kernel);refine gy ?_;right;refine⟨x,dx1,fs1,rfl,hx1,hl1,?_⟩;right;refine⟨by simp[JJ],fun tp H3 htp s3 e3=>?_⟩;right;refine cn ?_;right;have s13:=s12.trans s3;refine⟨x,G.Table,dx,_,_,rfl,s13 _ _ X.hx,ct.cl,ct.n1,rfl,?_⟩;obtain⟨rs,er,hr⟩:=X.dl.same' s13;have lr:rs.length=T.n:=Kf hr;refine cK (rs.map V.ref) (SqL.of er) (by rw[JB];omega) (fun j acc _=>acc=(iT (T.ws.take j) h ns).map iaR) (fun H' _=>rfl) ?_ ?_
 ·rintro p' hp' C s' H' fp j xx acc H6 hxx ⟨s6,e6,l6,rfl⟩
  obtain⟨b',hb',rfl⟩:=ln hxx;obtain⟨w,hwi,ew⟩:=bG hr hb';have hw1:=t.ok.cards w (JK hwi);right;refine⟨b',rp,w,h,ms,rfl,s6 _ _ ew,s6 _ _ (s3 _ _ e2),pw,fun c hc=>by rw[hw1];exact hnb c ((mm c).mp hc),fun a ha=>?_⟩;have ea:a=tG w h ns:=ha.uniq mm (Dq w h ns);subst ea;refine aW.put hp' (fun _ _ _ _ r _=>r) s6 e6 l6 ?_;rw[bP hwi];unfold iT;rw[JY,JY];rfl
 ·rintro pl acc H6 hpl s6 e6 rfl
  rw[JB,lr,show T.n=T.ws.length from rfl,Ki]at e6;right;have s16:=s13.trans s6;refine⟨M,x,pv,pe,tp,pl,T,[i],iT T.ws h ns,_,rfl,t.same s16,s6 _ _ e3,fun k hk=>by rw[JE.mp hk];exact hi,e6,t.off (s13.free hpl),by rw[Mv];exact L7 fun a _=>Ja a,by unfold iT;rw[JB];rfl,hds,fun p2 Hm H7 k7 t7 hp2 s7 e7=>?_⟩;right;exact q p2 Hm H7 ((Kp.of s16).trans k7) t7 hp2 s7 e7
noncomputable def js(_:Fg)(G:GF):Sp:=fun vs H Q _=>∃(M:List Addr)(x pv pe:Addr)(T:TM),vs=[.ref x]/\Tb G M H x pv pe T/\
 ∀(x' pv' pe':Addr) H',H x'=none->H pv'=none->H pe'=none->am H H'->Tb G (pv'::pe'::M) H' x' pv' pe' T->Q (.ref x') H'
noncomputable def gP(K:Fg)(G:GF):TS:=(ao (aA (rV G.Table (de K G) [] E0 (ab (cF K (aa 0) "cards") (ab (cF K (aa 0) "sizes") af))) (ag 1))
 (ao (mq K (aa 1) (tCB (fv K) (ab (cF K (aa 0) "views") af)) "views")
 (ao (mq K (aa 1) (tCB (fv K) (ab (cF K (aa 0) "deeds") af)) "deeds")
 (aI (aa 1)))))
noncomputable abbrev wD:List Str:=["self","other"]
theorem vk{K:Fg}{G:GF}(ct:mF K G.Table){vs:List V}{H:Hp}{Q:VK}{E:XK}(h:js K G vs H Q E):gP K G { nx:=fun _ H'=>Q .non H',rt:=Q } (start wD vs) H:=by
 obtain⟨M,x,pv,pe,T,rfl,t,q⟩:=h;obtain⟨dx,pd,ps,qs,es,X⟩:=t.ex;show gP K G _ [some _,none] _;unfold gP;refine cG (kG (Do ?_));right;refine cn ?_;right;refine⟨x,G.Table,dx,_,_,rfl,X.hx,ct.cl,ct.n2,rfl,?_⟩;right;refine cn ?_;right;refine⟨x,G.Table,dx,_,_,rfl,X.hx,ct.cl,ct.n3,rfl,?_⟩;right;intro x' dx' hx' hdx' hne;have st:am H (upd (upd H dx' (.own x')) x' (.ins G.Table dx' [])):=((am.refl H).upd hdx' _).upd hx' _;have x'M:x'∉M:=fun z=>t.al _ z hx';refine⟨M,x',dx',ps,T.c,T.ss,rfl,az,st _ _ X.sz,t.ok.pk,t.ok.few,fun b hb z=>t.al b hb (st.free z),x'M,fun H1 pv0 pe0 k1 hpv0 hpe0 t1=>?_⟩;have s1:am H H1:=fun b o e=>k1 _ _ (aY e hx') (st _ _ e);obtain⟨dx1,pd1,ps1,qs1,es1,X1⟩:=t1.ex;refine⟨rfl,?_⟩;right;refine kb ?_;right;refine cn ?_;right;refine⟨x,G.Table,dx,_,_,rfl,s1 _ _ X.hx,ct.cl,ct.n5,rfl,?_⟩;right;refine iC (SqL.of (s1 _ _ X.vs)) fun pv' H2 hpv' s2 e2=>?_;right;refine⟨x',G.Table,dx1,_,rfl,s2 _ _ X1.hx,ct.cl,ct.n5,by simp[rF],md fun H3 kx3 x3=>?_⟩;have nxv:pv'≠x':=iO (s2 _ _ X1.hx) e2;have s3:am H H3:=fun b o e=>kx3 _ _ (aY e hx') (s2 _ _ (s1 _ _ e));have e3:=kx3 _ _ nxv e2;have dl3:=fC (X1.dl.same' s2) (s2 _ _ X1.hx) kx3;have sz3:=kx3 _ _ (iO (s2 _ _ X1.hx) (s2 _ _ X1.sz)) (s2 _ _ X1.sz);right;refine kb ?_;right;refine cn ?_;right;refine⟨x,G.Table,dx,_,_,rfl,s3 _ _ X.hx,ct.cl,ct.n6,rfl,?_⟩;right;refine iC (SqL.of (s3 _ _ X.pes)) fun pe' H4 hpe' s4 e4=>?_;right;refine⟨x',G.Table,dx1,_,rfl,s4 _ _ x3,ct.cl,ct.n6,LM rfl,md fun H5 kx5 x5=>?_⟩;have s5:am H H5:=fun b o e=>kx5 _ _ (aY e hx') (s4 _ _ (s3 _ _ e));have e5:=kx5 _ _ (iO (s4 _ _ x3) e4) e4;have v5:=kx5 _ _ nxv (s4 _ _ e3);have dl5:=fC (dl3.same' s4) (s4 _ _ x3) kx5;have sz5:=kx5 _ _ (iO (s4 _ _ x3) (s4 _ _ sz3)) (s4 _ _ sz3);right;have gv:H pv'=none:=s1.free hpv';have ge:H pe'=none:=s3.free hpe';have nve:pv'≠pe':=aY e3 hpe';have nM:∀{b:Addr} {o:HO},H b=some o->b∉M->b∉pv'::pe'::M:=fun e n z=>by
  rcases JH.mp z with z|z
  ·rw[z,gv]at e;cases e
  ·rcases JH.mp z with z|z
   ·rw[z,ge]at e;cases e
   ·exact n z
 have nd1:pd1∉pv'::pe'::M:=fun z=>by
  obtain⟨rs1,er1,_⟩:=X1.dl;obtain⟨rs3,er3,_⟩:=dl3;rcases JH.mp z with z|z
  ·rw[z,hpv']at er1;cases er1
  ·rcases JH.mp z with z|z
   ·rw[z,hpe']at er3;cases er3
   ·exact X1.nd (JO _ (JO _ z))
 have ns1:ps1∉pv'::pe'::M:=fun z=>by
  have er1:=X1.sz;rcases JH.mp z with z|z
  ·rw[z,hpv']at er1;cases er1
  ·rcases JH.mp z with z|z
   ·rw[z,hpe']at sz3;cases sz3
   ·exact X1.ns (JO _ (JO _ z))
 refine q x' pv' pe' H5 hx' gv ge s5 ⟨t.ok,⟨dx1,pd1,ps1,qs,es,x5,dl5,nd1,sz5,ns1,v5,Paired.mapP X.qv fun _ _ ⟨e,n⟩=>⟨s5 _ _ e,nM e n⟩,e5,Paired.mapP X.ed fun _ _ ⟨t,h,v,e,h1,h2,h3,h4⟩=>⟨t,h,v,e,s5 _ _ h1,s5 _ _ h2,s5 _ _ h3,nM h3 h4⟩⟩,nve,JI,JO _ JI,fun b hb z=>?_⟩;rcases JH.mp hb with y|y
 ·rw[y,v5]at z;cases z
 ·rcases JH.mp y with y|y
  ·rw[y,e5]at z;cases z
  ·exact t.al b y (s5.free z)
end
section
open KF
noncomputable def jL(sys:List Sy)(j:Nat):Sy:=sys.getD (j%sys.length) (.sees 0)
noncomputable def TM.turn(T:TM)(sys:List Sy):Nat->TM
 |0=>T
 |j+1=>(T.turn sys j).word (JT T.k) (jL sys j)
noncomputable def TM.told(T:TM)(sys:List Sy)(j:Nat):Nat->Prop:=(T.turn sys j).tr (jL sys j)
noncomputable def TM.still(T:TM)(sys:List Sy):Nat->Nat
 |0=>0
 |j+1=>if(T.turn sys (j+1)).vw=(T.turn sys j).vw then T.still sys j+1 else 0
structure TM.Len(T:TM)(sys:List Sy)(turns L:Nat):Prop where
 le:L<=turns
 go:∀i,i<L->T.still sys i<sys.length
 st:L=turns\/sys.length<=T.still sys L
theorem mY(T:TM)(sys:List Sy):∀j,(T.turn sys j).c=T.c/\(T.turn sys j).ss=T.ss
 |0=>⟨rfl,rfl⟩
 |j+1=>mY T sys j
theorem Al(T:TM)(sys:List Sy)(j:Nat):(T.turn sys j).ws=T.ws:=by unfold TM.ws;rw[(mY T sys j).1,(mY T sys j).2]
theorem yB(T:TM)(sys:List Sy)(j:Nat):(T.turn sys j).n=T.n:=by unfold TM.n;rw[Al]
theorem pG(T:TM)(sys:List Sy)(j:Nat):(T.turn sys j).k=T.k:=by unfold TM.k;rw[(mY T sys j).2]
theorem Am(T:TM)(sys:List Sy):∀j,(T.turn sys j).ds.length=T.ds.length+j
 |0=>rfl
 |j+1=>by
  show((T.turn sys j).ds++[_]).length=_;rw[JX,Am T sys j];rfl
theorem vm{T:TM}(h:T.Ok)(sys:List Sy):∀j,(T.turn sys j).Ok
 |0=>h
 |j+1=>(vm h sys j).word fun x hx=>by rw[pG];exact K1.mp hx
theorem EU{T:TM}(h:T.Ok)(s:Sy):(T.word (JT T.k) s).vw=T.vw.map fun v=>dQ v (blA T.n (T.tr s)):=by
 show lrn T.vw (JT T.k) _=_;rw[<-h.len,GJ]
theorem GO{T:TM}(h:T.Ok)(sys:List Sy)(j:Nat):(T.turn sys (j+1)).vw=(T.turn sys j).vw.map fun v=>dQ v (blA T.n (T.told sys j)):=by
 have:=EU (vm h sys j) (jL sys j);rw[pG,yB]at this;exact this
theorem Len.uniq{T:TM}{sys:List Sy}{a b L M:Nat}(h1:T.Len sys a L)(h2:T.Len sys b M):M<=L\/(L=a/\a<=M):=by
 by_cases z:M<=L
 ·exact .inl z
 ·rcases h1.st with e|e
  ·exact .inr ⟨e,by omega⟩
  ·have:=h2.go L (by omega)
   omega
end
noncomputable def A7:R2:=fun x y H Q=>∃a b vs ws,x=.ref a/\y=.ref b/\bF H a vs/\bF H b ws/\Q (.bl (decide (vs=ws))) H
theorem FP{a b:Addr}{vs ws:List (List Nat)}{H:Hp}{Q:VK}(h1:bF H a vs)(h2:bF H b ws)(q:Q (.bl (decide (vs=ws))) H):A7 (.ref a) (.ref b) H Q:=⟨a,b,vs,ws,rfl,rfl,h1,h2,q⟩
noncomputable def xc:List V->Hp->VK->Prop:=fun xs H Q=>∃(p:Addr)(n:Nat),xs=[.ref p]/\H p=some (.rng 0 (n:Int))/\n<=1000000/\New H (.tup ((JT n).map fun(i:Nat)=>V.int ((i:Nat):Int))) fun p H2=>Q (.ref p) H2
noncomputable def FQ(ta:TA):TE:=tCB xc (ab (tCB A1 ta) af)
theorem Jc{H:Hp}{Q:VK}{n:Nat}(hn:n<=1000000)(h:New H (.tup ((JT n).map fun(i:Nat)=>V.int ((i:Nat):Int))) fun p H2=>Q (.ref p) H2):New H (.rng 0 (n:Int)) fun p H2=>xc [.ref p] H2 Q:=
 fun p H' _ s e=>⟨p,n,rfl,e,hn,fun l H2 hl s2 e2=>h l H2 (s.free hl) (s.trans s2) e2⟩
theorem Iu{σ:St}{H:Hp}{Q:VK}{ta:TA}(h:ta σ H fun vs H1=>∃n:Nat,vs=[.int (n:Int)]/\n<=1000000/\New H1 (.rng 0 (n:Int)) fun p H2=>xc [.ref p] H2 Q):FQ ta σ H Q:=h
section
variable{g:CF TG}{tt:CF TT}{te:CF TE}{σ₀:St}{Q:VK}{H:Hp}{K:Fg}
end
section
open KF
noncomputable def mG(H:Hp)(p:Addr)(sys:List Sy):Prop:=∃xs:List V,H p=some (.lst xs)/\Paired (aN H) xs sys
theorem mG.same{H H':Hp}{p:Addr}{sys:List Sy}(h:mG H p sys)(s:am H H'):mG H' p sys:=let⟨xs,e,q⟩:=h;⟨xs,s _ _ e,Paired.mapP q fun _ _ z=>z.keep s.keep⟩
theorem mG.kp{M:List Addr}{H H':Hp}{p:Addr}{sys:List Sy}(h:mG H p sys)(a:Kp M H H')(n:p∉M):mG H' p sys:=let⟨xs,e,q⟩:=h;⟨xs,a.lst n e,Paired.mapP q fun _ _ z=>z.keep a.keep⟩
theorem mh{sys:List Sy}{j:Nat}(h:0<sys.length):sys[j%sys.length]?=some (jL sys j):=by
 unfold jL;rw[JN,JD (SD _ h)];rfl
theorem gz{α β:Type}{F:α->β->Prop}:∀{xs:List α} {ys:List β} {i:Nat} {y:β},Paired F xs ys->ys[i]?=some y->∃x,xs[i]?=some x/\F x y
 |_,_,_,_,.nil,e=>by simp at e
 |_,_,0,_,.cons r _,e=>by simp at e;subst e;exact⟨_,rfl,r⟩
 |_,_,i+1,y,.cons _ t,e=>by
  obtain⟨u,h1,h2⟩:=gz (i:=i) (y:=y) t (by simpa using e);exact⟨u,by simpa using h1,h2⟩
noncomputable def tH(H0 H:Hp)(p:Addr)(n:Nat)(f:Nat->Nat->Prop)(L:Nat):Prop:=∃rs:List Addr,H p=some (.lst (rs.map V.ref))/\Paired (fun(r:Addr)(i:Nat)=>H r=some (.lst (blV n (f i)))/\r≠p/\H0 r=none) rs (JT L)
noncomputable def qe(_:Fg)(G:GF):Sp:=fun vs H Q _=>∃(M:List Addr)(x pv pe sl:Addr)(T:TM)(sys:List Sy)(turns:Nat),vs=[.ref x,.ref sl,.int turns]/\Tb G M H x pv pe T/\mG H sl sys/\0<sys.length/\(∀s∈sys,s.Ok T.c T.k/\s.words<=30)/\turns<=100/\T.ds.length<=500/\
 ∀(p:Addr)(L:Nat) H',H p=none->am H H'->tH H H' p T.n (T.told sys) L->T.Len sys turns L->Q (.ref p) H'
noncomputable def tI(K:Fg)(G:GF):TS:=(ao (aA (eJ G.Table "again" (js K G) [] E0 (aa 0) af) (ag 3))
 (ao (aA (FQ (ab (cF K (aa 3) "hands") af)) (ag 4))
 (ao (aA (db af) (ag 5))
 (ao (aA (tC (.int 0)) (ag 6))
 (ao (im (uN (aU (tOp (rI0 fun i j=>.bl (decide (i<j))) (tCB (bY K) (ab (aa 5) af)) (aa 2))) (aU (tOp (rI0 fun i j=>.bl (decide (i<j))) (aa 6) (tCB (bY K) (ab (aa 1) af))))) (ao (aA (tCB (fv K) (ab (cF K (aa 3) "views") af)) (ag 7))
 (ao (cE (tBM K "list" d8 (aa 5) (ab (eJ G.Table "word" (gO K G) [] E0 (aa 3) (ab (aa 4) (ab (tOp (bT K) (aa 1) (tOp (rI (fun _ j=>0<j) fun i j=>.int (i%j)) (tCB (bY K) (ab (aa 5) af)) (tCB (bY K) (ab (aa 1) af)))) af))) af)))
 (aA (tIf (aU (tOp A7 (cF K (aa 3) "views") (aa 7))) (tOp (rI0 fun i j=>.int (i+j)) (aa 6) (tC (.int 1))) (tC (.int 0))) (ag 6)))))
 (aI (aa 5)))))))
noncomputable abbrev Iv:List Str:=["table","sayings","turns","own","everyone","told","still","before"]
theorem GP{K:Fg}{G:GF}(ct:mF K G.Table){vs:List V}{H:Hp}{Q:VK}{E:XK}(h:qe K G vs H Q E):tI K G { nx:=fun _ H'=>Q .non H',rt:=Q } (start Iv vs) H:=by
 obtain⟨M,x,pv,pe,sl,T,sys,turns,rfl,t,hsl,h0,hsys,ht,hds,q⟩:=h;have hk5:T.k<=5:=t.ok.pk.l5;show tI K G _ [some _,some _,some _,none,none,none,none,none] _;unfold tI;right;obtain⟨dx1,fs1,hx1,hl1⟩:=t.at "again" (by decide+kernel) (by decide+kernel) (by decide+kernel) (by decide+kernel) (by decide+kernel) (by decide+kernel);refine gy ?_;right;refine⟨x,dx1,fs1,rfl,hx1,hl1,?_⟩;right;refine⟨M,x,pv,pe,T,rfl,t,fun x' pv' pe' H1 hx' hpv' hpe' s1 t1=>?_⟩;right;refine Iu ?_;right;refine cn ?_;right;obtain⟨dx,pd,ps,qs,es,X⟩:=t1.ex;refine⟨x',G.Table,dx,_,_,rfl,X.hx,ct.cl,ct.n4,rfl,?_⟩;right;refine⟨T.k,rfl,by omega,Jc (by omega) fun tp H2 htp s2 e2=>?_⟩;have e2':H2 tp=some (.tup (ar (JT T.k))):=e2;right;refine⟨by simp[JJ],fun p H3 hp s3 e3=>?_⟩;right;have t3:Tb G (p::pv'::pe'::M) H3 x' pv' pe' T:=(t1.same s2).grow (N:=[p]) s3 (fun b hb=>by rw[JE.mp hb];exact hp) (fun b hb=>by rw[JE.mp hb,e3];exact fun z=>nomatch z);have s13:=(s1.trans s2).trans s3;have hp0:H p=none:=s1.free (s2.free hp);have npv:pv'≠p:=fun z=>by
  have:=(t1.same s2).al pv' JI;rw[z]at this;exact this hp
 have npe:pe'≠p:=fun z=>by
  have:=(t1.same s2).al pe' (JO _ JI);rw[z]at this;exact this hp
 obtain⟨xs,exs,hxs⟩:=hsl;have lxs:xs.length=sys.length:=Kf hxs;have new3:∀b∈[p,pv',pe'],H b=none:=fun b hb=>by
  rcases JH.mp hb with z|z
  ·rw[z];exact hp0
  ·rcases JH.mp z with z|z
   ·rw[z];exact hpv'
   ·rw[JE.mp z];exact hpe'
 refine pV (fun m σ H4=>∃(j:Nat)(u:Option V)(rs:List Addr),m=turns-j/\j<=turns/\σ=[some (.ref x),some (.ref sl),some (.int turns),some (.ref x'),some (.ref tp),some (.ref p),some (.int (T.still sys j:Nat)),u]/\am H H4/\H4 tp=some (.tup (ar (JT T.k)))/\Tb G (p::pv'::pe'::M) H4 x' pv' pe' (T.turn sys j)/\H4 p=some (.lst (rs.map V.ref))/\Paired (fun(r:Addr)(i:Nat)=>H4 r=some (.lst (blV T.n (T.told sys i)))/\r∉p::pv'::pe'::M/\H r=none) rs (JT j)/\∀i,i<j->T.still sys i<sys.length) turns ⟨0,none,[],by omega,Ks _,rfl,s13,s3 _ _ e2',t3,e3,.nil,fun i hi=>absurd hi (M4 _)⟩ ?_;rintro m σ H4 ⟨j,u,rs,rfl,hj,rfl,s4,e4,t4,ep4,p4,hgo⟩;have lrs:rs.length=j:=by rw[Kf p4,Kz]
 right;rw[JB,lrs];have fin:(j=turns\/sys.length<=T.still sys j)->Q (.ref p) H4:=fun z=>q p j H4 hp0 s4 ⟨rs,ep4,Paired.mapP p4 fun r i ⟨z1,z2,z3⟩=>⟨z1,fun y=>z2 (by rw[y];exact JI),z3⟩⟩ ⟨hj,hgo,z⟩;refine bW (fun c1=>?_) (fun c1=>?_)
 ·right
  refine gG (ys:=xs) (SqL.of (s4 _ _ exs)) ?_;right;rw[lxs];refine bW (fun c2=>?_) (fun c2=>?_)
  ·refine pU ?_
   have hjt:j<turns:=by omega
   have hst:T.still sys j<sys.length:=by omega
   right;refine cn ?_;right;obtain⟨dx4,pd4,ps4,qs4,es4,X4⟩:=t4.ex;refine⟨x',G.Table,dx4,_,_,rfl,X4.hx,ct.cl,ct.n5,rfl,?_⟩;right;refine iC (SqL.of X4.vs) fun b H5 hb s5 e5=>?_;have t5:=t4.same s5;right;refine⟨.inl ⟨rfl,_,SqL.of (s5 _ _ ep4)⟩,?_⟩;right;obtain⟨dx5,fs5,hx5,hl5⟩:=t5.at "word" (by decide+kernel) (by decide+kernel) (by decide+kernel) (by decide+kernel) (by decide+kernel) (by decide+kernel);refine gy ?_;right;refine⟨x',dx5,fs5,rfl,hx5,hl5,?_⟩;right;refine gG (ys:=rs.map V.ref) (SqL.of (s5 _ _ ep4)) ?_;right;refine gG (ys:=xs) (SqL.of (s5 _ _ (s4 _ _ exs))) ?_;right;rw[JB,lrs,lxs];obtain⟨v,hv,iv⟩:=gz hxs (mh (sys:=sys) (j:=j) h0);rw[show((j:Int)%(sys.length:Int))=((j%sys.length:Nat):Int)from rfl];refine bz (SqL.of (s5 _ _ (s4 _ _ exs))) (b8 hv) ?_;right;obtain⟨ok1,ok2⟩:=hsys (jL sys j) (JK (mh h0));have hdj:=Am T sys j;refine⟨_,x',pv',pe',tp,T.turn sys j,JT T.k,v,jL sys j,rfl,t5,s5 _ _ e4,NZ,fun h hh=>by rw[pG];exact K1.mp hh,iv.keep (s4.trans s5).keep,by rw[pG,(mY T sys j).1];exact ok1,ok2,by omega,Dp fun p6 H6 hp6 k6 e6 t6=>?_⟩;rw[yB]at e6;right;have n6:p∉[pv',pe']:=fun z=>by
    rcases JH.mp z with z|z
    ·exact npv z.symm
    ·exact npe (JE.mp z).symm
   have ep6:=k6.lst n6 (s5 _ _ ep4);refine fq ep6 (by rw[JB,JJ];omega) fun H7 o7 e7=>?_;have k7:Kp [p] H6 H7:=(Kp.of (am.refl H6)).off ep6 (JE.mpr rfl) o7 e7;have t7:=t6.kp k7 (fun b hb=>by rw[JE.mp hb];exact JI) (fun z=>npv (JE.mp z)) (fun z=>npe (JE.mp z));have p6M:p6∉p::pv'::pe'::M:=t5.off hp6;have k57:Kp [p,pv',pe'] H5 H7:=(k6.mono fun b hb=>JO _ hb).trans (k7.mono fun b hb=>by rw[JE.mp hb];exact JI);have sub3:∀b∈[p,pv',pe'],b∈p::pv'::pe'::M:=fun b hb=>by
    rcases JH.mp hb with z|z
    ·rw[z];exact JI
    ·rcases JH.mp z with z|z
     ·rw[z];exact JO _ JI
     ·rw[JE.mp z];exact JO _ (JO _ JI)
   have bM:b∉p::pv'::pe'::M:=t4.off hb;right;refine cn ?_;right;obtain⟨dx7,pd7,ps7,qs7,es7,X7⟩:=t7.ex;refine⟨x',G.Table,dx7,_,_,rfl,X7.hx,ct.cl,ct.n5,rfl,?_⟩;right;have vb:bF H7 b (T.turn sys j).vw:=⟨qs4,k57.lst (fun z=>bM (sub3 _ z)) e5,Paired.mapP X4.qv fun _ _ ⟨z1,z2⟩=>k57.lst (fun z=>z2 (sub3 _ z)) (s5 _ _ z1)⟩;have vn:bF H7 pv' (T.turn sys (j+1)).vw:=⟨qs7,X7.vs,Paired.mapP X7.qv fun _ _ z=>z.1⟩;refine FP vn vb ?_;have s7:am H H7:=k57.new (s4.trans s5) new3;have done:∀z:Nat,z=T.still sys (j+1)->∃m',m'<turns-j/\∃(j':Nat)(u:Option V)(rs:List Addr),m'=turns-j'/\j'<=turns/\[some (.ref x),some (.ref sl),some (.int turns),some (.ref x'),some (.ref tp),some (.ref p),some (.int (z:Nat)),some (.ref b)]=[some (.ref x),some (.ref sl),some (.int turns),some (.ref x'),some (.ref tp),some (.ref p),some (.int (T.still sys j':Nat)),u]/\am H H7/\H7 tp=some (.tup (ar (JT T.k)))/\Tb G (p::pv'::pe'::M) H7 x' pv' pe' (T.turn sys j')/\H7 p=some (.lst (rs.map V.ref))/\Paired (fun(r:Addr)(i:Nat)=>H7 r=some (.lst (blV T.n (T.told sys i)))/\r∉p::pv'::pe'::M/\H r=none) rs (JT j')/\∀i,i<j'->T.still sys i<sys.length:=by
    intro z hz;refine⟨turns-(j+1),by omega,j+1,some (.ref b),rs++[p6],rfl,hjt,by rw[hz],s7,k57.tup (s5 _ _ e4),t7,by rw[e7,JY];rfl,?_,fun i hi=>?_⟩
    ·rw[LJ]
     refine kd (Paired.mapP p4 fun r i ⟨z1,z2,z3⟩=>⟨k57.lst (fun y=>z2 (sub3 _ y)) (s5 _ _ z1),z2,z3⟩) ⟨k7.lst (fun y=>p6M (by rw[JE.mp y];exact JI)) e6,p6M,(s4.trans s5).free hp6⟩
    ·by_cases y:i=j
     ·rw[y];exact hst
     ·exact hgo i (by omega)
   by_cases c3:(T.turn sys (j+1)).vw=(T.turn sys j).vw
   ·rw[decide_eq_true c3]
    right;refine done (T.still sys j+1) ?_;show _=if _ then _ else _
    rw[if_pos c3]
   ·rw[decide_eq_false c3]
    right;refine done 0 ?_;show _=if _ then _ else _
    rw[if_neg c3]
  ·right
   exact fin (.inr (by omega))
 ·right
  exact fin (.inl (by omega))
end
section
variable{σ:St}{H:Hp}{Q:VK}{a:Addr}{kvs:List (Key×V)}{i:Int}{v:V}
end
section
variable{g:CF TG}{tt:CF TT}{te:CF TE}{σ₀:St}{Q:VK}{H:Hp}
end
theorem GQ{H:Hp}{Q:VK}{l:Addr}{xs:List V}(e:H l=some (.lst xs))(h:∀H',Off l H H'->H' l=some (.lst [])->Q .non H'):xD (.ref l) [] H Q:=⟨l,xs,rfl,rfl,e,h _ fO az⟩
section
open KF
noncomputable def hU(M:List Addr)(H:Hp)(lv:Addr)(vw:List (List Nat)):Prop:=∃us:List Addr,H lv=some (.lst (us.map V.ref))/\Paired (fun(u:Addr)(v:List Nat)=>H u=some (.lst (ar v))/\u∉M) us vw
theorem hU.kp{M N:List Addr}{H H':Hp}{lv:Addr}{vw:List (List Nat)}(h:hU M H lv vw)(k:Kp N H H')(hn:∀b∈N,b∈M)(n:lv∉N):hU M H' lv vw:=let⟨us,e,q⟩:=h;⟨us,k.lst n e,Paired.mapP q fun _ _ ⟨z1,z2⟩=>⟨k.lst (fun y=>z2 (hn _ y)) z1,z2⟩⟩
theorem hU.same{M:List Addr}{H H':Hp}{lv:Addr}{vw:List (List Nat)}(h:hU M H lv vw)(s:am H H'):hU M H' lv vw:=h.kp (N:=[]) (Kp.of s) (fun _ z=>nomatch z) (fun z=>nomatch z)
theorem hU.views{M:List Addr}{H:Hp}{lv:Addr}{vw:List (List Nat)}(h:hU M H lv vw):bF H lv vw:=let⟨us,e,q⟩:=h;⟨us,e,Paired.mapP q fun _ _ z=>z.1⟩
theorem hU.set{M:List Addr}{H:Hp}{lv nl:Addr}{vw:List (List Nat)}{us:List Addr}{v:List Nat}(h:hU M H lv vw)(hm:lv∈M)(e:H lv=some (.lst (us.map V.ref)))(i:Nat)(en:H nl=some (.lst (ar v)))(nn:nl∉M):hU M (upd H lv (.lst ((us.map V.ref).set i (.ref nl)))) lv (vw.set i v):=by
 obtain⟨us',e',q⟩:=h;rw[e]at e';have eu:us=us':=by
  have:=HO.lst.inj (JR e');exact List.map_inj_right (fun _ _ z=>V.ref.inj z) |>.mp this
 subst eu;have ne:∀{b:Addr},b∉M->b≠lv:=fun n z=>n (z▸hm);refine⟨us.set i nl,by rw[az,Ri],tE (Paired.mapP q fun _ _ ⟨z1,z2⟩=>⟨by rw[aR (ne z2)];exact z1,z2⟩) ⟨by rw[aR (ne nn)];exact en,nn⟩ i⟩
theorem EV{n:Nat}{v:List Nat}(hw:Within n v)(hc:bn v=v)(i:Nat)(hi:i<n):v.getD (v.getD i 0) 0=v.getD i 0:=by
 obtain⟨h1,h2⟩:=cV hw hi;have:=(Dc hc h1).1;rw[h1]at this;rw[JN (i:=v.getD i 0),<-this];rfl
theorem Dr{α β:Type}{xs:List α}{ys:List β}{i:Nat}{x:α}{y:β}(hx:xs[i]?=some x)(hy:ys[i]?=some y):(xs.zip ys).take (i+1)=(xs.zip ys).take i++[(x,y)]:=bP (by rw[MH];exact⟨hx,hy⟩)
end
section
variable{K:Fg}{vs:List V}{H:Hp}{Q:VK}{E:XK}
open KF
theorem GR{n:Nat}{P P':Nat->Prop}:AM (blV n P) (blV n P') (fun j=>@decide (P j↔P' j) (KG _)):=by
 intro j x y hx hy;obtain⟨hj,rfl⟩:=dC hx;obtain⟨_,rfl⟩:=dC hy;refine .inl ⟨rfl,rfl,?_⟩;by_cases a:P j<;>by_cases b:P' j<;>(delta eqV;simp[a,b])
theorem EW{n:Nat}{P P':Nat->Prop}:eZ (blV n P) (blV n P') (fun j=>@decide (P j↔P' j) (KG _))=@decide (∀i,i<n->(P i↔P' i)) (KG _):=by
 unfold eZ;rw[bq,bq,Mu];by_cases h:∀i,i<n->(P i↔P' i)
 ·rw[<-cdt h]
  simp;intro i hi;exact h i hi
 ·rw[<-cdf h,beq_self_eq_true,Bool.and_true,<-RV,N6]
  intro z;apply h;intro i hi;exact @of_decide_eq_true _ (KG _) (z i (K1.mpr hi))
theorem Iw{K:Fg}{H:Hp}{Q:VK}{a b:Addr}{n:Nat}{P P':Nat->Prop}(h1:SqL K H a (blV n P))(h2:SqL K H b (blV n P'))(h:Q (.bl (@decide (∀i,i<n->(P i↔P' i)) (KG _))) H):iw (SqL K) false (.ref a) (.ref b) H Q:=
 ⟨a,b,_,_,_,rfl,rfl,h1,h2,GR,by rw[EW];exact h⟩
section
open Classical
theorem yC{K:Fg}{H:Hp}{a b:Addr}{n:Nat}{P P':Nat->Prop}{Q:VK}(ea:H a=some (.lst (blV n P)))(eb:H b=some (.lst (blV n P')))(hn:n<=100000)(q:∀p H',H p=none->am H H'->H' p=some (.lst (blV n fun i=>P i/\P' i))->Q (.ref p) H'):
  ∃a' b' xs' ys',[V.ref a,V.ref b]=[.ref a',.ref b']/\aV.Sq K H a' xs'/\aV.Sq K H b' ys'/\∀p,H p=none->∃W:Nat->Nat->List V->Hp->Prop,(∃m,W 0 m [] (upd H p (.lst [])))/\∀(C:Addr)(s':Shared)(H':Hp)(fp:List Addr),bE (Itz aV aV K a' b') (cM K 2 (aZ (ag 0) (aZ (ag 1) cL))) aS (fM (aa 0) (aa 1)) [none,none] p Q W:=by
 refine lc (g:=fun _ _ _ _=>cM K 2 (aZ (ag 0) (aZ (ag 1) cL))) (tt:=fun _ _ _ _=>aS) (te:=fun _ _ _ _=>fM (aa 0) (aa 1)) (S1:=aV) (S2:=aV) _ _ (SqL.of ea) (SqL.of eb) (fun H' s=>s.seq (SqL.of ea)) (fun H' s=>s.seq (SqL.of eb)) (by rw[bq];omega) (fun i acc _=>acc=blV i fun i=>P i/\P' i) (fun _ _=>rfl) ?_ ?_
 ·rintro p hp C s' H' fp i x y T acc H2 H3 hx hy ⟨s2,e2,l2,rfl⟩ hT s3 e3 e4
  obtain⟨hi,rfl⟩:=dC hx;obtain⟨_,rfl⟩:=dC hy;refine dh (SqT.of e3) ?_;right;by_cases h:P i
  ·rw[decide_eq_true h]
   refine ki ?_;right;refine aW.put hp (fun _ _ _ _ r _=>r) (s2.trans s3) e4 l2 ?_;rw[ce]
   congr 3
   exact decide_eq_decide.mpr ⟨fun q=>⟨h,q⟩,fun q=>q.2⟩
  ·rw[decide_eq_false h]
   refine kh ?_;refine aW.put hp (fun _ _ _ _ r _=>r) (s2.trans s3) e4 l2 ?_;rw[ce]
   congr 3
   exact cdf fun q=>h q.1
 ·rintro p acc H2 hp s2 e2 rfl
  rw[bq,bq,Mu]at e2;exact q _ _ hp s2 e2
theorem Jd{K:Fg}{H:Hp}{a b:Addr}{n:Nat}{P P':Nat->Prop}{Q:VK}(ea:H a=some (.lst (blV n P)))(eb:H b=some (.lst (blV n P')))(hn:n<=100000)(q:∀p H',H p=none->am H H'->H' p=some (.lst (blV n fun i=>P i\/P' i))->Q (.ref p) H'):
  ∃a' b' xs' ys',[V.ref a,V.ref b]=[.ref a',.ref b']/\aV.Sq K H a' xs'/\aV.Sq K H b' ys'/\∀p,H p=none->∃W:Nat->Nat->List V->Hp->Prop,(∃m,W 0 m [] (upd H p (.lst [])))/\∀(C:Addr)(s':Shared)(H':Hp)(fp:List Addr),bE (Itz aV aV K a' b') (cM K 2 (aZ (ag 0) (aZ (ag 1) cL))) aS (uP (aa 0) (aa 1)) [none,none] p Q W:=by
 refine lc (g:=fun _ _ _ _=>cM K 2 (aZ (ag 0) (aZ (ag 1) cL))) (tt:=fun _ _ _ _=>aS) (te:=fun _ _ _ _=>uP (aa 0) (aa 1)) (S1:=aV) (S2:=aV) _ _ (SqL.of ea) (SqL.of eb) (fun H' s=>s.seq (SqL.of ea)) (fun H' s=>s.seq (SqL.of eb)) (by rw[bq];omega) (fun i acc _=>acc=blV i fun i=>P i\/P' i) (fun _ _=>rfl) ?_ ?_
 ·rintro p hp C s' H' fp i x y T acc H2 H3 hx hy ⟨s2,e2,l2,rfl⟩ hT s3 e3 e4
  obtain⟨hi,rfl⟩:=dC hx;obtain⟨_,rfl⟩:=dC hy;refine dh (SqT.of e3) ?_;right;by_cases h:P i
  ·rw[decide_eq_true h]
   refine ki ?_;refine aW.put hp (fun _ _ _ _ r _=>r) (s2.trans s3) e4 l2 ?_;rw[ce]
   congr 3
   exact cdt (.inl h)
  ·rw[decide_eq_false h]
   refine kh ?_;right;refine aW.put hp (fun _ _ _ _ r _=>r) (s2.trans s3) e4 l2 ?_;rw[ce]
   congr 3
   exact decide_eq_decide.mpr ⟨.inr,fun q=>q.resolve_left h⟩
 ·rintro p acc H2 hp s2 e2 rfl
  rw[bq,bq,Mu]at e2;exact q _ _ hp s2 e2
end
noncomputable def Rep(n:Nat)(v:List Nat):Prop:=∀i,i<n->v.getD (v.getD i 0) 0=v.getD i 0
theorem Ds{K:Fg}{H:Hp}{d:Addr}{w:List Nat}{h:Int}{Q:VK}(e:H d=some (.tup (ar w)))(hl:w.length<=1000)(q:∀p H',H p=none->am H H'->H' p=some (.lst ((fc w h).map V.int))->Q (.ref p) H'):
  ∃a' xs',[V.ref d]=[.ref a']/\ee.Sq K H a' xs'/\∀p,H p=none->∃W:Nat->Nat->List V->Hp->Prop,(∃m,W 0 m [] (upd H p (.lst [])))/\∀(C:Addr)(s':Shared)(H':Hp)(fp:List Addr),bE (Ite ee K a') (cM K 2 (aZ (ag 0) (aZ (ag 1) cL))) (aU (tOp rEq (aa 1) (aa 2))) (aa 0) [none,none,some (.int h)] p Q W:=by
 rw[cB]at e;refine Gz (g:=fun _ _ _ _=>cM K 2 (aZ (ag 0) (aZ (ag 1) cL))) (tt:=fun _ _ _ _=>aU (tOp rEq (aa 1) (aa 2))) (te:=fun _ _ _ _=>aa 0) (S:=ee) _ (SqT.of e) (fun H' s=>s.tup (SqT.of e)) (by rw[JB,JB];omega) (fun i acc _=>acc=(nG (w.map fun(s:Nat)=>((s:Nat):Int)) h i).map V.int) (fun H' _=>rfl) ?_ ?_
 ·rintro r hr C s' H' fp i x T acc H2 H3 hx ⟨s2,e2,l2,rfl⟩ hT s3 e3 e4
  obtain⟨z,hz,rfl⟩:=ya hx;refine dh (SqT.of e3) ?_;right;have eu:=v2 (w.map fun(s:Nat)=>((s:Nat):Int)) h i;refine bW (fun c=>?_) (fun c=>?_)
  ·right
   refine aW.put hr (fun _ _ _ _ r _=>r) (s2.trans s3) e4 l2 ?_;rw[eu,if_pos (by rw[hz,c]),JY];rfl
  ·refine aW.skip (s2.trans s3) e4 l2 ?_
   rw[eu,if_neg (by rw[hz];intro z;exact c (JR z)),LH]
 ·rintro p acc H2 hp s2 e2 rfl
  rw[JB,JB]at e2;exact q _ _ hp s2 e2
noncomputable def eY(_:Fg):Sp:=fun vals H Q _=>∃(a b:Addr)(n:Nat)(P:Nat->Prop),vals=[.ref a,.ref b]/\H a=some (.lst (blV n P))/\H b=some (.lst (blV n P))/\n<=100000/\∀H',am H H'->Q (.bl true) H'
noncomputable def dS(K:Fg):TS:=(ao (br (tOr (dH (tB (tCB (iu K) (ab (aa 0) (ab (tC (.ty "list")) af))))) (aU (tOp (j4 K true) (aa 0) (aa 1)))) (aI (tC (.bl false))) ba)
 (aI (tOp (iw (SqL K) false) (bo (ca K (aa 0)) (fun _ _ _ _=>(ag 0)) (fun _ _ _ _=>(dH (tB (tCB (iu K) (ab (aa 0) (ab (tC (.ty "bool")) af)))))) (fun _ _ _ _=>(aa 0)) [none]) (db af))))
theorem oA(h:eY K vs H Q E):dS K { nx:=fun _ H'=>Q .non H',rt:=Q } (start ["_law_found","_law_due"] vs) H:=by
 obtain⟨a,b,n,P,rfl,ea,eb,hn,q⟩:=h;show dS K _ [some _,some _] _;unfold dS;right;refine gH (.lst ea) (jA K) ?_;right;refine va 1 (by decide) (sQ (SqL.of ea) (SqL.of eb) (yf n P)) ?_;right;refine cK _ (SqL.of ea) (by rw[bq];omega) (fun i acc _=>acc=[]) (fun _ _=>rfl) ?_ ?_
 ·rintro p hp C s' H' fp i x acc H2 hx ⟨s2,e2,l2,r2⟩
  obtain⟨hi,rfl⟩:=dC hx;subst r2;right;refine gH (.bl _) (wo K) ?_;right;exact aW.skip s2 e2 l2 rfl
 ·rintro p acc H2 hp s2 e2 rfl
  right;refine⟨by simp[JJ],fun p3 H3 hp3 s3 e3=>?_⟩;refine FI (ns:=[]) (ms:=[]) (SqL.of (s3 _ _ e2)) (SqL.of e3) ?_;exact q _ (s2.trans s3)
end
section
variable{K:Fg}{vs:List V}{H:Hp}{Q:VK}{E:XK}
open KF
section
open Classical
noncomputable def eB(v:List Nat)(L:Nat->Prop)(i:Nat):MK->Option V:=fun k=>if∃j,j<i/\L j/\k=.inl (some ((v.getD j 0:Nat):Int))then some (.bl true)else none
theorem tJ(v:List Nat)(L:Nat->Prop)(k:MK):none=eB v L 0 k:=by
 unfold eB;rw[if_neg (fun⟨j,h,_⟩=>absurd h (by omega))]
theorem tK{v:List Nat}{L:Nat->Prop}{i:Nat}(h:¬L i)(k:MK):eB v L i k=eB v L (i+1) k:=by
 unfold eB;have e:(∃j,j<i/\L j/\k=.inl (some ((v.getD j 0:Nat):Int)))↔∃j,j<i+1/\L j/\k=.inl (some ((v.getD j 0:Nat):Int)):=by
  constructor
  ·rintro⟨j,h1,h2⟩;exact⟨j,by omega,h2⟩
  ·rintro⟨j,h1,h2,h3⟩
   by_cases c:j=i
   ·rw[c]at h2;exact absurd h2 h
   ·exact⟨j,by omega,h2,h3⟩
 by_cases q:∃j,j<i/\L j/\k=.inl (some ((v.getD j 0:Nat):Int))
 ·rw[if_pos q,if_pos (e.mp q)]
 ·rw[if_neg q,if_neg (fun z=>q (e.mpr z))]
theorem v4{v:List Nat}{L:Nat->Prop}{i:Nat}(h:L i)(k:MK):gI (eB v L i) (.inl (some ((v.getD i 0:Nat):Int))) (.bl true) k=eB v L (i+1) k:=by
 unfold gI eB;by_cases c:k=.inl (some ((v.getD i 0:Nat):Int))
 ·rw[if_pos c,if_pos ⟨i,by omega,h,c⟩]
 ·rw[if_neg c]
  by_cases q:∃j,j<i/\L j/\k=.inl (some ((v.getD j 0:Nat):Int))
  ·rw[if_pos q,if_pos (let⟨j,h1,h2⟩:=q;⟨j,by omega,h2⟩)]
  ·rw[if_neg q,if_neg]
   rintro⟨j,h1,h2,h3⟩;by_cases d:j=i
   ·rw[d]at h3;exact c h3
   ·exact q ⟨j,by omega,h2,h3⟩
theorem EX{v:List Nat}{P:Nat->Prop}{n i:Nat}:(eB v (fun j=>¬P j) n (.inl (some ((v.getD i 0:Nat):Int)))).isNone=decide (KN n v P i):=by
 unfold eB;by_cases q:KN n v P i
 ·rw[if_neg]
  ·exact cdt q
  ·rintro⟨j,h1,h2,h3⟩
   injection h3 with h3
   injection h3 with h3
   exact h2 (q j h1 (by omega))
 ·rw[if_pos]
  ·exact cdf q
  ·obtain⟨j,h⟩:=QJ.mp q
   obtain⟨h1,h⟩:=Pk.mp h;obtain⟨h2,h3⟩:=Pk.mp h;exact⟨j,h1,h3,by rw[h2]⟩
noncomputable def iV(_:Fg):Sp:=fun vs H Q _=>∃(a b:Addr)(n:Nat)(v:List Nat)(P:Nat->Prop),vs=[.ref a,.ref b]/\H a=some (.lst (ar v))/\H b=some (.lst (blV n P))/\Within n v/\n<=100000/\
 ∀p H',H p=none->am H H'->H' p=some (.lst (blV n (KN n v P)))->Q (.ref p) H'
noncomputable def jM(K:Fg):TS:=(ao (aA mU (ag 2))
 (ao (cQ (jy aV K (ab (aa 1) af)) (cM K 2 (aZ (ag 3) (aZ (ag 4) cL))) (br (dH (tB (aa 4))) (aA (tC (.bl true)) (kW (aa 2) (tOp (bT K) (aa 0) (aa 3)) sn)) ba))
 (aI (bo (ca K (aa 0)) (fun _ _ _ _=>(ag 0)) (fun _ _ _ _=>aS) (fun _ _ _ _=>(tOp (rn true) (aa 0) (aa 1))) [none,some 2]))))
theorem yD{K:Fg}{H:Hp}{a d:Addr}{n m:Nat}{v:List Nat}{P:Nat->Prop}{Q:VK}(ea:H a=some (.lst (ar v)))(hv:Within n v)(hn:n<=100000)(dx:Dx H d false (eB v (fun j=>¬P j) n) m)(q:∀p H',H p=none->am H H'->H' p=some (.lst (blV n (KN n v P)))->Q (.ref p) H'):
  ∃a',V.ref a=.ref a'/\(∃xs,SqL K H a' xs)/\∀p,H p=none->∃W:Nat->Nat->List V->Hp->Prop,(∃m,W 0 m [] (upd H p (.lst [])))/\∀(C:Addr)(s':Shared)(H':Hp)(fp:List Addr),bE (Itl K a') (ag 0) aS (tOp (rn true) (aa 0) (aa 1)) [none,some (.ref d)] p Q W:=by
 refine cK (g:=fun _ _ _ _=>ag 0) (tt:=fun _ _ _ _=>aS) (te:=fun _ _ _ _=>tOp (rn true) (aa 0) (aa 1)) (ar v) (SqL.of ea) (by rw[be,hv.1];omega) (fun i acc _=>acc=blV i (KN n v P)) (fun _ _=>rfl) ?_ ?_
 ·rintro r hr C s' H' fp i x acc H4 hx ⟨s4,e4,l4,rfl⟩
  obtain⟨z,hz,rfl⟩:=ek hx;have hi:i<n:=by have:=(JG.mp hz).1;rw[hv.1]at this;exact this
  obtain⟨hz',hzn⟩:=cV hv hi;rw[hz]at hz';have ez:z=v.getD i 0:=JR hz';right;refine xS (dx.same s4) (k:=.inl (some (z:Int))) rfl rfl ?_;refine aW.put hr (fun _ _ _ _ r _=>r) s4 e4 l4 ?_;rw[ce,ez,EX]
 ·rintro r acc H4 hr s4 e4 rfl
  rw[be,hv.1]at e4;exact q _ _ hr s4 e4
theorem yE(h:iV K vs H Q E):jM K { nx:=fun _ H'=>Q .non H',rt:=Q } (start ["_law_view","_law_truths","_law_lacks","_law_place","_law_truth"] vs) H:=by
 obtain⟨a,b,n,v,P,rfl,ea,eb,hv,hn,q⟩:=h;show jM K _ [some _,some _,none,none,none] _;unfold jM;right;refine pZ false fun d H1 hd s1 dx1=>?_;right;refine mS (S:=aV) (blV n P) (SqL.of (s1 _ _ eb)) (fun i σ H3=>∃(u1 u2:Option V),σ=[some (.ref a),some (.ref b),some (.ref d),u1,u2]/\am H H3/\Dx H3 d false (eB v (fun j=>¬P j) i) i) ?_ ?_ ?_ ?_
 ·exact⟨_,_,rfl,s1,dx1.congr (tJ _ _)⟩
 ·rintro i σ H3 hi ⟨u1,u2,rfl,s3,dx3⟩
  exact SqL.of (s3 _ _ eb)
 ·rintro i x T σ H3 H4 hx ⟨u1,u2,rfl,s3,dx3⟩ hT s4 eT
  obtain⟨hi,rfl⟩:=dC hx;refine dh (SqT.of eT) ?_;have dx4:=dx3.same s4;have s34:=s3.trans s4;right;by_cases h:P i
  ·rw[decide_eq_true h]
   right;exact⟨_,_,rfl,s34,(dx4.congr (tK (fun z=>z h))).le (L8 i)⟩
  ·rw[decide_eq_false h]
   right;refine bz (SqL.of (s34 _ _ ea)) (g9 (cV hv hi).1) ?_;refine xT dx4 (k:=.inl (some ((v.getD i 0:Nat):Int))) rfl rfl (by rw[JJ];omega) fun H5 o5 dx5=>?_;exact⟨_,_,rfl,s34.off hd o5,dx5.congr (v4 h)⟩
 ·rintro σ H3 ⟨u1,u2,rfl,s3,dx3⟩
  rw[bq]at dx3;right;exact yD (s3 _ _ ea) hv hn dx3 fun p H4 hp s4 e4=>q p H4 (s3.free hp) (s3.trans s4) e4
noncomputable def iW(_:Fg):Sp:=fun vals H Q _=>∃(a g b:Addr)(n:Nat)(vs:List (List Nat))(gs:List Nat)(P:Nat->Prop),vals=[.ref a,.ref g,.ref b]/\bF H a vs/\H g=some (.tup (ar gs))/\(∀k∈gs,k<vs.length)/\H b=some (.lst (blV n P))/\(∀v∈vs,Within n v)/\n<=100000/\
 ∀p H',H p=none->am H H'->H' p=some (.lst (blV n fun i=>∀v∈gs.map (fun h=>vs.getD h []),KN n v P i))->Q (.ref p) H'
noncomputable def jN(K:Fg):TS:=(ao (aA (bo (ca K (aa 2)) (fun _ _ _ _=>(ag 0)) (fun _ _ _ _=>aS) (fun _ _ _ _=>(tC (.bl true))) [none]) (ag 3))
 (ao (cQ (qX K (aa 1)) (ag 4) (aA (bo (kl aV aV K (ab (aa 3) (ab (ap (iV K) [] E0 (ab (tOp (bT K) (aa 0) (aa 4)) (ab (aa 2) af))) af))) (fun _ _ _ _=>(cM K 2 (aZ (ag 0) (aZ (ag 1) cL)))) (fun _ _ _ _=>aS) (fun _ _ _ _=>(fM (aa 0) (aa 1))) [none,none]) (ag 3)))
 (aI (aa 3))))
theorem yF(h:iW K vs H Q E):jN K { nx:=fun _ H'=>Q .non H',rt:=Q } (start ["_law_views_here","_law_group_here","_law_truths","_law_found","_law_hand"] vs) H:=by
 obtain⟨a,g,b,n,vs,gs,P,rfl,hV,eg,hg,eb,hw,hn,q⟩:=h;show jN K _ [some _,some _,some _,none,none] _;unfold jN;right;refine cK (blV n P) (SqL.of eb) (by rw[bq];omega) (fun i acc _=>acc=blV i (fun k=>∀v∈(gs.take 0).map (fun h=>vs.getD h []),KN n v P k)) (fun _ _=>rfl) ?_ ?_
 ·rintro p hp C s' H' fp i x acc H2 hx ⟨s2,e2,l2,rfl⟩
  right;refine aW.put hp (fun _ _ _ _ r _=>r) s2 e2 l2 ?_;rw[ce]
  congr 3
  exact cdt (fun v hv=>by simp at hv)
 ·rintro p acc H2 hp s2 e2 rfl
  rw[bq]at e2;right;refine sg (ar gs) (SqT.of (s2 _ _ eg)) (fun i σ H3=>∃(u1:Option V)(p:Addr),σ=[some (.ref a),some (.ref g),some (.ref b),some (.ref p),u1]/\H p=none/\am H H3/\H3 p=some (.lst (blV n fun k=>∀v∈(gs.take i).map (fun h=>vs.getD h []),KN n v P k))) ?_ ?_ ?_ ?_
  ·exact⟨_,p,rfl,hp,s2,e2⟩
  ·rintro i σ H3 _ ⟨u1,p,rfl,hp,s3,e3⟩
   exact SqT.of (s3 _ _ eg)
  ·rintro i x σ H3 hx ⟨u1,p,rfl,hp,s3,e3⟩
   obtain⟨k,hk,rfl⟩:=ek hx;right;obtain⟨vr,r,e4,e5,e6,e7⟩:=ie (hV.same s3) (hg k (JK hk));refine bz (SqL.of e4) e5 ?_;right;refine⟨r,b,n,vs.getD k [],P,rfl,e6,s3 _ _ eb,hw _ e7,hn,fun c H4 hc s4 e8=>?_⟩;right;refine yC (s4 _ _ e3) e8 hn fun p2 H5 hp2 s5 e9=>?_;right;refine⟨_,p2,rfl,s3.free (s4.free hp2),(s3.trans s4).trans s5,?_⟩;rw[e9]
   congr 2
   refine j8 fun i _=>?_;rw[bP hk,JY];exact⟨fun h w hw=>(Ka.mp hw).elim (h.1 w) fun z=>by rw[JE.mp z];exact h.2,fun h=>⟨fun w hw=>h w (Li _ hw),h _ (by simp)⟩⟩
  ·rintro σ H3 ⟨u1,p,rfl,hp,s3,e3⟩
   rw[be,Ki]at e3;right;exact q _ _ hp s3 e3
noncomputable def A8(n:Nat)(P:Nat->Prop):Nat:=((JT n).filter fun i=>decide (P i)).length
theorem Ix{n:Nat}{P P':Nat->Prop}(h:∀i,i<n->P' i->P i)(ne:¬∀i,i<n->(P' i↔P i)):A8 n P'<A8 n P:=by
 unfold A8;have le:∀l:List Nat,(∀i∈l,P' i->P i)->(l.filter fun i=>decide (P' i)).length<=(l.filter fun i=>decide (P i)).length:=by
  intro l
  induction l with
  |nil=>intro _;exact JF _
  |cons x r ih=>
   intro hh;have i1:=ih fun i hi=>hh i (JO _ hi);by_cases a:P' x
   ·rw[KQ (by simpa using a),KQ (by simpa using hh x (JI ..) a)]
    simp;omega
   ·rw[K6 (by simpa using a)]
    by_cases b:P x
    ·rw[KQ (by simpa using b)];simp;omega
    ·rw[K6 (by simpa using b)];exact i1
 have lt:∀l:List Nat,(∀i∈l,P' i->P i)->(∃i∈l,¬(P' i↔P i))->(l.filter fun i=>decide (P' i)).length<(l.filter fun i=>decide (P i)).length:=by
  intro l
  induction l with
  |nil=>rintro _ ⟨i,hi,_⟩;simp at hi
  |cons x r ih=>
   intro hh hx;by_cases c:P' x↔P x
   ·have i1:=ih (fun i hi=>hh i (JO _ hi)) (by
     obtain⟨i,hi,z⟩:=hx;rcases JH.mp hi with rfl|hi
     ·exact absurd c z
     ·exact⟨i,hi,z⟩)
    by_cases a:P' x
    ·rw[KQ (by simpa using a),KQ (by simpa using c.mp a)];simp;omega
    ·rw[K6 (by simpa using a),K6 (by simpa using fun b=>a (c.mpr b))];exact i1
   ·have a:¬P' x:=fun a=>c ⟨fun _=>hh x (JI ..) a,fun _=>a⟩
    have b:P x:=Classical.byContradiction fun b=>c ⟨fun z=>absurd z a,fun z=>absurd z b⟩;rw[K6 (by simpa using a),KQ (by simpa using b)];have:=le r fun i hi=>hh i (JO _ hi);simp;omega
 refine lt _ (fun i hi=>h i (K1.mp hi)) ?_;obtain⟨i,hi⟩:=QJ.mp ne;obtain⟨h1,h2⟩:=Pk.mp hi;exact⟨i,K1.mpr h1,h2⟩
noncomputable def yG(n:Nat)(fs:List (List Nat))(P:Nat->Prop)(i:Nat):Prop:=∀j,j<n->cJ (gK n fs) i j->P j
theorem A9{n:Nat}{fs:List (List Nat)}{P:Nat->Prop}(hw:∀v∈fs,Within n v){v:List Nat}(hv:v∈fs){i:Nat}(hi:i<n)(h:yG n fs P i):KN n v (yG n fs P) i:=fun j hj e k hk c=>by
 obtain⟨e1,_⟩:=cV (hw v hv) hi;obtain⟨e2,_⟩:=cV (hw v hv) hj;rw[e]at e2;exact h k hk (.trans (.one ⟨v,hv,hi,e1⟩) (.trans (.symm (.one ⟨v,hv,hj,e2⟩)) c))
theorem EY{n:Nat}{fs:List (List Nat)}{P F:Nat->Prop}(hw:∀v∈fs,Within n v)(hrep:∀v∈fs,Rep n v)(hF:∀i,i<n->F i->P i)(hfix:∀i,i<n->F i->∀v∈fs,KN n v F i){i:Nat}(hi:i<n)(h:F i):yG n fs P i:=by
 have st:∀x y,gK n fs x y->x<n/\y<n/\(F x↔F y):=by
  rintro x y ⟨v,hv,hx,hy⟩;have hyn:=(hw v hv).2 _ (JK hy);obtain⟨e1,_⟩:=cV (hw v hv) hx;rw[hy]at e1;have ey:y=v.getD x 0:=JR e1;have er:v.getD y 0=v.getD x 0:=by rw[ey];exact hrep v hv x hx
  exact⟨hx,hyn,fun f=>hfix x hx f v hv y hyn er,fun f=>hfix y hyn f v hv x hx er.symm⟩
 have go:∀x y,cJ (gK n fs) x y->(x<n/\F x↔y<n/\F y):=by
  intro x y c
  induction c with
  |refl x=>exact Iff.rfl
  |one h=>
   obtain⟨h1,h2,h3⟩:=st _ _ h;exact⟨fun f=>⟨h2,h3.mp f.2⟩,fun f=>⟨h1,h3.mpr f.2⟩⟩
  |symm _ ih=>exact ih.symm
  |trans _ _ a b=>exact a.trans b
 intro j hj c;exact hF j hj ((go i j c).mp ⟨hi,h⟩).2
noncomputable def ju(_:Fg):Sp:=fun vals H Q _=>∃(a g b:Addr)(n:Nat)(vs:List (List Nat))(gs:List Nat)(P:Nat->Prop),vals=[.ref a,.ref g,.ref b]/\bF H a vs/\H g=some (.tup (ar gs))/\(∀k∈gs,k<vs.length)/\H b=some (.lst (blV n P))/\(∀v∈vs,Within n v/\Rep n v)/\n<=100000/\
 ∀p H',H p=none->am H H'->H' p=some (.lst (blV n (yG n (gs.map fun h=>vs.getD h []) P)))->Q (.ref p) H'
noncomputable def gQ(K:Fg):TS:=(ao (aA (tCB (fv K) (ab (aa 2) af)) (ag 3))
 (im (tB (tC (.bl true))) (ao (aA (bo (kl aV aV K (ab (aa 3) (ab (ap (iW K) [] E0 (ab (aa 0) (ab (aa 1) (ab (aa 3) af)))) af))) (fun _ _ _ _=>(cM K 2 (aZ (ag 0) (aZ (ag 1) cL)))) (fun _ _ _ _=>aS) (fun _ _ _ _=>(fM (aa 0) (aa 1))) [none,none]) (ag 4))
 (ao (br (aU (tOp (iw (SqL K) false) (aa 4) (aa 3))) (aI (aa 3)) ba)
 (aA (aa 4) (ag 3))))))
theorem vo(h:ju K vs H Q E):gQ K { nx:=fun _ H'=>Q .non H',rt:=Q } (start ["_law_views_here","_law_group_here","_law_truths","_law_found","_law_more"] vs) H:=by
 obtain⟨a,g,b,n,vs,gs,P,rfl,hV,eg,hg,eb,hw,hn,q⟩:=h;show gQ K _ [some _,some _,some _,none,none] _;unfold gQ;have hm:∀v∈gs.map (fun h=>vs.getD h []),Within n v/\Rep n v:=fun v hv=>by
  obtain⟨k,hk,rfl⟩:=KR.mp hv;obtain⟨_,_,_,_,_,e5⟩:=ie hV (hg k hk);exact hw _ e5
 right;refine iC (SqL.of eb) fun p H1 hp s1 e1=>?_;right;refine pV (fun m σ H2=>∃(u1:Option V)(p:Addr)(F:Nat->Prop),σ=[some (.ref a),some (.ref g),some (.ref b),some (.ref p),u1]/\A8 n F=m/\H p=none/\am H H2/\H2 p=some (.lst (blV n F))/\(∀i,i<n->F i->P i)/\∀i,i<n->yG n (gs.map fun h=>vs.getD h []) P i->F i) _ ⟨_,p,P,rfl,rfl,hp,s1,e1,fun _ _ h=>h,fun i hi h=>h i hi (.refl i)⟩ ?_;rintro m σ H2 ⟨u1,p,F,rfl,rfl,hp,s2,e2,f1,f2⟩;right;refine pU ?_;right;refine⟨a,g,p,n,vs,gs,F,rfl,hV.same s2,s2 _ _ eg,hg,e2,fun v hv=>(hw v hv).1,hn,fun c H3 hc s3 e3=>?_⟩;right;refine yC (s3 _ _ e2) e3 hn fun p2 H4 hp2 s4 e4=>?_;right;refine Iw (SqL.of e4) (SqL.of (s4 _ _ (s3 _ _ e2))) ?_;have s24:=s3.trans s4;right;by_cases eq:∀i,i<n->((F i/\∀v∈gs.map (fun h=>vs.getD h []),KN n v F i)↔F i)
 ·rw[<-cdt eq]
  right;refine q p H4 hp (s2.trans s24) ?_;rw[s24 _ _ e2]
  congr 2
  refine j8 fun i hi=>⟨fun h=>EY (fun v hv=>(hm v hv).1) (fun v hv=>(hm v hv).2) f1 (fun i hi h=>((eq i hi).mpr h).2) hi h,f2 i hi⟩
 ·rw[<-cdf eq]
  right;refine⟨_,Ix (P:=F) (fun i _ h=>h.1) eq,_,p2,_,rfl,rfl,s2.free (s3.free hp2),s2.trans s24,e4,fun i hi h=>f1 i hi h.1,fun i hi h=>⟨f2 i hi h,fun v hv j hj e=>f2 j hj (A9 (fun v hv=>(hm v hv).1) hv hi h j hj e)⟩⟩
noncomputable def iX(_:Fg):Sp:=fun vals H Q _=>∃(a b:Addr)(n:Nat)(ws:List (List Nat))(v:List Nat)(h:Int),vals=[.ref a,.ref b,.int h]/\bu H a ws/\ws.length=n/\(∀w∈ws,w.length<=1000)/\H b=some (.lst (ar v))/\Within n v/\n<=100000/\
 ∀p H',H p=none->am H H'->H' p=some (.lst (blV n (KN n v (nN n (ws.map fun w=>fc w h) v))))->Q (.ref p) H'
noncomputable def fY(K:Fg):TS:=(ao (aA (bo (ca K (aa 0)) (fun _ _ _ _=>(ag 0)) (fun _ _ _ _=>aS) (fun _ _ _ _=>(tCB (pW K) (ab (bo (jy ee K (ab (aa 0) af)) (fun _ _ _ _=>(cM K 2 (aZ (ag 0) (aZ (ag 1) cL)))) (fun _ _ _ _=>(aU (tOp rEq (aa 1) (aa 2)))) (fun _ _ _ _=>(aa 0)) [none,none,some 1]) af))) [none,some 2]) (ag 3))
 (ao (aA mU (ag 4))
 (ao (cQ (jy aV K (ab (aa 1) af)) (cM K 2 (aZ (ag 5) (aZ (ag 6) cL))) (br (aU (tOp (iw (SqT K) true) (tOp (bT K) (aa 3) (aa 5)) (tOp (bT K) (aa 3) (aa 6)))) (aA (tC (.bl true)) (kW (aa 4) (aa 6) sn)) ba))
 (aI (bo (ca K (aa 1)) (fun _ _ _ _=>(ag 0)) (fun _ _ _ _=>aS) (fun _ _ _ _=>(tOp (rn true) (aa 0) (aa 1))) [none,some 4])))))
theorem EZ{K:Fg}{H:Hp}{a:Addr}{ws:List (List Nat)}{h:Int}{Q:VK}{σ₀:St}{te:CF TE}(hD:bu H a ws)(hw:∀w∈ws,w.length<=1000)(hl:ws.length<=100000)
  (hs:∀C s' H' fp (d:Addr) (w:List Nat) H2 (R:V->Hp->Prop),H2 d=some (.tup (ar w))->w.length<=1000->(∀t H3,H2 t=none->am H2 H3->H3 t=some (.tup ((fc w h).map V.int))->R (.ref t) H3)->te C s' H' fp (σ₀.set 0 (some (.ref d))) H2 R)
  (q:∀p H',H p=none->am H H'->Ag H' p (ws.map fun w=>fc w h)->Q (.ref p) H'):
  ∃a',V.ref a=.ref a'/\(∃xs,SqL K H a' xs)/\∀p,H p=none->∃W:Nat->Nat->List V->Hp->Prop,(∃m,W 0 m [] (upd H p (.lst [])))/\∀C s' H' fp,bE (Itl K a') (ag 0) aS (te C s' H' fp) σ₀ p Q W:=by
 obtain⟨rs,ea,hr⟩:=hD;have hlr:rs.length=ws.length:=Kf hr;refine cK (g:=fun _ _ _ _=>ag 0) (tt:=fun _ _ _ _=>aS) (te:=te) (rs.map V.ref) (SqL.of ea) (by rw[JB];omega) (fun i acc H2=>∃ts:List Addr,acc=ts.map V.ref/\Paired (fun(r:Addr)(xs:List Int)=>H2 r=some (.tup (xs.map V.int))) ts ((ws.take i).map fun w=>fc w h)) (fun _ _=>⟨[],rfl,.nil⟩) ?_ ?_
 ·rintro p hp C s' H' fp i x acc H2 hx ⟨s2,e2,l2,ts,rfl,ht⟩
  obtain⟨d,hd,rfl⟩:=jq hx;obtain⟨u,hu,eu⟩:=bG hr hd;refine iB (xK (ki ?_));refine hs C s' H' fp d u H2 _ (s2 _ _ eu) (hw u (JK hu)) fun t H3 ht3 s3 e3=>?_;refine aW.put hp (fun _ _ _ _ ⟨ts,e,r⟩ k=>⟨ts,e,Paired.mapP r fun _ _ z=>k _ _ z⟩) (s2.trans s3) (s3 _ _ e2) l2 ⟨ts++[t],by simp,?_⟩;rw[bP hu,JY];exact sY (Paired.mapP ht fun _ _ z=>s3 _ _ z) e3
 ·rintro p acc H2 hp s2 e2 ⟨ts,rfl,ht⟩
  rw[JB,hlr,Ki]at ht;exact q p H2 hp s2 ⟨ts,e2,ht⟩
theorem tL(h:iX K vs H Q E):fY K { nx:=fun _ H'=>Q .non H',rt:=Q } (start ["_law_deals","_law_view","_law_pile","_law_piles","_law_lacks","_law_place","_law_least_here"] vs) H:=by
 obtain⟨a,b,n,ws,v,h,rfl,hD,hlen,hw,eb,hv,hn,q⟩:=h;show fY K _ [some _,some _,some _,none,none,none,none] _;unfold fY;right;refine EZ (h:=h) hD hw (by omega) ?_ ?_
 ·intro C s' H' fp d w H2 R e hl hR
  right;refine Ds (h:=h) e hl fun l H3 hl3 s3 e3=>?_;right;exact Aa (SqL.of e3) fun t H4 ht s4 e4=>hR t H4 (s3.free ht) (s3.trans s4) e4
 ·intro pl H1 hpl s1 hP
  have hpl':(ws.map fun w=>fc w h).length=n:=by rw[JB];exact hlen
  generalize (ws.map fun w=>fc w h)=ps at *;obtain⟨ts,ep,ht⟩:=id hP;right;refine pZ false fun d H2 hd s2 dx2=>?_;have hdH:H d=none:=s1.free hd;have s02:=s1.trans s2;right;refine mS (S:=aV) (ar v) (SqL.of (s02 _ _ eb)) (fun i σ H3=>∃(u1 u2:Option V),σ=[some (.ref a),some (.ref b),some (.int h),some (.ref pl),some (.ref d),u1,u2]/\am H H3/\Dx H3 d false (eB v (fun j=>¬nN n ps v j) i) i/\H3 pl=some (.lst (ts.map V.ref))/\Paired (fun(r:Addr)(xs:List Int)=>H3 r=some (.tup (xs.map V.int))) ts ps) ?_ ?_ ?_ ?_
  ·exact⟨_,_,rfl,s02,dx2.congr (tJ _ _),s2 _ _ ep,Paired.mapP ht fun _ _ z=>s2 _ _ z⟩
  ·rintro i σ H3 hi ⟨u1,u2,rfl,s3,dx3,_⟩
   exact SqL.of (s3 _ _ eb)
  ·rintro i x T σ H3 H4 hx ⟨u1,u2,rfl,s3,dx3,ep3,ht3⟩ hT s4 eT
   obtain⟨z,hz,rfl⟩:=ek hx;have hi:i<n:=by have:=(JG.mp hz).1;rw[hv.1]at this;exact this
   obtain⟨hz',hzn⟩:=cV hv hi;rw[hz]at hz';have ez:z=v.getD i 0:=JR hz';obtain⟨c1,hc1,ec1⟩:=lX ht3 (i:=i) (by omega);obtain⟨c2,hc2,ec2⟩:=lX ht3 (i:=z) (by omega);refine dh (SqT.of eT) ?_;have dx4:=dx3.same s4;have s34:=s3.trans s4;have ep4:=s4 _ _ ep3;right;refine bz (SqL.of ep4) (v:=.ref c1) (b8 (by rw[JS,hc1];rfl)) ?_;right;refine bz (SqL.of ep4) (v:=.ref c2) (b8 (by rw[JS,hc2];rfl)) ?_;right;refine IW (SqT.of (s4 _ _ ec1)) (SqT.of (s4 _ _ ec2)) ?_;refine HS ?_;have ht4:Paired (fun(r:Addr)(xs:List Int)=>H4 r=some (.tup (xs.map V.int))) ts ps:=Paired.mapP ht3 fun _ _ w=>s4 _ _ w;refine rh (fun c=>?_) (fun c=>?_)
   ·right
    refine xT dx4 (k:=.inl (some (z:Int))) rfl rfl (by rw[JJ];omega) fun H5 o5 dx5=>?_;have kp:=dx4.offK o5;have npd:pl≠d:=dx4.ne_lst ep4;refine⟨_,_,rfl,s34.off hdH o5,dx5.congr fun k=>?_,by rw[o5 pl npd];exact ep4,Paired.mapP ht4 fun _ _ w=>kp _ _ w⟩;rw[ez];exact v4 (by unfold nN;rw[<-ez];exact c) k
   ·right
    refine⟨_,_,rfl,s34,(dx4.congr (tK fun w=>w ?_)).le (L8 i),ep4,ht4⟩;unfold nN;rw[<-ez];exact c
  ·rintro σ H3 ⟨u1,u2,rfl,s3,dx3,ep3,ht3⟩
   rw[be,hv.1]at dx3;right;exact yD (s3 _ _ eb) hv hn dx3 fun p H4 hp s4 e4=>q p H4 (s3.free hp) (s3.trans s4) e4
end
end
section
open KF
noncomputable def dD(_:Fg)(m:Nat):Sp:=fun vals H Q _=>∃(a b:Addr)(x:V)(c n:Nat)(ws vs:List (List Nat))(s:Sy),vals=[.ref a,.ref b,x]/\Table H a b c n ws vs/\(∀v∈vs,Rep n v)/\aN H x s/\s.Ok c vs.length/\s.words<=m/\
 ∀p H',H p=none->am H H'->H' p=some (.lst (blV n (TR n ws vs s)))->Q (.ref p) H'
noncomputable def jO(K:Fg)(n:Nat):TS:=(ao (br (aU (tOp rEq (tOp (bH K) (aa 2) (tC (.int 0))) (tC (.str "holds")))) (aI (bo (ca K (aa 0)) (fun _ _ _ _=>(ag 0)) (fun _ _ _ _=>aS) (fun _ _ _ _=>(tOp rEq (tOp (bH K) (aa 0) (tOp (bH K) (aa 1) (tC (.int 2)))) (tOp (bH K) (aa 1) (tC (.int 1))))) [none,some 2])) ba)
 (ao (br (aU (tOp rEq (tOp (bH K) (aa 2) (tC (.int 0))) (tC (.str "sees")))) (aI (ap (iX K) [] E0 (ab (aa 0) (ab (tOp (bT K) (aa 1) (tOp (bH K) (aa 2) (tC (.int 1)))) (ab (tCB (bY K) (ab (aa 1) af)) af))))) ba)
 (ao (aA (ap (dD K n) [] E0 (ab (aa 0) (ab (aa 1) (ab (tOp (bH K) (aa 2) (tUn (rU fun i=>.int (-i)) (tC (.int 1)))) af)))) (ag 3))
 (ao (br (aU (tOp rEq (tOp (bH K) (aa 2) (tC (.int 0))) (tC (.str "not")))) (aI (bo (ca K (aa 3)) (fun _ _ _ _=>(ag 0)) (fun _ _ _ _=>aS) (fun _ _ _ _=>(rR (aa 0))) [none])) ba)
 (ao (br (aU (tOp rEq (tOp (bH K) (aa 2) (tC (.int 0))) (tC (.str "knows")))) (aI (ap (iV K) [] E0 (ab (tOp (bT K) (aa 1) (tOp (bH K) (aa 2) (tC (.int 1)))) (ab (aa 3) af)))) ba)
 (ao (br (aU (tOp rEq (tOp (bH K) (aa 2) (tC (.int 0))) (tC (.str "all")))) (aI (ap (iW K) [] E0 (ab (aa 1) (ab (tOp (bH K) (aa 2) (tC (.int 1))) (ab (aa 3) af))))) ba)
 (ao (br (aU (tOp rEq (tOp (bH K) (aa 2) (tC (.int 0))) (tC (.str "common")))) (aI (ap (ju K) [] E0 (ab (aa 1) (ab (tOp (bH K) (aa 2) (tC (.int 1))) (ab (aa 3) af))))) ba)
 (ao (aA (ap (dD K n) [] E0 (ab (aa 0) (ab (aa 1) (ab (tOp (bH K) (aa 2) (tC (.int 1))) af)))) (ag 4))
 (ao (br (aU (tOp rEq (tOp (bH K) (aa 2) (tC (.int 0))) (tC (.str "and")))) (aI (bo (kl aV aV K (ab (aa 4) (ab (aa 3) af))) (fun _ _ _ _=>(cM K 2 (aZ (ag 0) (aZ (ag 1) cL)))) (fun _ _ _ _=>aS) (fun _ _ _ _=>(fM (aa 0) (aa 1))) [none,none])) ba)
 (aI (bo (kl aV aV K (ab (aa 4) (ab (aa 3) af))) (fun _ _ _ _=>(cM K 2 (aZ (ag 0) (aZ (ag 1) cL)))) (fun _ _ _ _=>aS) (fun _ _ _ _=>(uP (aa 0) (aa 1))) [none,none])))))))))))
noncomputable abbrev zz:List Str:=["_law_deals","_law_views_here","_law_saying_here","_law_below","_law_ahead"]
theorem pH{K:Fg}{vs:List V}{H:Hp}{Q:VK}{E:XK}(h:dD K 0 vs H Q E):False:=by
 obtain⟨a,b,x,c,n,ws,vs,s,rfl,_,_,_,_,h,_⟩:=h;have:=s.words_pos;omega
section
open Classical
theorem yH{K:Fg}{m:Nat}{vals:List V}{H:Hp}{Q:VK}{E:XK}(h:dD K (m+1) vals H Q E):jO K m { nx:=fun _ H'=>Q .non H',rt:=Q } (start zz vals) H:=by
 obtain⟨a,b,x,c,n,ws,vs,s,rfl,T,hrep,hS,hok,hw,q⟩:=h;show jO K m _ [some _,some _,some _,none,none] _;unfold jO;obtain⟨rs,ea,hr⟩:=id T.deals;have hlr:rs.length=ws.length:=Kf hr;have hn:=T.small;have hlen:=T.len;cases s with
 |holds w k=>
  obtain⟨t,rfl,et⟩:=hS;obtain⟨hwh,hkc⟩:=hok;right;refine aB (SqT.of (et)) (i:=0) rfl ?_;right;refine cj rfl ?_;right;refine cK (rs.map V.ref) (SqL.of ea) (by rw[JB];omega) (fun i acc _=>acc=blV i (TR n ws vs (.holds w k))) (fun _ _=>rfl) ?_ ?_
  ·rintro p hp C s' H' fp i x acc H2 hx ⟨s2,e2,l2,rfl⟩
   obtain⟨d,hd,rfl⟩:=jq hx;obtain⟨u,hu,eu⟩:=bG hr hd;have huc:=T.cards u (JK hu);have e1:u[k]?=some (u.getD k 0):=by rw[JN,JD (by omega)];rfl
   right;refine aB (SqT.of (s2 _ _ et)) (i:=2) rfl ?_;right;refine aB (SqT.of (s2 _ _ eu)) (g9 e1) ?_;right;refine aB (SqT.of (s2 _ _ et)) (i:=1) rfl ?_;right;refine aW.put hp (fun _ _ _ _ r _=>r) s2 e2 l2 ?_;rw[ce]
   congr 3
   refine cde ?_;show _↔(ws.getD i []).getD k 0=w;rw[ic hu];omega
  ·rintro p acc H2 hp s2 e2 rfl
   rw[JB,hlr,hlen]at e2;exact q _ _ hp s2 e2
 |sees k=>
  obtain⟨t,rfl,et⟩:=hS;have hk:k<vs.length:=hok;obtain⟨vr,r,e1,e3,e4,e5⟩:=ie T.views hk;obtain⟨vrs,evb,hvl,_⟩:=lp T.views;have:=T.few;right;refine aB (SqT.of (et)) (i:=0) rfl ?_;right;refine aE (by decide) ?_;right;refine aB (SqT.of (et)) (i:=0) rfl ?_;right;refine cj rfl ?_;right;refine aB (SqT.of et) (i:=1) rfl ?_;right;refine bz (SqL.of e1) e3 ?_;right;rw[JB,hvl];exact⟨a,r,n,ws,vs.getD k [],(vs.length:Nat),rfl,T.deals,hlen,fun w hw=>by rw[T.cards w hw];omega,e4,T.win _ e5,hn,fun p H' hp s' e'=>q p H' hp s' e'⟩
 |not s=>
  obtain⟨t,y,rfl,et,hy⟩:=hS;have hw':s.words<=m:=by simp only[Sy.words]at hw;omega
  right;refine aB (SqT.of (et)) (i:=0) rfl ?_;right;refine aE (by decide) ?_;right;refine aB (SqT.of (et)) (i:=0) rfl ?_;right;refine aE (by decide) ?_;right;refine aB (SqT.of et) (i:=-1) rfl ?_;right;refine⟨a,b,y,c,n,ws,vs,s,rfl,T,hrep,hy,hok,hw',fun l H1 hl s1 e1=>?_⟩;right;refine aB (SqT.of (s1 _ _ et)) (i:=0) rfl ?_;right;refine cj rfl ?_;right;refine cK _ (SqL.of e1) (by rw[bq];omega) (fun i acc _=>acc=blV i (TR n ws vs (.not s))) (fun _ _=>rfl) ?_ ?_
  ·rintro p hp C s' H' fp i x acc H2 hx ⟨s2,e2,l2,rfl⟩
   obtain⟨hi,rfl⟩:=dC hx;right;refine aW.put hp (fun _ _ _ _ r _=>r) s2 e2 l2 ?_;rw[ce]
   congr 3
   by_cases z:TR n ws vs s i
   ·rw[decide_eq_true z];exact cdf fun h=>h z
   ·rw[decide_eq_false z];exact cdt z
  ·rintro p acc H2 hp s2 e2 rfl
   rw[bq]at e2;exact q _ _ (s1.free hp) (s1.trans s2) e2
 |and s t=>
  obtain⟨u,y,z,rfl,et,hy,hz⟩:=hS;have hw1:s.words<=m:=by simp only[Sy.words]at hw;omega
  have hw2:t.words<=m:=by simp only[Sy.words]at hw;omega
  right;refine aB (SqT.of (et)) (i:=0) rfl ?_;right;refine aE (by decide) ?_;right;refine aB (SqT.of (et)) (i:=0) rfl ?_;right;refine aE (by decide) ?_;right;refine aB (SqT.of et) (i:=-1) rfl ?_;right;refine⟨a,b,z,c,n,ws,vs,t,rfl,T,hrep,hz,hok.2,hw2,fun l H1 hl s1 e1=>?_⟩;right;refine aB (SqT.of (s1 _ _ et)) (i:=0) rfl ?_;right;refine aE (by decide) ?_;right;refine aB (SqT.of (s1 _ _ et)) (i:=0) rfl ?_;right;refine aE (by decide) ?_;right;refine aB (SqT.of (s1 _ _ et)) (i:=0) rfl ?_;right;refine aE (by decide) ?_;right;refine aB (SqT.of (s1 _ _ et)) (i:=0) rfl ?_;right;refine aE (by decide) ?_;right;refine aB (SqT.of (s1 _ _ et)) (i:=1) rfl ?_;right;refine⟨a,b,y,c,n,ws,vs,s,rfl,T.same s1,hrep,hy.keep s1.keep,hok.1,hw1,fun l2 H2 hl2 s2 e2=>?_⟩;right;refine aB (SqT.of (s2 _ _ (s1 _ _ et))) (i:=0) rfl ?_;right;refine cj rfl ?_;right;exact yC e2 (s2 _ _ e1) hn fun p H3 hp s3 e3=>q p H3 (s1.free (s2.free hp)) ((s1.trans s2).trans s3) e3
 |or s t=>
  obtain⟨u,y,z,rfl,et,hy,hz⟩:=hS;have hw1:s.words<=m:=by simp only[Sy.words]at hw;omega
  have hw2:t.words<=m:=by simp only[Sy.words]at hw;omega
  right;refine aB (SqT.of (et)) (i:=0) rfl ?_;right;refine aE (by decide) ?_;right;refine aB (SqT.of (et)) (i:=0) rfl ?_;right;refine aE (by decide) ?_;right;refine aB (SqT.of et) (i:=-1) rfl ?_;right;refine⟨a,b,z,c,n,ws,vs,t,rfl,T,hrep,hz,hok.2,hw2,fun l H1 hl s1 e1=>?_⟩;right;refine aB (SqT.of (s1 _ _ et)) (i:=0) rfl ?_;right;refine aE (by decide) ?_;right;refine aB (SqT.of (s1 _ _ et)) (i:=0) rfl ?_;right;refine aE (by decide) ?_;right;refine aB (SqT.of (s1 _ _ et)) (i:=0) rfl ?_;right;refine aE (by decide) ?_;right;refine aB (SqT.of (s1 _ _ et)) (i:=0) rfl ?_;right;refine aE (by decide) ?_;right;refine aB (SqT.of (s1 _ _ et)) (i:=1) rfl ?_;right;refine⟨a,b,y,c,n,ws,vs,s,rfl,T.same s1,hrep,hy.keep s1.keep,hok.1,hw1,fun l2 H2 hl2 s2 e2=>?_⟩;right;refine aB (SqT.of (s2 _ _ (s1 _ _ et))) (i:=0) rfl ?_;right;refine aE (by decide) ?_;right;exact Jd e2 (s2 _ _ e1) hn fun p H3 hp s3 e3=>q p H3 (s1.free (s2.free hp)) ((s1.trans s2).trans s3) e3
 |knows k s=>
  obtain⟨t,y,rfl,et,hy⟩:=hS;have hw':s.words<=m:=by simp only[Sy.words]at hw;omega
  right;refine aB (SqT.of (et)) (i:=0) rfl ?_;right;refine aE (by decide) ?_;right;refine aB (SqT.of (et)) (i:=0) rfl ?_;right;refine aE (by decide) ?_;right;refine aB (SqT.of et) (i:=-1) rfl ?_;right;refine⟨a,b,y,c,n,ws,vs,s,rfl,T,hrep,hy,hok.2,hw',fun l H1 hl s1 e1=>?_⟩;right;refine aB (SqT.of (s1 _ _ et)) (i:=0) rfl ?_;right;refine aE (by decide) ?_;right;refine aB (SqT.of (s1 _ _ et)) (i:=0) rfl ?_;right;refine cj rfl ?_;right;refine aB (SqT.of (s1 _ _ et)) (i:=1) rfl ?_;right;obtain⟨vr,r,e2,e3,e4,e5⟩:=ie (T.views.same s1) hok.1;refine bz (SqL.of e2) e3 ?_;right;exact⟨r,l,n,vs.getD k [],_,rfl,e4,e1,T.win _ e5,hn,fun p2 H3 hp2 s3 e6=>q p2 H3 (s1.free hp2) (s1.trans s3) e6⟩
 |all g s=>
  obtain⟨t,u,y,rfl,et,eu,hy⟩:=hS;have hw':s.words<=m:=by simp only[Sy.words]at hw;omega
  obtain⟨⟨hpw,hg⟩,hok'⟩:=hok;right;refine aB (SqT.of (et)) (i:=0) rfl ?_;right;refine aE (by decide) ?_;right;refine aB (SqT.of (et)) (i:=0) rfl ?_;right;refine aE (by decide) ?_;right;refine aB (SqT.of et) (i:=-1) rfl ?_;right;refine⟨a,b,y,c,n,ws,vs,s,rfl,T,hrep,hy,hok',hw',fun l H1 hl s1 e1=>?_⟩;right;refine aB (SqT.of (s1 _ _ et)) (i:=0) rfl ?_;right;refine aE (by decide) ?_;right;refine aB (SqT.of (s1 _ _ et)) (i:=0) rfl ?_;right;refine aE (by decide) ?_;right;refine aB (SqT.of (s1 _ _ et)) (i:=0) rfl ?_;right;refine cj rfl ?_;right;refine aB (SqT.of (s1 _ _ et)) (i:=1) rfl ?_;right;exact⟨b,u,l,n,vs,g,_,rfl,T.views.same s1,s1 _ _ eu,hg,e1,T.win,hn,fun p2 H3 hp2 s3 e6=>q p2 H3 (s1.free hp2) (s1.trans s3) e6⟩
 |common g s=>
  obtain⟨t,u,y,rfl,et,eu,hy⟩:=hS;have hw':s.words<=m:=by simp only[Sy.words]at hw;omega
  obtain⟨⟨hpw,hg⟩,hok'⟩:=hok;right;refine aB (SqT.of (et)) (i:=0) rfl ?_;right;refine aE (by decide) ?_;right;refine aB (SqT.of (et)) (i:=0) rfl ?_;right;refine aE (by decide) ?_;right;refine aB (SqT.of et) (i:=-1) rfl ?_;right;refine⟨a,b,y,c,n,ws,vs,s,rfl,T,hrep,hy,hok',hw',fun l H1 hl s1 e1=>?_⟩;right;refine aB (SqT.of (s1 _ _ et)) (i:=0) rfl ?_;right;refine aE (by decide) ?_;right;refine aB (SqT.of (s1 _ _ et)) (i:=0) rfl ?_;right;refine aE (by decide) ?_;right;refine aB (SqT.of (s1 _ _ et)) (i:=0) rfl ?_;right;refine aE (by decide) ?_;right;refine aB (SqT.of (s1 _ _ et)) (i:=0) rfl ?_;right;refine cj rfl ?_;right;refine aB (SqT.of (s1 _ _ et)) (i:=1) rfl ?_;right;exact⟨b,u,l,n,vs,g,_,rfl,T.views.same s1,s1 _ _ eu,hg,e1,fun v hv=>⟨T.win v hv,hrep v hv⟩,hn,fun p2 H3 hp2 s3 e6=>q p2 H3 (s1.free hp2) (s1.trans s3) e6⟩
end
end
section
variable{K:Fg}{vs:List V}{H:Hp}{Q:VK}{E:XK}
open KF
set_option genInjectivity false in
inductive Dd where
 |word (g:List Nat) (s:Sy)
 |show(i:Nat) (h:Int) (ns:List Int)
noncomputable def tM(N:Addr->Prop)(H:Hp)(v:V):Dd->Prop
 | .word g s=>∃a b x,v=.ref a/\H a=some (.tup [.str "word",.ref b,x])/\H b=some (.tup (ar g))/\aN H x s
 | .show i h ns=>∃a l,v=.ref a/\H a=some (.tup [.str "show",.int i,.int h,.ref l])/\H l=some (.lst (ns.map V.int))/\N l
noncomputable def Dd.Ok(c k:Nat):Dd->Prop
 | .word g s=>g.Pairwise (· < ·)/\(∀h∈g,h<k)/\s.Ok c k/\s.words<=20
 | .show i h ns=>i<k/\0<=h/\h<=k/\ns.length<6/\∀n∈ns,0<=n/\n<c
noncomputable def TM.deed(T:TM):Dd->TM
 | .word g s=>T.word g s
 | .show i h ns=>T.show i h ns
noncomputable def TM.dtold(T:TM):Dd->List V
 | .word g s=>blV T.n (T.tr s)
 | .show i h ns=>(iT T.ws h ns).map iaR
theorem tM.to{N N':Addr->Prop}{H H':Hp}{v:V}{d:Dd}(h:tM N H v d)(k:cS H H')(f:∀l xs,N l->H l=some (.lst xs)->H' l=some (.lst xs)/\N' l):tM N' H' v d:=by
 cases d with
 |word g s=>obtain⟨a,b,x,e,h1,h2,h3⟩:=h;exact⟨a,b,x,e,k _ _ h1,k _ _ h2,h3.keep k⟩
 |«show» i hh ns=>obtain⟨a,l,e,h1,h2,h3⟩:=h;exact⟨a,l,e,k _ _ h1,(f _ _ h3 h2).1,(f _ _ h3 h2).2⟩
theorem tN(T:TM)(d:Dd):(T.deed d).c=T.c/\(T.deed d).ss=T.ss:=by cases d<;>exact⟨rfl,rfl⟩
theorem GS(T:TM)(d:Dd):(T.deed d).ws=T.ws:=by unfold TM.ws;rw[(tN T d).1,(tN T d).2]
theorem GT(T:TM)(d:Dd):(T.deed d).ds.length=T.ds.length+1:=by
 cases d<;>(show(T.ds++[_]).length=_;rw[JX];rfl)
noncomputable def lB(K:Fg):Sp:=fun vs H Q _=>∃(a:Addr)(ns:List Int)(at_:Int)(c k:Nat),vs=[.ref a,.int at_,.int c,.int k]/\eM K H a ns/\0<=at_/\at_<=900/\1<=k/\k<=5/\
 ∀(v:V)(d:Dd) H',am H H'->tM (fun l=>H l=none) H' v d->d.Ok c k->Q v H'
noncomputable def jP(K:Fg):TS:=(ao (aA (ap (bj K) [] E0 (ab (aa 0) (ab (aa 1) af))) (ag 4))
 (ao (br (tOr (aU (tOp (rI0 fun i j=>.bl (decide (j<i))) (tOp (rI (fun _ j=>0<j) fun i j=>.int (i%j)) (aa 4) (tC (.int 3))) (tC (.int 0)))) (aU (tOp rEq (aa 2) (tC (.int 0))))) (aI (cD (ab (tC (.str "word")) (ab (ap (dc K) [] E0 (ab (tOp (rI dI fun i j=>.int (i/j)) (aa 4) (tC (.int 3))) (ab (aa 3) af))) (ab (ap (em K) [] E0 (ab (aa 0) (ab (tOp (rI0 fun i j=>.int (i+j)) (aa 1) (tC (.int 1))) (ab (aa 2) (ab (aa 3) (ab (tC (.int 14)) af)))))) af))))) ba)
 (ao (aA (bo (cZ (ab (tOp (rI (fun _ j=>0<j) fun i j=>.int (i%j)) (ap (bj K) [] E0 (ab (aa 0) (ab (tOp (rI0 fun i j=>.int (i+j)) (aa 1) (tC (.int 2))) af))) (tC (.int 6))) af)) (fun _ _ _ _=>(ag 0)) (fun _ _ _ _=>aS) (fun _ _ _ _=>(tOp (rI (fun _ j=>0<j) fun i j=>.int (i%j)) (ap (bj K) [] E0 (ab (aa 2) (ab (tOp (rI0 fun i j=>.int (i+j)) (tOp (rI0 fun i j=>.int (i+j)) (aa 3) (tC (.int 3))) (aa 0)) af))) (aa 1))) [none,some 2,some 0,some 1]) (ag 5))
 (aI (cD (ab (tC (.str "show")) (ab (tOp (rI (fun _ j=>0<j) fun i j=>.int (i%j)) (tOp (rI dI fun i j=>.int (i/j)) (aa 4) (tC (.int 3))) (aa 3)) (ab (tOp (rI (fun _ j=>0<j) fun i j=>.int (i%j)) (tOp (rI dI fun i j=>.int (i/j)) (aa 4) (tC (.int 21))) (tOp (rI0 fun i j=>.int (i+j)) (aa 3) (tC (.int 1)))) (ab (aa 5) af)))))))))
theorem yI(h:lB K vs H Q E):jP K { nx:=fun _ H'=>Q .non H',rt:=Q } (start ["_law_script","_law_at","_law_cards","_law_hands","_law_cell_here","_law_some"] vs) H:=by
 obtain⟨a,ns,at_,c,k,rfl,hSc,ha0,ha1,hk1,hk5,q⟩:=h;show jP K _ [some _,some _,some _,some _,none,none] _;unfold jP;refine cG ?_;nofun;refine⟨a,ns,at_,rfl,hSc,by omega,by omega,?_⟩;nofun;refine b9 fun NX hNX=>?_;have wordy:aI (cD (ab (tC (.str "word")) (ab (ap (dc K) [] E0 (ab (tOp (rI dI fun i j=>.int (i/j)) (aa 4) (tC (.int 3))) (ab (aa 3) af))) (ab (ap (em K) [] E0 (ab (aa 0) (ab (tOp (rI0 fun i j=>.int (i+j)) (aa 1) (tC (.int 1))) (ab (aa 2) (ab (aa 3) (ab (tC (.int 14)) af)))))) af)))) { nx:=NX,rt:=Q } [some (.ref a),some (.int at_),some (.int c),some (.int k),some (.int (bv ns at_)),none] H:=by
  right;refine⟨_,k,rfl,hk5,fun tp g H1 s1 e1 pw hb=>?_⟩;right;refine⟨a,ns,at_+1,c,k,14,rfl,hSc.same s1,by omega,by omega,hk1,hk5,by decide,by decide,fun v s H2 s2 hS hok hw=>?_⟩;right;refine⟨by simp[JJ],fun t3 H3 ht3 s3 e3=>?_⟩;exact q _ (.word g s) H3 ((s1.trans s2).trans s3) ⟨t3,tp,v,rfl,e3,s3 _ _ (s2 _ _ e1),hS.keep s3.keep⟩ ⟨pw,hb,hok,Kc hw (by decide)⟩
 nofun;refine bW (fun c1=>?_) (fun c1=>?_)
 ·exact wordy
 ·nofun
  refine bW (fun c2=>?_) (fun c2=>?_)
  ·exact wordy
  ·have c0:0<c:=by omega
   nofun;refine hNX _ _ ?_;right;refine⟨a,ns,at_+2,rfl,hSc,by omega,by omega,?_⟩;right;obtain⟨mn,hmn,hmn6⟩:∃mn:Nat,bv ns (at_+2)%6=(mn:Int)/\mn<6:=⟨(bv ns (at_+2)%6).toNat,by omega,by omega⟩;rw[hmn];refine jp mn (by omega) (by omega) (by omega) (fun j acc _=>∃ms:List Int,acc=ms.map V.int/\ms.length=j/\∀n∈ms,0<=n/\n<(c:Int)) (fun _ _=>⟨[],rfl,rfl,fun _ z=>nomatch z⟩) ?_ ?_
   ·rintro p' hp' C s' H' fp j acc H8 hj ⟨s8,e8,l8,ms,rfl,lm,hms⟩
    right;refine⟨a,ns,at_+3+(j:Int),rfl,hSc.same s8,by omega,by omega,?_⟩;right;refine aW.put hp' (fun _ _ _ _ r _=>r) s8 e8 l8 ⟨ms++[bv ns (at_+3+(j:Int))%(c:Int)],by rw[JY];rfl,by simp[lm],fun n hn=>?_⟩;rcases Ka.mp hn with z|z
    ·exact hms n z
    ·rw[JE.mp z]
     exact⟨My _ (by omega),Md _ (by omega)⟩
   ·rintro l acc H2 hl s2 e2 ⟨ms,rfl,lm,hms⟩
    right;obtain⟨i,hi,hik⟩:=ma (bv ns at_/3) (m:=(k:Int)) (by omega);rw[hi];refine⟨by simp[JJ],fun t3 H3 ht3 s3 e3=>?_⟩;exact q _ (.show i (bv ns at_/21%((k:Int)+1)) ms) H3 (s2.trans s3) ⟨t3,l,rfl,e3,s3 _ _ e2,hl⟩ ⟨by omega,My _ (by omega),by have:=Md (bv ns at_/21) (show 0<(k:Int)+1 by omega);omega,by omega,hms⟩
noncomputable def lC(_:Fg)(G:GF):Sp:=fun vs H Q _=>∃(M:List Addr)(x pv pe:Addr)(T:TM)(v:V)(d:Dd),vs=[.ref x,v]/\Tb G M H x pv pe T/\tM (fun l=>l∉M) H v d/\d.Ok T.c T.k/\T.ds.length<1000/\
 Tld G M H x pv pe (T.deed d) (T.dtold d) Q
noncomputable def jQ(K:Fg)(G:GF):TS:=(ao (br (aU (tOp rEq (tOp (bH K) (aa 1) (tC (.int 0))) (tC (.str "word")))) (aI (eJ G.Table "word" (gO K G) [] E0 (aa 0) (ab (tOp (bH K) (aa 1) (tC (.int 1))) (ab (tOp (bH K) (aa 1) (tC (.int 2))) af)))) ba)
 (aI (eJ G.Table "show" (kB K G) [] E0 (aa 0) (ab (tOp (bH K) (aa 1) (tC (.int 1))) (ab (tOp (bH K) (aa 1) (tC (.int 2))) (ab (tCB (fv K) (ab (tOp (bH K) (aa 1) (tC (.int 3))) af)) af))))))
noncomputable abbrev zA:List Str:=["_law_table","_law_deed_here"]
theorem yJ{K:Fg}{G:GF}{vs:List V}{H:Hp}{Q:VK}{E:XK}(h:lC K G vs H Q E):jQ K G { nx:=fun _ H'=>Q .non H',rt:=Q } (start zA vs) H:=by
 obtain⟨M,x,pv,pe,T,v,d,rfl,t,hd,ok,hds,q⟩:=h;show jQ K G _ [some _,some _] _;unfold jQ;cases d with
 |word g s=>
  obtain⟨a,b,y,rfl,h1,h2,h3⟩:=hd;obtain⟨o1,o2,o3,o4⟩:=ok;right;refine aB (SqT.of h1) (i:=0) rfl ?_;right;refine cj rfl ?_;right;obtain⟨dx1,fs1,hx1,hl1⟩:=t.at "word" (by decide+kernel) (by decide+kernel) (by decide+kernel) (by decide+kernel) (by decide+kernel) (by decide+kernel);refine gy ?_;right;refine⟨x,dx1,fs1,rfl,hx1,hl1,?_⟩;right;refine aB (SqT.of h1) (i:=1) rfl ?_;right;refine aB (SqT.of h1) (i:=2) rfl ?_;right;exact⟨M,x,pv,pe,b,T,g,y,s,rfl,t,h2,o1,o2,h3,o3,by omega,hds,q⟩
 |«show» i hh ns=>
  obtain⟨a,l,rfl,h1,h2,h3⟩:=hd;obtain⟨o1,o2,o3,o4,o5⟩:=ok;right;refine aB (SqT.of h1) (i:=0) rfl ?_;right;refine aE (by decide) ?_;right;obtain⟨dx1,fs1,hx1,hl1⟩:=t.at "show" (by decide+kernel) (by decide+kernel) (by decide+kernel) (by decide+kernel) (by decide+kernel) (by decide+kernel);refine gy ?_;right;refine⟨x,dx1,fs1,rfl,hx1,hl1,?_⟩;right;refine aB (SqT.of h1) (i:=1) rfl ?_;right;refine aB (SqT.of h1) (i:=2) rfl ?_;right;refine aB (SqT.of h1) (i:=3) rfl ?_;right;refine iC (SqL.of h2) fun l1 H1 hl1' s1 e1=>?_;right;exact⟨M,x,pv,pe,l1,T,i,hh,ns,rfl,t.same s1,e1,o1,o2,o3,by omega,o5,hds,fun p Hm H2 k2 t2 hp s2 e2=>q p Hm H2 ((Kp.of s1).trans k2) t2 hp s2 e2⟩
end
section
open KF
theorem E1(z:Int)(ns:List Int):inV (.int z) (ns.map V.int)=decide (z∈ns):=by
 unfold inV;rw[List.any_map];cases h:ns.any ((fun y=>eqV y (.int z))∘V.int)with
 |true=>
  obtain⟨n,hn,e⟩:=List.any_eq_true.mp h;have e':(n==z)=true:=e;rw[beq_iff_eq]at e';exact(decide_eq_true (e'▸hn)).symm
 |false=>
  refine(decide_eq_false fun hz=>?_).symm;have:=Rl.mp h z hz;exact this (show(z==z)=true by simp)
theorem GU(y:Nat)(l:List Nat):inV (.int (y:Int)) (ar l)=decide (y∈l):=by
 rw[cB,E1];refine decide_eq_decide.mpr ?_;rw[KR];constructor
 ·rintro⟨a,h,e⟩
  have:a=y:=by omega
  exact this▸h
 ·exact fun h=>⟨y,h,rfl⟩
noncomputable def TM.Dk(T:TM):Prop:=∀m∈T.ds,m.2.length=T.n/\∀y∈m.2,nH y=true
noncomputable def lD(ds:List (List Nat×List V))(i d:Nat):List V:=(ds.filter fun m=>decide (i∈m.1)).map fun m=>m.2.getD d .non
noncomputable def Ba(T:TM)(i d:Nat):List V:=(fc (T.ws.getD d []) i).map V.int
noncomputable def kK(H:Hp)(p:Addr)(T:TM)(i d:Nat):Prop:=∃t,H p=some (.lst (.ref t::lD T.ds i d))/\H t=some (.tup (Ba T i d))
noncomputable def lE(_:Fg)(G:GF):Sp:=fun vs H Q _=>∃(M:List Addr)(x pv pe:Addr)(T:TM)(i d:Nat),vs=[.ref x,.int i,.int d]/\Tb G M H x pv pe T/\T.Dk/\T.ds.length<1000/\i<T.k/\d<T.n/\∀p H',H p=none->am H H'->kK H' p T i d->Q (.ref p) H'
noncomputable def jR(K:Fg)(G:GF):TS:=(ao (cE (ap (bR K) [] E0 (ab (ap (cq K) [] E0 (ab (aa 1) (ab (cF K (aa 0) "hands") af))) (ab (tC (.str "this is no hand")) af))))
 (ao (cE (ap (bR K) [] E0 (ab (ap (cq K) [] E0 (ab (aa 2) (ab (tCB (bY K) (ab (cF K (aa 0) "dealt") af)) af))) (ab (tC (.str "this is no number of a deal")) af))))
 (aI (tOp oV (db (ab (ap (gx K) [] E0 (ab (tOp (bT K) (cF K (aa 0) "dealt") (aa 2)) (ab (aa 1) af))) af)) (bo (ca K (cF K (aa 0) "deeds")) (fun _ _ _ _=>(cM K 2 (aZ (ag 0) (aZ (ag 1) cL)))) (fun _ _ _ _=>(aU (tOp (rIn K false) (aa 3) (aa 0)))) (fun _ _ _ _=>(tOp (bT K) (aa 1) (aa 2))) [none,none,some 2,some 1])))))
noncomputable abbrev zB:List Str:=["self","hand","deal"]
theorem wa(ds:List (List Nat×List V))(m:List Nat×List V)(i d:Nat):lD (ds++[m]) i d=lD ds i d++if i∈m.1 then[m.2.getD d .non]else[]:=by
 unfold lD;rw[ND,JY];by_cases h:i∈m.1
 ·rw[if_pos h,KQ (p:=fun m:List Nat×List V=>decide (i∈m.1)) (decide_eq_true h)]
  rfl
 ·rw[if_neg h,K6 (p:=fun m:List Nat×List V=>decide (i∈m.1)) (by simpa using h)]
  rfl
theorem E2(ds:List (List Nat×List V))(i d:Nat):(lD ds i d).length<=ds.length:=by
 unfold lD;rw[JB];exact Oc _ _
theorem Dt(l:List Nat):(ar l).all dm=true:=N6.mpr fun x hx=>by
 obtain⟨n,_,rfl⟩:=KR.mp hx;rfl
theorem yK{K:Fg}{G:GF}(ct:mF K G.Table){vs:List V}{H:Hp}{Q:VK}{E:XK}(h:lE K G vs H Q E):jR K G { nx:=fun _ H'=>Q .non H',rt:=Q } (start zB vs) H:=by
 obtain⟨M,x,pv,pe,T,i,d,rfl,t,dk,hds,hi,hd,q⟩:=h;obtain⟨dx,pd,ps,qs,es,X⟩:=t.ex;have n2:=t.ok.n2;obtain⟨rs,er,hr⟩:=id X.dl;have lr:(rs.map V.ref).length=T.n:=by rw[JB];exact Kf hr
 show jR K G _ [some _,some _,some _] _;unfold jR;right;refine cn ?_;right;refine⟨x,G.Table,dx,_,_,rfl,X.hx,ct.cl,ct.n4,rfl,?_⟩;right;refine⟨(i:Int),(T.k:Int),rfl,?_⟩;rw[dR (by omega) (by omega)];right;refine⟨_,rfl,?_⟩;right;refine cn ?_;right;refine⟨x,G.Table,dx,_,_,rfl,X.hx,ct.cl,ct.n1,rfl,?_⟩;right;rw[lr];refine⟨(d:Int),(T.n:Int),rfl,?_⟩;rw[dR (by omega) (by omega)];right;refine⟨_,rfl,?_⟩;right;refine cn ?_;right;refine⟨x,G.Table,dx,_,_,rfl,X.hx,ct.cl,ct.n1,rfl,?_⟩;right;have hdr:d<rs.length:=by rw[JB]at lr;omega
 have hrd:rs[d]?=some (rs[d]'hdr):=JD _;generalize rs[d]'hdr=rd at hrd;obtain⟨w,hw,ew⟩:=bG hr hrd;have hwc:=t.ok.cards w (JK hw);have c12:=t.ok.pk.c12;refine bz (SqL.of er) (b8 (v:=.ref rd) (by rw[JS,hrd];rfl)) ?_;right;refine⟨rd,w.map fun(s:Nat)=>((s:Nat):Int),(i:Nat),rfl,by rw[<-cB];exact SqT.of ew,by rw[JB];omega,fun r H1 s1 e1=>?_⟩;rw[JB]at e1;have e1':H1 r=some (.tup (Ba T i d)):=by unfold Ba;rw[ic hw];exact e1
 right;refine⟨by simp[JJ],fun p1 H2 hp1 s2 e2=>?_⟩;have s12:=s1.trans s2;right;refine cn ?_;right;refine⟨x,G.Table,dx,_,_,rfl,s12 _ _ X.hx,ct.cl,ct.n6,rfl,?_⟩;have les:es.length=T.ds.length:=Kf X.ed;refine cK es (SqL.of (s12 _ _ X.pes)) (by omega) (fun j acc _=>acc=lD (T.ds.take j) i d) (fun H' _=>rfl) ?_ ?_
 ·rintro p' hp' C s' H' fp j xx acc H6 hxx ⟨s6,e6,l6,rfl⟩
  obtain⟨m,hm,a,hA,v,rfl,h1,h2,h3,_⟩:=bG X.ed hxx;have s16:=s12.trans s6;obtain⟨dk1,dk2⟩:=dk m (JK hm);refine dh (SqT.of (s16 _ _ h1)) ?_;right;refine IY (SqT.of (s16 _ _ h2)) rfl (Dt _) (GU i m.1) ?_;right;refine bW (fun c=>?_) (fun c=>?_)
  ·right
   have hdm:m.2[d]?=some (m.2.getD d .non):=by rw[JN,JD (by omega)];rfl
   refine bz (SqL.of (s16 _ _ h3)) (b8 hdm) ?_;refine aW.put hp' (fun _ _ _ _ r _=>r) s6 e6 l6 ?_;rw[bP hm,wa,if_pos c]
  ·refine aW.skip s6 e6 l6 ?_
   rw[bP hm,wa,if_neg c,LH]
 ·rintro pl acc H6 hpl s6 e6 rfl
  rw[les,Ki]at e6;right;have:=E2 T.ds i d;refine pY (s6 _ _ e2) e6 (by rw[JJ];simp;omega) fun p7 H7 hp7 s7 e7=>?_;right;exact q p7 H7 ((s12.trans s6).free hp7) ((s12.trans s6).trans s7) ⟨r,e7,s7 _ _ (s6 _ _ (s2 _ _ e1'))⟩
noncomputable def vq(N:Addr->Prop)(H:Hp)(r:Addr)(T:TM)(i:Nat):Prop:=∃(vp sp:Addr)(ss:List Addr),H r=some (.tup [.ref vp,.ref sp])/\H vp=some (.lst (ar (T.vw.getD i [])))/\N vp/\H sp=some (.lst (ss.map V.ref))/\N sp/\ss.length=T.n/\∀(d:Nat)(p:Addr),ss[d]?=some p->kK H p T i d/\N p
noncomputable def StV(N:Addr->Prop)(H:Hp)(v:V)(T:TM):Prop:=∃(a dl hl:Addr)(rs:List Addr),v=.ref a/\H a=some (.tup [.ref dl,.ref hl])/\bu H dl T.ws/\N dl/\H hl=some (.lst (rs.map V.ref))/\N hl/\rs.length=T.k/\∀(i:Nat)(r:Addr),rs[i]?=some r->vq N H r T i
theorem kK.to{H H':Hp}{p:Addr}{T:TM}{i d:Nat}(h:kK H p T i d)(k:cS H H')(e:∀xs,H p=some (.lst xs)->H' p=some (.lst xs)):kK H' p T i d:=by
 obtain⟨t,h1,h2⟩:=h;exact⟨t,e _ h1,k _ _ h2⟩
theorem vq.to{N N':Addr->Prop}{H H':Hp}{r:Addr}{T:TM}{i:Nat}(h:vq N H r T i)(k:cS H H')(f:∀l xs,N l->H l=some (.lst xs)->H' l=some (.lst xs)/\N' l):vq N' H' r T i:=by
 obtain⟨vp,sp,ss,g1,g2,g3,g4,g5,g6,g7⟩:=h;refine⟨vp,sp,ss,k _ _ g1,(f _ _ g3 g2).1,(f _ _ g3 g2).2,(f _ _ g5 g4).1,(f _ _ g5 g4).2,g6,fun d p hp=>?_⟩;obtain⟨z1,z2⟩:=g7 d p hp;obtain⟨t,y1,y2⟩:=id z1;exact⟨z1.to k fun xs e=>(f _ _ z2 e).1,(f _ _ z2 y1).2⟩
theorem StV.to{N N':Addr->Prop}{H H':Hp}{v:V}{T:TM}(h:StV N H v T)(k:cS H H')(f:∀l xs,N l->H l=some (.lst xs)->H' l=some (.lst xs)/\N' l):StV N' H' v T:=by
 obtain⟨a,dl,hl,rs,rfl,h1,⟨qs,h2,h3⟩,h4,h5,h6,h7,h8⟩:=h;exact⟨a,dl,hl,rs,rfl,k _ _ h1,⟨qs,(f _ _ h4 h2).1,Paired.mapP h3 fun _ _ e=>k _ _ e⟩,(f _ _ h4 h2).2,(f _ _ h6 h5).1,(f _ _ h6 h5).2,h7,fun i r hr=>(h8 i r hr).to k f⟩
theorem E3{T:TM}(dk:T.Dk)(i d:Nat):∀y∈lD T.ds i d,nH y=true:=fun y hy=>by
 unfold lD at hy;obtain⟨m,hm,rfl⟩:=KR.mp hy;obtain⟨h1,_⟩:=L5.mp hm;rw[JN];cases e:m.2[d]? with
 |none=>rfl
 |some z=>exact(dk m h1).2 z (JK e)
theorem kK.eqv{K:Fg}{H:Hp}{p q:Addr}{T:TM}{i d:Nat}(dk:T.Dk)(h:kK H p T i d)(g:kK H q T i d):cu K H 2 (.ref p) (.ref q):=by
 obtain⟨t,h1,h2⟩:=h;obtain⟨t',g1,g2⟩:=g;refine .lst (SqL.of h1) (SqL.of g1) rfl fun j x y hx hy=>?_;cases j with
 |zero=>cases hx;cases hy;exact nI (SqT.of h2) (SqT.of g2) (lV _)
 |succ j=>
  have hx':(lD T.ds i d)[j]?=some x:=hx;have hy':(lD T.ds i d)[j]?=some y:=hy;rw[hx']at hy';cases hy';exact .flat (E3 dk i d _ (JK hx'))
end
section
open KF
open Classical in
noncomputable def Jy(f:Nat->Nat->Prop)(n k:Nat):List Nat:=(JT n).filter fun i=>decide (f i k)
open Classical in
section
variable{f:Nat->Nat->Prop}{many i j k:Nat}
end
end
section
variable{K:Fg}{vs:List V}{H:Hp}{Q:VK}{E:XK}
open KF
theorem bF.tab{H:Hp}{lv pd:Addr}{T:TM}(h:bF H lv T.vw)(ok:T.Ok)(d:bu H pd T.ws):Table H pd lv T.c T.n T.ws T.vw:=
 ⟨d,rfl,ok.cards,by have:=ok.n2;omega,by have:=ok.pk.c12;omega,h,ok.win,by rw[ok.len];have:=ok.pk.l5;show T.ss.length<=1000;omega⟩
noncomputable def mH(_:Fg):Sp:=fun vs H Q _=>∃(pd lv sl:Addr)(T:TM)(sys:List Sy)(turns:Nat),vs=[.ref pd,.ref lv,.ref sl,.int turns]/\T.Ok/\bu H pd T.ws/\bF H lv T.vw/\mG H sl sys/\0<sys.length/\(∀s∈sys,s.Ok T.c T.k/\s.words<=30)/\turns<=100/\
 ∀(p:Addr)(L:Nat) H',H p=none->am H H'->tH H H' p T.n (T.told sys) L->T.Len sys turns L->Q (.ref p) H'
noncomputable def kL(K:Fg):TS:=(ao (aA (db af) (ag 4))
 (ao (aA (tC (.int 0)) (ag 5))
 (ao (im (uN (aU (tOp (rI0 fun i j=>.bl (decide (i<j))) (tCB (bY K) (ab (aa 4) af)) (aa 3))) (aU (tOp (rI0 fun i j=>.bl (decide (i<j))) (aa 5) (tCB (bY K) (ab (aa 2) af))))) (ao (aA (ap (dD K 35) [] E0 (ab (aa 0) (ab (aa 1) (ab (tOp (bT K) (aa 2) (tOp (rI (fun _ j=>0<j) fun i j=>.int (i%j)) (tCB (bY K) (ab (aa 4) af)) (tCB (bY K) (ab (aa 2) af)))) af)))) (ag 6))
 (ao (cE (tBM K "list" d8 (aa 4) (ab (aa 6) af)))
 (ao (aA (bo (ca K (aa 1)) (fun _ _ _ _=>(ag 0)) (fun _ _ _ _=>aS) (fun _ _ _ _=>(ap (kn K) [] E0 (ab (bo (cZ (ab (tCB (bY K) (ab (aa 2) af)) af)) (fun _ _ _ _=>(ag 0)) (fun _ _ _ _=>aS) (fun _ _ _ _=>(cD (ab (tOp (bT K) (aa 1) (aa 0)) (ab (tOp (bT K) (aa 2) (aa 0)) af)))) [none,some 0,some 1]) af))) [none,some 6,some 0]) (ag 7))
 (ao (aA (tOp (bT K) (db (ab (tC (.int 0)) (ab (tOp (rI0 fun i j=>.int (i+j)) (aa 5) (tC (.int 1))) af))) (tCB Em (ab (tOp A7 (aa 7) (aa 1)) af))) (ag 5))
 (aA (aa 7) (ag 1)))))))
 (aI (aa 4)))))
theorem zC(h:mH K vs H Q E):kL K { nx:=fun _ H'=>Q .non H',rt:=Q } (start ["_law_deals","_law_views","_law_sayings","_law_turns","_law_found","_law_still","_law_truths","_law_finer"] vs) H:=by
 obtain⟨pd,lv,sl,T,sys,turns,rfl,ok,dl,vw0,hsl,h0,hsys,ht,q⟩:=h;show kL K _ [some _,some _,some _,some _,none,none,none,none] _;unfold kL;have hk5:T.k<=5:=ok.pk.l5;have n2:=ok.n2;right;refine⟨by simp[JJ],fun p H3 hp s3 e3=>?_⟩;right;obtain⟨xs,exs,hxs⟩:=hsl;have lxs:xs.length=sys.length:=Kf hxs;have V3:hU [p] H3 lv T.vw:=by
  obtain⟨us,z1,z2⟩:=vw0;exact⟨us,s3 _ _ z1,Paired.mapP z2 fun u v e=>⟨s3 _ _ e,fun z=>by rw[JE.mp z,hp]at e;cases e⟩⟩
 have nlv:lv≠p:=fun z=>by
  obtain⟨us,z1,z2⟩:=vw0;rw[z,hp]at z1;cases z1
 refine pV (fun m σ H4=>∃(j:Nat)(u6 u7:Option V)(lj:Addr)(rs:List Addr),m=turns-j/\j<=turns/\σ=[some (.ref pd),some (.ref lj),some (.ref sl),some (.int turns),some (.ref p),some (.int (T.still sys j:Nat)),u6,u7]/\am H H4/\hU [p] H4 lj (T.turn sys j).vw/\lj≠p/\H4 p=some (.lst (rs.map V.ref))/\Paired (fun(r:Addr)(i:Nat)=>H4 r=some (.lst (blV T.n (T.told sys i)))/\r≠p/\H r=none) rs (JT j)/\∀i,i<j->T.still sys i<sys.length) turns ⟨0,none,none,lv,[],by omega,Ks _,rfl,s3,V3,nlv,e3,.nil,fun i hi=>absurd hi (M4 _)⟩ ?_;rintro m σ H4 ⟨j,u6,u7,lj,rs,rfl,hj,rfl,s4,V4,nlj,ep4,p4,hgo⟩;have lrs:rs.length=j:=by rw[Kf p4,Kz]
 right;rw[JB,lrs];have fin:(j=turns\/sys.length<=T.still sys j)->Q (.ref p) H4:=fun z=>q p j H4 hp s4 ⟨rs,ep4,p4⟩ ⟨hj,hgo,z⟩;refine bW (fun c1=>?_) (fun c1=>?_)
 ·right
  refine gG (ys:=xs) (SqL.of (s4 _ _ exs)) ?_;right;rw[lxs];refine bW (fun c2=>?_) (fun c2=>?_)
  ·refine pU ?_
   have hjt:j<turns:=by omega
   have hst:T.still sys j<sys.length:=by omega
   have okj:=vm ok sys j;have hwj:(T.turn sys j).ws=T.ws:=Al T sys j;have hnj:(T.turn sys j).n=T.n:=yB T sys j;have hkj:(T.turn sys j).k=T.k:=pG T sys j;obtain⟨v,hv,iv⟩:=gz hxs (mh (sys:=sys) (j:=j) h0);obtain⟨ok1,ok2⟩:=hsys (jL sys j) (JK (mh h0));right;refine gG (ys:=xs) (SqL.of (s4 _ _ exs)) ?_;right;rw[JB,lrs,lxs];rw[show((j:Int)%(sys.length:Int))=((j%sys.length:Nat):Int)from rfl];refine bz (SqL.of (s4 _ _ exs)) (b8 hv) ?_;right;have tab4:Table H4 pd lj T.c T.n T.ws (T.turn sys j).vw:=by
    have:=bF.tab V4.views okj (pd:=pd) (by rw[hwj];exact dl.same' s4);rw[hwj,hnj,(mY T sys j).1]at this;exact this
   refine⟨pd,lj,v,T.c,T.n,T.ws,(T.turn sys j).vw,jL sys j,rfl,tab4,fun v hv=>by rw[<-hnj];exact EV (okj.win v hv) (okj.can v hv),iv.keep s4.keep,by rw[okj.len,hkj];exact ok1,by omega,fun p6 H6 hp6 s6 e6=>?_⟩;have e6':H6 p6=some (.lst (blV T.n (T.told sys j))):=by
    rw[e6];show _=some (HO.lst (blV T.n (TR (T.turn sys j).n (T.turn sys j).ws (T.turn sys j).vw (jL sys j))));rw[hnj,hwj]
   clear e6;have np6:p6≠p:=fun z=>by rw[z,ep4]at hp6;cases hp6
   right;refine⟨.inl ⟨rfl,_,SqL.of (s6 _ _ ep4)⟩,?_⟩;right;refine fq (s6 _ _ ep4) (by rw[JB,JJ];omega) fun H7 o7 e7=>?_;have s7:am H H7:=(s4.trans s6).off hp o7;have V7:hU [p] H7 lj (T.turn sys j).vw:=by
    obtain⟨us,z1,z2⟩:=V4;exact⟨us,(o7 _ nlj).trans (s6 _ _ z1),Paired.mapP z2 fun u v ⟨e,n⟩=>⟨(o7 _ fun z=>n (JE.mpr z)).trans (s6 _ _ e),n⟩⟩
   have e67:H7 p6=some (.lst (blV T.n (T.told sys j))):=(o7 _ np6).trans e6';have P7:Paired (fun(r:Addr)(i:Nat)=>H7 r=some (.lst (blV T.n (T.told sys i)))/\r≠p/\H r=none) (rs++[p6]) (JT (j+1)):=by
    rw[LJ];exact kd (Paired.mapP p4 fun r i ⟨z1,z2,z3⟩=>⟨(o7 _ z2).trans (s6 _ _ z1),z2,z3⟩) ⟨e67,np6,s4.free hp6⟩
   obtain⟨us,eus,hus⟩:=id V7;have lus:us.length=T.k:=by rw[Kf hus,okj.len,hkj]
   have nj:(T.turn sys j).vw.length=T.k:=by rw[okj.len,hkj]
   right;refine EO _ (SqL.of eus) (by rw[JB];omega) (fun p' i acc H'=>∃qs:List Addr,acc=qs.map V.ref/\Paired (fun(q:Addr)(v:List Nat)=>H' q=some (.lst (ar v))/\q≠p'/\q≠p) qs (((T.turn sys j).vw.take i).map fun v=>dQ v (blA T.n (T.told sys j)))) (fun p' H' _=>⟨[],rfl,.nil⟩) ?_ ?_
   ·rintro p' hp' C s' H' fp i y acc H8 hy ⟨s8,e8,l8,qs,rfl,hqs⟩
    obtain⟨u,hu,rfl⟩:=ln hy;obtain⟨w,hw,ew,_⟩:=bG hus hu;have hww:Within T.n w:=by rw[<-hnj];exact okj.win w (JK hw)
    have hwl:=hww.1;obtain⟨ds,eds,hds⟩:=dl.same' (s7.trans s8);have lds:(ds.map V.ref).length=T.n:=by rw[JB];exact Kf hds
    right;rw[lds];refine jp T.n (by omega) (by omega) (by omega) (fun i acc H'=>∃ts:List Addr,acc=ts.map V.ref/\mV H' ts (((ar w).zip (blV T.n (T.told sys j))).take i)) (fun _ _=>⟨[],rfl,.nil⟩) ?_ ?_
    ·rintro p2 hp2 C s' H' fp i2 acc H9 hi2 ⟨s9,e9,l9,ts,rfl,r9⟩
     have hvj:(ar w)[i2]?=some ((ar w)[i2]'(by rw[be];omega)):=JD _;generalize (ar w)[i2]'(by rw[be];omega)=vj at hvj;right;refine bz (SqL.of (s9 _ _ (s8 _ _ ew))) (b8 hvj) ?_;right;refine bz (SqL.of (s9 _ _ (s8 _ _ e67))) (C8 hi2) ?_;right;refine⟨by simp[JJ],fun tp HA htp sA eA=>?_⟩;refine aW.put hp2 (fun _ _ _ _ r k=>by obtain⟨ts,e,p⟩:=r;exact⟨ts,e,Paired.mapP p fun _ _ e=>k _ _ e⟩) (s9.trans sA) (sA _ _ e9) l9 ⟨ts++[tp],by rw[JY];rfl,?_⟩;rw[Dr hvj (kU hi2)];exact kd (Paired.mapP r9 fun _ _ e=>sA _ _ e) eA
    ·rintro pl acc H9 hpl s9 e9 ⟨ts,rfl,r9⟩
     rw[Na (by rw[M5,be,bq];omega)]at r9;right;refine⟨pl,_,_,true,rfl,e9,rC r9 (De _ _),?_,by rw[JB,M5];omega,fun nl HA hnl sA eA=>?_⟩
     ·intro k hk
      obtain⟨w,_,rfl⟩:=KR.mp hk;rfl
     rw[qQ]at eA;have s8A:=s9.trans sA;have nn1:nl≠p':=fun z=>by rw[z,s9 _ _ e8]at hnl;cases hnl
     have nn2:nl≠p:=fun z=>by rw[z,s9 _ _ (s8 _ _ e7)]at hnl;cases hnl
     refine aW.putW hp' (s8.trans s8A) (s8A _ _ e8) l8 fun H5 o5=>⟨qs++[nl],by rw[JY];rfl,?_⟩;rw[bP hw,JY];exact kd (Paired.mapP hqs fun q v ⟨z1,z2,z3⟩=>⟨(o5 _ z2).trans (s8A _ _ z1),z2,z3⟩) ⟨(o5 _ nn1).trans eA,nn1,nn2⟩
   ·rintro pf acc H8 hpf s8 e8 ⟨qs,rfl,hqs⟩
    rw[JB,lus,<-nj,Ki,<-GO ok sys j]at hqs;have npf:pf≠p:=fun z=>by rw[z,e7]at hpf;cases hpf
    right;refine⟨by simp[JJ],fun pz H9 hpz s9 e9=>?_⟩;right;have vn:bF H9 pf (T.turn sys (j+1)).vw:=⟨qs,s9 _ _ e8,Paired.mapP hqs fun _ _ z=>s9 _ _ z.1⟩;refine FP vn ((V7.views.same s8).same s9) ?_;have done:∀z:Nat,z=T.still sys (j+1)->∃m',m'<turns-j/\∃(j':Nat)(u6 u7:Option V)(lj:Addr)(rs:List Addr),m'=turns-j'/\j'<=turns/\[some (.ref pd),some (.ref pf),some (.ref sl),some (.int turns),some (.ref p),some (.int (z:Nat)),some (.ref p6),some (.ref pf)]=[some (.ref pd),some (.ref lj),some (.ref sl),some (.int turns),some (.ref p),some (.int (T.still sys j':Nat)),u6,u7]/\am H H9/\hU [p] H9 lj (T.turn sys j').vw/\lj≠p/\H9 p=some (.lst (rs.map V.ref))/\Paired (fun(r:Addr)(i:Nat)=>H9 r=some (.lst (blV T.n (T.told sys i)))/\r≠p/\H r=none) rs (JT j')/\∀i,i<j'->T.still sys i<sys.length:=by
     intro z hz;refine⟨turns-(j+1),by omega,j+1,some (.ref p6),some (.ref pf),pf,rs++[p6],rfl,hjt,by rw[hz],(s7.trans s8).trans s9,⟨qs,s9 _ _ e8,Paired.mapP hqs fun q v ⟨z1,z2,z3⟩=>⟨s9 _ _ z1,fun y=>z3 (JE.mp y)⟩⟩,npf,by rw[s9 _ _ (s8 _ _ e7),JY];rfl,Paired.mapP P7 fun r i ⟨z1,z2,z3⟩=>⟨s9 _ _ (s8 _ _ z1),z2,z3⟩,fun i hi=>?_⟩;by_cases y:i=j
     ·rw[y];exact hst
     ·exact hgo i (by omega)
    by_cases c3:(T.turn sys (j+1)).vw=(T.turn sys j).vw
    ·rw[decide_eq_true c3]
     right;refine bz (SqL.of e9) (i:=1) rfl ?_;right;refine done (T.still sys j+1) ?_;show _=if _ then _ else _
     rw[if_pos c3]
    ·rw[decide_eq_false c3]
     right;refine bz (SqL.of e9) (i:=0) rfl ?_;right;refine done 0 ?_;show _=if _ then _ else _
     rw[if_neg c3]
  ·right
   exact fin (.inr (by omega))
 ·right
  exact fin (.inl (by omega))
noncomputable def PlL(H:Hp)(p:Addr)(n:Nat)(f:Nat->Nat->Prop)(L:Nat):Prop:=∃rs:List Addr,H p=some (.lst (rs.map V.ref))/\Paired (fun(r:Addr)(i:Nat)=>H r=some (.lst (blV n (f i)))) rs (JT L)
theorem tH.pl{H0 H:Hp}{p:Addr}{n:Nat}{f:Nat->Nat->Prop}{L:Nat}(h:tH H0 H p n f L):PlL H p n f L:=let⟨rs,e,q⟩:=h;⟨rs,e,Paired.mapP q fun _ _ z=>z.1⟩
theorem PlL.same{H H':Hp}{p:Addr}{n:Nat}{f:Nat->Nat->Prop}{L:Nat}(h:PlL H p n f L)(s:am H H'):PlL H' p n f L:=let⟨rs,e,q⟩:=h;⟨rs,s _ _ e,Paired.mapP q fun _ _ z=>s _ _ z⟩
theorem PlL.at{H:Hp}{p:Addr}{n:Nat}{f:Nat->Nat->Prop}{L:Nat}(h:PlL H p n f L):∃rs:List Addr,H p=some (.lst (rs.map V.ref))/\rs.length=L/\∀i,i<L->∃r,atI (rs.map V.ref) (i:Int)=some (.ref r)/\H r=some (.lst (blV n (f i))):=by
 obtain⟨rs,e,q⟩:=h;refine⟨rs,e,by rw[Kf q,Kz],fun i hi=>?_⟩;obtain⟨r,hr,er⟩:=gz q (show(JT L)[i]?=some i by rw[K3 hi]);exact⟨r,b8 (by rw[JS,hr];rfl),er⟩
noncomputable def gR(_:Fg):Sp:=fun vs H Q _=>∃(a b:Addr)(n:Nat)(f:Nat->Nat->Prop)(L:Nat),vs=[.ref a,.ref b]/\PlL H a n f L/\PlL H b n f L/\n<=2000/\L<=1000/\∀H',am H H'->Q (.bl true) H'
noncomputable def iY(K:Fg):TS:=(ao (br (tOr (dH (tB (tCB (iu K) (ab (aa 0) (ab (tC (.ty "list")) af))))) (aU (tOp rNe (tCB (bY K) (ab (aa 0) af)) (tCB (bY K) (ab (aa 1) af))))) (aI (tC (.bl false))) ba)
 (aI (tOp (iw (SqL K) false) (bo (cZ (ab (tCB (bY K) (ab (aa 1) af)) af)) (fun _ _ _ _=>(ag 0)) (fun _ _ _ _=>(dH (tB (ap (eY K) [] E0 (ab (tOp (bT K) (aa 1) (aa 0)) (ab (tOp (bT K) (aa 2) (aa 0)) af)))))) (fun _ _ _ _=>(aa 0)) [none,some 0,some 1]) (db af))))
theorem wE(h:gR K vs H Q E):iY K { nx:=fun _ H'=>Q .non H',rt:=Q } (start ["_law_found","_law_due_here"] vs) H:=by
 obtain⟨a,b,n,f,L,rfl,ha,hb,hn,hL,q⟩:=h;show iY K _ [some _,some _] _;unfold iY;obtain⟨rs,ea,la,pa⟩:=ha.at;obtain⟨ts,eb,lb,pb⟩:=hb.at;right;refine gH (.lst ea) (jA K) ?_;right;rw[JB,JB,la,lb,decide_eq_true rfl];right;rw[JB,lb];refine jp L (by omega) (by omega) (by omega) (fun i acc _=>acc=[]) (fun _ _=>rfl) ?_ ?_
 ·rintro p hp C s' H' fp i acc H2 hi ⟨s2,e2,l2,rfl⟩
  obtain⟨r,hr,er⟩:=pa i hi;obtain⟨t,ht,et⟩:=pb i hi;right;refine bz (SqL.of (s2 _ _ ea)) hr ?_;right;refine bz (SqL.of (s2 _ _ eb)) ht ?_;right;refine⟨r,t,n,f i,rfl,s2 _ _ er,s2 _ _ et,by omega,fun H3 s3=>?_⟩;right;exact aW.skip (s2.trans s3) (s3 _ _ e2) l2 rfl
 ·rintro p acc H2 hp s2 e2 rfl
  right;refine⟨by simp[JJ],fun p3 H3 hp3 s3 e3=>?_⟩;refine FI (ns:=[]) (ms:=[]) (SqL.of (s3 _ _ e2)) (SqL.of e3) ?_;exact q _ (s2.trans s3)
theorem dU{K:Fg}{H:Hp}{n:Nat}{a:Addr}{xs:List V}(e:H a=some (.tup xs))(h:∀x∈xs,cu K H n x x):cu K H (n+1) (.ref a) (.ref a):=.tup (SqT.of e) (SqT.of e) rfl fun i x y hx hy=>by
 rw[hx]at hy;cases hy;exact h x (JK hx)
theorem aN.self{K:Fg}{H:Hp}:∀{s:Sy} {v:V},aN H v s->cu K H (s.words+1) v v
 | .holds _ _,_,⟨a,e,h⟩=>by subst e;exact dU h (by simp;exact⟨.str (by decide+kernel),.flat rfl,.flat rfl⟩)
 | .sees _,_,⟨a,e,h⟩=>by subst e;exact dU h (by simp;exact⟨.str (by decide+kernel),.flat rfl⟩)
 | .not _,_,⟨a,x,e,h,r⟩=>by subst e;exact dU h (by simp;exact⟨.str (by decide+kernel),aN.self r⟩)
 | .and s t,_,⟨a,x,y,e,h,r,r2⟩=>by subst e;exact dU h (by simp;exact⟨.str (by decide+kernel),(aN.self r).up (by simp[Sy.words]),(aN.self r2).up (by simp[Sy.words])⟩)
 | .or s t,_,⟨a,x,y,e,h,r,r2⟩=>by subst e;exact dU h (by simp;exact⟨.str (by decide+kernel),(aN.self r).up (by simp[Sy.words]),(aN.self r2).up (by simp[Sy.words])⟩)
 | .knows _ _,_,⟨a,x,e,h,r⟩=>by subst e;exact dU h (by simp;exact⟨.str (by decide+kernel),.flat rfl,aN.self r⟩)
 | .all g s,_,⟨a,b,x,e,h,hg,r⟩=>by subst e;exact dU h (by simp;exact⟨.str (by decide+kernel),(nI (SqT.of hg) (SqT.of hg) (by rw[cB];exact lV _)).up (by simp[Sy.words]),aN.self r⟩)
 | .common g s,_,⟨a,b,x,e,h,hg,r⟩=>by subst e;exact dU h (by simp;exact⟨.str (by decide+kernel),(nI (SqT.of hg) (SqT.of hg) (by rw[cB];exact lV _)).up (by simp[Sy.words]),aN.self r⟩)
noncomputable def StW(N:Addr->Prop)(H:Hp)(v:V)(T:TM):Prop:=∃(hl:Addr)(rs:List Addr),v=.ref hl/\H hl=some (.lst (rs.map V.ref))/\N hl/\rs.length=T.k/\∀(i:Nat)(r:Addr),rs[i]?=some r->vq N H r T i
theorem StW.to{N N':Addr->Prop}{H H':Hp}{v:V}{T:TM}(h:StW N H v T)(k:cS H H')(f:∀l xs,N l->H l=some (.lst xs)->H' l=some (.lst xs)/\N' l):StW N' H' v T:=by
 obtain⟨hl,rs,rfl,h5,h6,h7,h8⟩:=h;exact⟨hl,rs,rfl,(f _ _ h6 h5).1,(f _ _ h6 h5).2,h7,fun i r hr=>(h8 i r hr).to k f⟩
theorem StW.eqv{K:Fg}{N N':Addr->Prop}{H:Hp}{u v:V}{T:TM}(dk:T.Dk)(h:StW N H u T)(g:StW N' H v T):cu K H 5 u v:=by
 obtain⟨hl,rs,rfl,h5,h6,h7,h8⟩:=h;obtain⟨hl',rs',rfl,g5,g6,g7,g8⟩:=g;refine .lst (n:=4) (SqL.of h5) (SqL.of g5) (by rw[JB,JB,h7,g7]) fun i x y hx hy=>?_;obtain⟨b,hb,rfl⟩:=ln hx;obtain⟨b',hb',rfl⟩:=ln hy;obtain⟨vp,sp,ss,e1,e2,_,e4,_,e6,e7⟩:=h8 i b hb;obtain⟨vp',sp',ss',f1,f2,_,f4,_,f6,f7⟩:=g8 i b' hb';refine A0 (SqT.of e1) (SqT.of f1) (.up (sQ (SqL.of e2) (SqL.of f2) (by rw[cB];exact lV _)) (by decide)) ?_;refine .lst (n:=2) (SqL.of e4) (SqL.of f4) (by rw[JB,JB,e6,f6]) fun d x y hx hy=>?_;obtain⟨c,hc,rfl⟩:=ln hx;obtain⟨c',hc',rfl⟩:=ln hy;exact(e7 d c hc).1.eqv dk (f7 d c' hc').1
noncomputable def dW(_:Fg)(G:GF):Sp:=fun vs H Q _=>∃(M:List Addr)(x pv pe:Addr)(T:TM)(k n:Nat),vs=[.ref x,.int k,.int n]/\T.k=k/\T.n=n/\Tb G M H x pv pe T/\T.Dk/\T.ds.length<1000/\∀v H',am H H'->StW (fun l=>H l=none) H' v T->Q v H'
noncomputable def fZ(K:Fg)(G:GF):TS:=(aI (bo (cZ (ab (aa 1) af)) (fun _ _ _ _=>(ag 0)) (fun _ _ _ _=>aS) (fun _ _ _ _=>(cD (ab (eJ G.Table "view" (gM K G) [] E0 (aa 1) (ab (aa 0) af)) (ab (bo (cZ (ab (aa 2) af)) (fun _ _ _ _=>(ag 0)) (fun _ _ _ _=>aS) (fun _ _ _ _=>(eJ G.Table "saw" (lE K G) [] E0 (aa 2) (ab (aa 1) (ab (aa 0) af)))) [none,some 0,some 1]) af)))) [none,some 0,some 2]))
noncomputable abbrev vt:List Str:=["_law_table","_law_hands","_law_many"]
theorem tO{K:Fg}{G:GF}{vs:List V}{H:Hp}{Q:VK}{E:XK}(h:dW K G vs H Q E):fZ K G { nx:=fun _ H'=>Q .non H',rt:=Q } (start vt vs) H:=by
 obtain⟨M,x,pv,pe,T,k,n,rfl,rfl,rfl,t,dk,hds,q⟩:=h;have n2:=t.ok.n2;have l5:T.k<=5:=t.ok.pk.l5;show fZ K G _ [some _,some _,some _] _;unfold fZ;right;refine lZ T.k (by omega) (by omega) (by omega) (fun p' j acc H'=>∃rs:List Addr,acc=rs.map V.ref/\rs.length=j/\∀i r,rs[i]?=some r->vq (fun l=>H l=none/\l≠p') H' r T i) (fun p' H' _=>⟨[],rfl,rfl,fun i r hr=>by cases i<;>cases hr⟩) ?_ ?_
 ·rintro p' hp' C s' H' fp j acc H1 hj ⟨s1,e1,l1,rs,rfl,lrs,hrs⟩
  have t1:=t.same s1;right;obtain⟨dx1,fs1,hx1,hl1⟩:=t1.at "view" (by decide+kernel) (by decide+kernel) (by decide+kernel) (by decide+kernel) (by decide+kernel) (by decide+kernel);refine gy ?_;right;refine⟨x,dx1,fs1,rfl,hx1,hl1,?_⟩;right;refine⟨M,x,pv,pe,T,j,rfl,t1,hj,fun q2 H2 hq2 s2 e2=>?_⟩;have t2:=t1.same s2;right;refine lZ T.n (by omega) (by omega) (by omega) (fun p'' d acc H'=>∃ss:List Addr,acc=ss.map V.ref/\ss.length=d/\∀i r,ss[i]?=some r->kK H' r T j i/\H2 r=none/\r≠p'') (fun p'' H' _=>⟨[],rfl,rfl,fun i r hr=>by cases i<;>cases hr⟩) ?_ ?_
  ·rintro p2' hp2' C2 s2' H2' fp2 d acc H3 hd ⟨s3,e3,l3,ss,rfl,lss,hss⟩
   have t3:=t2.same s3;right;obtain⟨dx3,fs3,hx3,hl3⟩:=t3.at "saw" (by decide+kernel) (by decide+kernel) (by decide+kernel) (by decide+kernel) (by decide+kernel) (by decide+kernel);refine gy ?_;right;refine⟨x,dx3,fs3,rfl,hx3,hl3,?_⟩;right;refine⟨M,x,pv,pe,T,j,d,rfl,t3,dk,hds,hj,hd,fun q4 H4 hq4 s4 e4=>?_⟩;have nq4:q4≠p2':=fun z=>by rw[z,e3]at hq4;cases hq4
   refine aW.putW hp2' (s3.trans s4) (s4 _ _ e3) l3 fun H5 o5=>⟨ss++[q4],by rw[JY];rfl,by rw[JX,lss];rfl,fun i r hr=>?_⟩;have kp:∀{b:Addr} {xs:List V},H4 b=some (.tup xs)->H5 b=some (.tup xs):=fun{b xs} e=>(o5 b (fun z=>by rw[z,s4 _ _ e3]at e;cases e)).trans e;by_cases hi:i<ss.length
   ·rw[Me hi]at hr
    obtain⟨z1,z2,z3⟩:=hss i r hr;exact⟨z1.to (fun _ _ e=>kp (s4 _ _ e)) fun xs e=>(o5 _ z3).trans (s4 _ _ e),z2,z3⟩
   ·have hi2:=(JG.mp hr).1
    rw[JX]at hi2;have ei:i=d:=by simp at hi2;omega
    subst ei;rw[MB (by omega),lss,Ot]at hr;cases hr;exact⟨e4.to (fun _ _ e=>kp e) fun xs e=>(o5 _ nq4).trans e,s3.free hq4,nq4⟩
  ·rintro q3 acc H3 hq3 s3 e3 ⟨ss,rfl,lss,hss⟩
   right;refine⟨by simp[JJ],fun q4 H4 hq4 s4 e4=>?_⟩;have s14:=(s2.trans s3).trans s4;have f0:∀{b:Addr},H1 b=none->H b=none/\b≠p':=fun h=>⟨s1.free h,fun z=>by rw[z,e1]at h;cases h⟩;refine aW.putW hp' (s1.trans s14) (s14 _ _ e1) l1 fun H5 o5=>⟨rs++[q4],by rw[JY];rfl,by rw[JX,lrs];rfl,fun i r hr=>?_⟩;have kp:∀{b:Addr} {xs:List V},H4 b=some (.tup xs)->H5 b=some (.tup xs):=fun{b xs} e=>(o5 b (fun z=>by rw[z,s14 _ _ e1]at e;cases e)).trans e;by_cases hi:i<rs.length
   ·rw[Me hi]at hr
    exact(hrs i r hr).to (fun _ _ e=>kp (s14 _ _ e)) fun l xs hl e=>⟨(o5 _ hl.2).trans (s14 _ _ e),hl⟩
   ·have hi2:=(JG.mp hr).1
    rw[JX]at hi2;have ei:i=j:=by simp at hi2;omega
    subst ei;rw[MB (by omega),lrs,Ot]at hr;cases hr;have n2:=f0 hq2;have n3:=f0 (s2.free hq3);refine⟨q2,q3,ss,kp e4,(o5 _ n2.2).trans (s4 _ _ (s3 _ _ e2)),n2,(o5 _ n3.2).trans (s4 _ _ e3),n3,lss,fun d p hp=>?_⟩;obtain⟨z1,z2,z3⟩:=hss d p hp;have n4:=f0 (s2.free z2);exact⟨z1.to (fun _ _ e=>kp (s4 _ _ e)) fun xs e=>(o5 _ n4.2).trans (s4 _ _ e),n4⟩
 ·rintro hl acc H1 hhl s1 e1 ⟨rs,rfl,lrs,hrs⟩
  right;exact q _ H1 s1 ⟨hl,rs,rfl,e1,hhl,lrs,fun i r hr=>(hrs i r hr).to (fun _ _ e=>e) fun l xs hl e=>⟨e,hl.1⟩⟩
theorem E4{T:TM}(h:T.Dk)(d:Dd):(T.deed d).Dk:=fun m hm=>by
 have en:(T.deed d).n=T.n:=by unfold TM.n;rw[GS]
 rw[en];cases d with
 |word g s=>
  rcases Ka.mp (show m∈T.ds++[_]from hm)with z|z
  ·exact h m z
  ·rw[JE.mp z]
   exact⟨bq _ _,yf _ _⟩
 |«show» i hh ns=>
  rcases Ka.mp (show m∈T.ds++[_]from hm)with z|z
  ·exact h m z
  ·rw[JE.mp z]
   refine⟨by unfold iT;rw[JB,JB];rfl,fun y hy=>?_⟩;obtain⟨a,_,rfl⟩:=KR.mp hy;cases a<;>rfl
theorem Du(c:Nat)(ss:List Nat):(TM.begun c ss).Dk:=fun m hm=>nomatch hm
noncomputable abbrev Iy(K:Fg):Sp:=sf K
noncomputable def xf(K:Fg)(G:GF):TS:=(ao (aA (ap (li K) [] E0 (ab (aa 0) (ab (tC (.int 0)) (ab (tC (.int 60)) af)))) (cM K 2 (aZ (ag 1) (aZ (ag 2) cL))))
 (ao (aA (tCB (bY K) (ab (aa 2) af)) (ag 3))
 (ao (aA (ap (jD K) [] E0 (ab (aa 1) (ab (aa 2) af))) (ag 4))
 (ao (aA (rV G.Table (de K G) [] E0 (ab (aa 1) (ab (aa 2) af))) (ag 5))
 (ao (cQ (cZ (ab (tOp (rI (fun _ j=>0<j) fun i j=>.int (i%j)) (ap (bj K) [] E0 (ab (aa 0) (ab (tC (.int 7)) af))) (tC (.int 3))) af)) (ag 6) (cE (ap (lC K G) [] E0 (ab (aa 5) (ab (ap (lB K) [] E0 (ab (aa 0) (ab (tOp (rI0 fun i j=>.int (i+j)) (tC (.int 30)) (tOp (rI Mp fun i j=>.int (i*j)) (tC (.int 10)) (aa 6))) (ab (aa 1) (ab (aa 3) af))))) af)))))
 (ao (aA (bo (cZ (ab (aa 3) af)) (fun _ _ _ _=>(ag 0)) (fun _ _ _ _=>aS) (fun _ _ _ _=>(cD (ab (tC (.str "sees")) (ab (aa 0) af)))) [none]) (ag 7))
 (ao (br (aU (tOp rEq (tOp (rI (fun _ j=>0<j) fun i j=>.int (i%j)) (ap (bj K) [] E0 (ab (aa 0) (ab (tC (.int 8)) af))) (tC (.int 2))) (tC (.int 1)))) (aA (bo (cZ (ab (tOp (rI0 fun i j=>.int (i+j)) (tC (.int 1)) (tOp (rI (fun _ j=>0<j) fun i j=>.int (i%j)) (tOp (rI dI fun i j=>.int (i/j)) (ap (bj K) [] E0 (ab (aa 0) (ab (tC (.int 8)) af))) (tC (.int 2))) (tC (.int 4)))) af)) (fun _ _ _ _=>(ag 0)) (fun _ _ _ _=>aS) (fun _ _ _ _=>(ap (em K) [] E0 (ab (aa 1) (ab (tOp (rI0 fun i j=>.int (i+j)) (tC (.int 10)) (tOp (rI Mp fun i j=>.int (i*j)) (tC (.int 9)) (aa 0))) (ab (aa 2) (ab (aa 3) (ab (tC (.int 12)) af))))))) [none,some 0,some 1,some 3]) (ag 7)) ba)
 (ao (aA (tOp (bT K) (db (ab (tOp (rI (fun _ j=>0<j) fun i j=>.int (i%j)) (tOp (rI dI fun i j=>.int (i/j)) (ap (bj K) [] E0 (ab (aa 0) (ab (tC (.int 9)) af))) (tC (.int 2))) (tC (.int 9))) (ab (tOp (rI (fun _ j=>0<j) fun i j=>.int (i%j)) (tOp (rI dI fun i j=>.int (i/j)) (ap (bj K) [] E0 (ab (aa 0) (ab (tC (.int 9)) af))) (tC (.int 2))) (tC (.int 61))) af))) (tOp (rI (fun _ j=>0<j) fun i j=>.int (i%j)) (ap (bj K) [] E0 (ab (aa 0) (ab (tC (.int 9)) af))) (tC (.int 2)))) (ag 8))
 (ao (aA (bo (cZ (ab (aa 3) af)) (fun _ _ _ _=>(ag 0)) (fun _ _ _ _=>aS) (fun _ _ _ _=>(eJ G.Table "view" (gM K G) [] E0 (aa 1) (ab (aa 0) af))) [none,some 5]) (ag 9))
 (ao (aA (ap (mH K) [] E0 (ab (aa 4) (ab (aa 9) (ab (aa 7) (ab (aa 8) af))))) (ag 10))
 (ao (aA (ap (dW K G) [] E0 (ab (aa 5) (ab (aa 3) (ab (tCB (bY K) (ab (aa 4) af)) af)))) (ag 11))
 (ao (aA (tCB (fv K) (ab (aa 7) af)) (ag 12))
 (ao (aA (ap (qe K G) [] E0 (ab (aa 5) (ab (aa 12) (ab (aa 8) af)))) (ag 13))
 (ao (br (tOr (dH (tB (ap (gR K) [] E0 (ab (aa 13) (ab (aa 10) af))))) (tOr (aU (tOp (j4 K true) (aa 12) (aa 7))) (aU (tOp (j4 K true) (ap (dW K G) [] E0 (ab (aa 5) (ab (aa 3) (ab (tCB (bY K) (ab (aa 4) af)) af)))) (aa 11))))) (aI (tC (.bl false))) ba)
 (ao (cE (tBM K "list" d8 (aa 13) (ab (db af) af)))
 (ao (br (aU (tOp (rI0 fun i j=>.bl (decide (j<i))) (tCB (bY K) (ab (aa 10) af)) (tC (.int 0)))) (cE (Ed K "list" xD (tOp (bT K) (aa 13) (tC (.int 0))))) ba)
 (aI (fM (ap (gR K) [] E0 (ab (ap (qe K G) [] E0 (ab (aa 5) (ab (aa 12) (ab (aa 8) af)))) (ab (aa 10) af))) (tOp (j4 K false) (ap (dW K G) [] E0 (ab (aa 5) (ab (aa 3) (ab (tCB (bY K) (ab (aa 4) af)) af)))) (aa 11))))))))))))))))))))
noncomputable abbrev Je:List Str:=["_law_script","_law_cards","_law_sizes","_law_hands","_law_deals","_law_table","_law_k","_law_sayings","_law_turns","_law_views","_law_due_here","_law_stand_here","_law_handed","_law_found"]
theorem Len.one{T:TM}{sys:List Sy}{a L M:Nat}(h1:T.Len sys a L)(h2:T.Len sys a M):L=M:=by
 have l1:=h1.le;have l2:=h2.le;rcases Len.uniq h1 h2 with z|⟨z,y⟩<;>rcases Len.uniq h2 h1 with z'|⟨z',y'⟩<;>omega
theorem Iz{K:Fg}{G:GF}{vs:List V}{H:Hp}{Q:VK}{E:XK}(h:Iy K vs H Q E):xf K G { nx:=fun _ H'=>Q .non H',rt:=Q } (start Je vs) H:=by
 obtain⟨a,ns,rfl,hSc0,g⟩:=h;show xf K G _ [some _,none,none,none,none,none,none,none,none,none,none,none,none,none] _;unfold xf;refine b9 fun NX hNX=>?_;nofun;refine⟨a,ns,0,60,rfl,hSc0,by decide,by decide,by decide,fun c ss tp q H1 s1 htp hq e1 eq1 pk hm=>?_⟩;refine dh (SqT.of e1) ?_;have hSc:=hSc0.same s1;have h1:=pk.l1;have h5:=pk.l5;have few:KM.cC c ss<=2000:=by omega
 nofun;refine hNX _ _ ?_;clear hNX;refine b9 fun NX hNX=>?_;nofun;rw[be];refine hNX _ _ ?_;clear hNX;refine b9 fun NX hNX=>?_;nofun;refine⟨c,q,ss,rfl,eq1,pk,few,fun pd Hw sw hpd D3=>?_⟩;nofun;have hScw:=hSc.same sw;refine hNX _ _ ?_;clear hNX;refine cG (kG (Do ?_));right;intro x dx hx hdx hne;have st:am Hw (upd (upd Hw dx (.own x)) x (.ins G.Table dx [])):=((am.refl Hw).upd hdx _).upd hx _;refine⟨[],x,dx,q,c,ss,rfl,az,st _ _ (sw _ _ eq1),pk,few,(fun b hb=>nomatch hb),(fun hb=>nomatch hb),fun H2 pv pe kx hpv hpe t2=>?_⟩;have s2:am Hw H2:=fun b o e=>kx _ _ (aY e hx) (st _ _ e);have new2:∀b∈[pv,pe],Hw b=none:=fun b hb=>by
  rcases JH.mp hb with z|z
  ·rw[z];exact st.free hpv
  ·rw[JE.mp z];exact st.free hpe
 refine⟨rfl,?_⟩;refine b9 fun NX hNX=>?_;right;refine⟨a,ns,7,rfl,hScw.same s2,by decide,by decide,?_⟩;right;obtain⟨m,hm7,hm3⟩:∃m:Nat,bv ns 7%3=(m:Int)/\m<3:=⟨(bv ns 7%3).toNat,by omega,by omega⟩;rw[hm7];refine k9 m (by omega) (by omega) (by omega) (fun i σ H3=>∃(u6:Option V)(T:TM),σ=[some (.ref a),some (.int c),some (.ref q),some (.int ss.length),some (.ref pd),some (.ref x),u6,none,none,none,none,none,none,none]/\am Hw H3/\Tb G [pv,pe] H3 x pv pe T/\T.Dk/\T.c=c/\T.ss=ss/\T.ds.length=i) ⟨none,_,rfl,s2,t2,Du c ss,rfl,rfl,rfl⟩ ?_ ?_
 ·rintro i σ H3 hi ⟨u6,T,rfl,s3,t3,dk3,hTc,hTs,hds⟩
  right;refine⟨a,ns,30+10*(i:Int),c,ss.length,rfl,hScw.same s3,by omega,by omega,h1,h5,fun v d H4 s4 hd ok=>?_⟩;right;have hk:T.k=ss.length:=by unfold TM.k;rw[hTs]
  refine⟨[pv,pe],x,pv,pe,T,v,d,rfl,t3.same s4,hd.to (fun _ _ e=>e) (fun l xs hl e=>⟨e,t3.off hl⟩),by rw[hTc,hk];exact ok,by omega,Dp fun p5 H5 hp5 k5 e5 t5=>?_⟩;right;exact⟨_,T.deed d,rfl,k5.new (s3.trans s4) new2,t5,E4 dk3 d,(tN T d).1.trans hTc,(tN T d).2.trans hTs,by rw[GT,hds]⟩
 rintro σ H3 ⟨u6,T,rfl,s3,t3,dk,hTc,hTs,hds⟩;refine hNX _ _ ?_;clear hNX;have hk:T.k=ss.length:=by unfold TM.k;rw[hTs]
 have n2:=t3.ok.n2;have hws:T.ws=KM.cr (ss++[c-ss.sum]) c:=by unfold TM.ws;rw[hTc,hTs]
 have DW:bu Hw pd T.ws:=by rw[hws];exact D3
 have hSc3:=hScw.same s3;refine b9 fun NX hNX=>?_;nofun;refine jp ss.length (by omega) (by omega) (by omega) (fun i acc H'=>Paired (aN H') acc ((JT i).map Sy.sees)) (fun _ _=>.nil) ?_ ?_
 ·rintro p' hp' C s' H' fp j acc H4 hj ⟨s4,e4,l4,r4⟩
  right;refine⟨by simp[JJ],fun tp H5 htp s5 e5=>?_⟩;refine aW.put hp' (fun _ _ _ _ r k=>Paired.mapP r fun _ _ z=>z.keep k) (s4.trans s5) (s5 _ _ e4) l4 ?_;rw[LJ,JY];exact kd (Paired.mapP r4 fun _ _ z=>z.keep s5.keep) ⟨tp,rfl,e5⟩
 rintro ps acc H4 hps s4 e4 r4;nofun;refine hNX _ _ ?_;clear hNX;refine b9 fun NX hNX=>?_;have key:∀(sl:Addr)(sys:List Sy)(H5:Hp),am H3 H5->mG H5 sl sys->0<sys.length->(∀s∈sys,s.Ok T.c T.k/\s.words<=12)->NX [some (.ref a),some (.int c),some (.ref q),some (.int ss.length),some (.ref pd),some (.ref x),u6,some (.ref sl),none,none,none,none,none,none] H5:=by
  clear e4 r4 s4 hps acc;intro sl sys H5 s5 hsl h0 hsys;have hsys30:∀s∈sys,s.Ok T.c T.k/\s.words<=30:=fun s hs=>⟨(hsys s hs).1,Kc (hsys s hs).2 (by decide)⟩;refine hNX _ _ ?_;clear hNX;have hSc5:=hSc3.same s5;refine b9 fun NX hNX=>?_;nofun;refine⟨a,ns,9,rfl,hSc5,by decide,by decide,?_⟩;nofun;refine⟨a,ns,9,rfl,hSc5,by decide,by decide,?_⟩;nofun;refine⟨by simp[JJ],fun pt H6 hpt s6 e6=>?_⟩;nofun;refine⟨a,ns,9,rfl,hSc5.same s6,by decide,by decide,?_⟩;nofun;obtain⟨turns,hat,hturns⟩:∃turns:Nat,atI [V.int (bv ns 9/2%9),V.int (bv ns 9/2%61)] (bv ns 9%2)=some (.int (turns:Int))/\turns<=100:=by
   by_cases z:bv ns 9%2=0
   ·rw[z]
    exact⟨(bv ns 9/2%9).toNat,by show some (V.int _)=some (V.int _);rw[QZ (by omega)],by omega⟩
   ·rw[show bv ns 9%2=1 by omega]
    exact⟨(bv ns 9/2%61).toNat,by show some (V.int _)=some (V.int _);rw[QZ (by omega)],by omega⟩
  refine bz (SqL.of e6) hat ?_;nofun;have t6:=(t3.same s5).same s6;refine hNX _ _ ?_;clear hNX;refine b9 fun NX hNX=>?_;nofun;refine lZ ss.length (by omega) (by omega) (by omega) (fun p' j acc H'=>∃qs:List Addr,acc=qs.map V.ref/\Paired (fun(r:Addr)(v:List Nat)=>H' r=some (.lst (ar v))/\r≠p') qs ((JT j).map fun i=>T.vw.getD i [])) (fun p' H' _=>⟨[],rfl,.nil⟩) ?_ ?_
  ·rintro p' hp' C s' H' fp j acc H7 hj ⟨s7,e7,l7,qs,rfl,hqs⟩
   have t7:=t6.same s7;right;obtain⟨dx1,fs1,hx1,hl1⟩:=t7.at "view" (by decide+kernel) (by decide+kernel) (by decide+kernel) (by decide+kernel) (by decide+kernel) (by decide+kernel);refine gy ?_;right;refine⟨x,dx1,fs1,rfl,hx1,hl1,?_⟩;right;refine⟨[pv,pe],x,pv,pe,T,j,rfl,t7,by omega,fun q2 H8 hq2 s8 e8=>?_⟩;have nq:q2≠p':=fun z=>by rw[z,e7]at hq2;cases hq2
   refine aW.putW hp' (s7.trans s8) (s8 _ _ e7) l7 fun H9 o9=>⟨qs++[q2],by rw[JY];rfl,?_⟩;rw[LJ,JY];exact kd (Paired.mapP hqs fun _ _ ⟨z1,z2⟩=>⟨(o9 _ z2).trans (s8 _ _ z1),z2⟩) ⟨(o9 _ nq).trans e8,nq⟩
  rintro lv acc H7 hlv s7 e7 ⟨qs,rfl,hqs⟩;have evw:((JT ss.length).map fun i=>T.vw.getD i [])=T.vw:=by
   refine Lu fun i=>?_;have hl:T.vw.length=ss.length:=by rw[t3.ok.len,hk]
   by_cases hi:i<ss.length
   ·rw[JS,K3 hi,JD (show i<T.vw.length by omega)]
    show some (T.vw.getD i [])=_;rw[JN,JD (show i<T.vw.length by omega)];rfl
   ·rw[J5 (by rw[JB,Kz];omega),J5 (by omega)]
  rw[evw]at hqs;have V7:bF H7 lv T.vw:=⟨qs,e7,Paired.mapP hqs fun _ _ z=>z.1⟩;have s57:=s6.trans s7;have s37:=s5.trans s57;nofun;refine hNX _ _ ?_;clear hNX;refine b9 fun NX hNX=>?_;nofun;refine⟨pd,lv,sl,T,sys,turns,rfl,t3.ok,DW.same' (s3.trans s37),V7,hsl.same s57,h0,hsys30,hturns,fun pu L H8 hpu s8 pl8 ln8=>?_⟩;nofun;have s38:=s37.trans s8;have t8:=t3.same s38;have lenD:∀{H':Hp},am Hw H'->∃rs:List Addr,H' pd=some (.lst (rs.map V.ref))/\(rs.map V.ref).length=T.n:=fun s=>by
   obtain⟨rs,e,z⟩:=DW.same' s;exact⟨rs,e,by rw[JB];exact Kf z⟩
  obtain⟨rs8,er8,lr8⟩:=lenD (s3.trans s38);refine hNX _ _ ?_;clear hNX;refine b9 fun NX hNX=>?_;nofun;rw[lr8];refine⟨[pv,pe],x,pv,pe,T,ss.length,T.n,rfl,hk,rfl,t8,dk,by omega,fun v9 H9 s9 st9=>?_⟩;nofun;refine hNX _ _ ?_;clear hNX;refine b9 fun NX hNX=>?_;nofun;obtain⟨xs,exs,hxs⟩:=hsl;have exs9:=s9 _ _ (s8 _ _ (s57 _ _ exs));refine iC (SqL.of exs9) fun ph HA hph sA eA=>?_;nofun;refine hNX _ _ ?_;clear hNX;refine b9 fun NX hNX=>?_;nofun;have s3A:=(s38.trans s9).trans sA;have s5A:=((s57.trans s8).trans s9).trans sA;have hxsA:Paired (aN HA) xs sys:=Paired.mapP hxs fun _ _ z=>z.keep s5A.keep;refine⟨[pv,pe],x,pv,pe,ph,T,sys,turns,rfl,t3.same s3A,⟨xs,eA,hxsA⟩,h0,hsys30,hturns,by omega,fun pf L2 HB hpf sB plB lnB=>?_⟩;have eL:=Len.one lnB ln8;subst eL;have hL:=lnB.le;nofun;refine hNX _ _ ?_;clear hNX;refine b9 fun NX hNX=>?_;nofun;have pu8:=pl8.pl;have s8B:=(s9.trans sA).trans sB;refine⟨pf,pu,T.n,T.told sys,L2,rfl,plB.pl,pu8.same s8B,n2,by omega,fun HC sC=>?_⟩;nofun;have sAC:=sB.trans sC;have hxsC:Paired (aN HC) xs sys:=Paired.mapP hxsA fun _ _ z=>z.keep sAC.keep;have sameS:∀{H':Hp},Paired (aN H') xs sys->H' ph=some (.lst xs)->H' sl=some (.lst xs)->cu K H' 14 (.ref ph) (.ref sl):=fun hp e1 e2=>.lst (n:=13) (SqL.of e1) (SqL.of e2) rfl fun i y z hy hz=>by
   rw[hy]at hz;cases hz;obtain⟨s,hs,is⟩:=bG hp hy;exact is.self.up (by have:=(hsys s (JK hs)).2;omega)
  refine va 14 (by decide) (sameS hxsC (sAC _ _ eA) (sAC _ _ (sA _ _ exs9))) ?_;nofun;have s3C:=s3A.trans sAC;obtain⟨rsC,erC,lrC⟩:=lenD (s3.trans s3C);refine gG (ys:=rsC.map V.ref) (SqL.of erC) ?_;nofun;rw[lrC];refine⟨[pv,pe],x,pv,pe,T,ss.length,T.n,rfl,hk,rfl,t3.same s3C,dk,by omega,fun vD HD sD stD=>?_⟩;nofun;have s9D:=(sA.trans sAC).trans sD;have st9D:StW (fun l=>HA l≠none) HD v9 T:=st9.to (fun _ _ e=>s9D _ _ e) fun l xs hl e=>⟨s9D _ _ e,by rw[sA _ _ e];exact fun z=>nomatch z⟩;refine va 5 (by decide) (stD.eqv dk st9D) ?_;nofun;obtain⟨rs,efB,hrs⟩:=plB;have lrs:rs.length=L2:=by rw[Kf hrs,Kz]
  have sBD:=sC.trans sD;refine hNX _ _ ?_;clear hNX;refine b9 fun NX hNX=>?_;nofun;refine⟨.inl ⟨rfl,_,SqL.of (sBD _ _ efB)⟩,?_⟩;nofun;refine⟨by simp[JJ],fun pz HE hpz sE eE=>?_⟩;nofun;have sBE:=sBD.trans sE;refine fq (sBE _ _ efB) (by rw[JB,JJ];omega) fun HF oF eF=>?_;nofun;have sAF:am HA HF:=(sB.trans sBE).off hpf oF;have sHA:∀{H':Hp},am HA H'->PlL H' pu T.n (T.told sys) L2/\StW (fun l=>HA l≠none) H' v9 T/\Tb G [pv,pe] H' x pv pe T/\mG H' ph sys/\am Hw H':=fun s=>⟨pu8.same ((s9.trans sA).trans s),st9.to (fun _ _ e=>s _ _ (sA _ _ e)) fun l xs hl e=>⟨s _ _ (sA _ _ e),by rw[sA _ _ e];exact fun z=>nomatch z⟩,(t3.same s3A).same s,⟨xs,s _ _ eA,Paired.mapP hxsA fun _ _ z=>z.keep s.keep⟩,(s3.trans s3A).trans s⟩;refine hNX _ _ ?_;clear hNX;refine b9 fun NX hNX=>?_;have fin:∀H':Hp,am HA H'->NX [some (.ref a),some (.int c),some (.ref q),some (.int ss.length),some (.ref pd),some (.ref x),u6,some (.ref sl),some (.int turns),some (.ref lv),some (.ref pu),some v9,some (.ref ph),some (.ref pf)] H':=fun H' s=>by
   obtain⟨z1,z2,z3,z4,z5⟩:=sHA s;refine hNX _ _ ?_;clear hNX;nofun;refine⟨[pv,pe],x,pv,pe,ph,T,sys,turns,rfl,z3,z4,h0,hsys30,hturns,by omega,fun pg L3 HG hpg sG plG lnG=>?_⟩;have eL:=Len.one lnG lnB;subst eL;nofun;refine⟨pg,pu,T.n,T.told sys,L3,rfl,plG.pl,z1.same sG,n2,by omega,fun HH sH=>?_⟩;nofun;have sGH:=sG.trans sH;obtain⟨rsH,erH,lrH⟩:=lenD (z5.trans sGH);refine gG (ys:=rsH.map V.ref) (SqL.of erH) ?_;nofun;rw[lrH];refine⟨[pv,pe],x,pv,pe,T,ss.length,T.n,rfl,hk,rfl,z3.same sGH,dk,by omega,fun vI HI sI stI=>?_⟩;nofun;refine Gy 5 (by decide) (stI.eqv dk (z2.to (fun _ _ e=>(sGH.trans sI) _ _ e) fun l xs hl e=>⟨(sGH.trans sI) _ _ e,hl⟩)) ?_;nofun;exact g _
  obtain⟨ru,eru,lru,hru⟩:=(sHA sAF).1.at;nofun;rw[JB,lru];refine bW (fun c1=>?_) (fun c1=>?_)
  ·nofun
   cases hrs':rs with
   |nil=>rw[hrs']at lrs;simp at lrs;omega
   |cons r rr=>
    rw[hrs']at eF hrs;have h0':(JT L2)[0]?=some 0:=by rw[K3 (by omega)]
    obtain⟨r',hr',er',nr',fr'⟩:=gz hrs h0';cases hr';refine bz (SqL.of eF) (i:=0) (show atI _ ((0:Nat):Int)=some (.ref r)from b8 rfl) ?_;nofun;have erF:=(oF _ nr').trans (sBE _ _ er');refine⟨pT erF,?_⟩;nofun;refine GQ erF fun HG oG eG=>?_;nofun;exact fin HG (sAF.off fr' oG)
  ·nofun
   exact fin HF sAF
 nofun;refine⟨a,ns,8,rfl,hSc3.same s4,by decide,by decide,?_⟩;nofun;refine bW (fun c1=>?_) (fun c1=>?_)
 ·nofun
  refine⟨a,ns,8,rfl,hSc3.same s4,by decide,by decide,?_⟩;nofun;obtain⟨mn,hmn,hmn4⟩:∃mn:Nat,1+bv ns 8/2%4=((1+mn:Nat):Int)/\mn<4:=⟨(bv ns 8/2%4).toNat,by omega,by omega⟩;rw[hmn];refine jp (1+mn) (by omega) (by omega) (by omega) (fun i acc H'=>∃sys:List Sy,sys.length=i/\Paired (aN H') acc sys/\∀s∈sys,s.Ok T.c T.k/\s.words<=12) (fun _ _=>⟨[],rfl,.nil,fun _ z=>nomatch z⟩) ?_ ?_
  ·rintro p' hp' C s' H' fp j acc H5 hj ⟨s5,e5,l5,sys,ls,r5,o5⟩
   right;refine⟨a,ns,10+9*(j:Int),c,ss.length,12,rfl,(hSc3.same s4).same s5,by omega,by omega,h1,h5,by decide,by decide,fun v s H6 s6 hS hok hw=>?_⟩;refine aW.put hp' (fun _ _ _ _ r k=>by obtain⟨sys,z1,z2,z3⟩:=r;exact⟨sys,z1,Paired.mapP z2 fun _ _ z=>z.keep k,z3⟩) (s5.trans s6) (s6 _ _ e5) l5 ⟨sys++[s],by rw[JX,ls];rfl,kd (Paired.mapP r5 fun _ _ z=>z.keep s6.keep) hS,fun s' hs'=>?_⟩;rcases Ka.mp hs' with z|z
   ·exact o5 s' z
   ·rw[JE.mp z,hTc,hk]
    exact⟨hok,by omega⟩
  ·rintro sl acc5 H5 hsl s5 e5 ⟨sys,ls,r5,o5⟩
   nofun;exact key sl sys H5 (s4.trans s5) ⟨acc5,e5,r5⟩ (by omega) o5
 ·nofun
  refine key ps _ H4 s4 ⟨acc,e4,r4⟩ (by rw[JB,Kz];omega) fun s hs=>?_;obtain⟨i,hi,rfl⟩:=KR.mp hs;rw[hk];exact⟨K1.mp hi,LM rfl⟩
end
section
open PySem.Spec
theorem DA.stay{a:Addr}{kvs:List (IA×V)}{h1 h2:Heap}(d:DA a kvs h1)(k:∀o,h1.get? a=some o->h2.get? a=some o):DA a kvs h2:=by
 obtain⟨z,y,P,w,vs,r,o,es,ep,e,c⟩:=d;exact⟨z,y,P,w,vs,r,o,es,ep,k _ e,c⟩
theorem DB.stay{a:Addr}{zs:List (List IK×Addr×V)}{h1 h2:Heap}(d:DB a zs h1)(k:∀o,h1.get? a=some o->h2.get? a=some o):DB a zs h2:=by
 obtain⟨z,y,xs,r,o,es,ep,e,c⟩:=d;exact⟨z,y,xs,r,o,es,ep,k _ e,c⟩
theorem DA.ok{P:Program}{w:World}{H:Hp}{h:Heap}{a:Addr}{kvs:List (IA×V)}(d:DA a kvs h):bI P w H h a (dA a kvs):=by
 obtain⟨_,_,_,_,_,_,o,_,_,e,_⟩:=id d;exact⟨d,⟨o,e⟩,fun _ _ d k=>d.stay k⟩
theorem DB.ok{P:Program}{w:World}{H:Hp}{h:Heap}{a:Addr}{zs:List (List IK×Addr×V)}(d:DB a zs h):bI P w H h a (dB a zs):=by
 obtain⟨_,_,_,_,o,_,_,e,_⟩:=id d;exact⟨d,⟨o,e⟩,fun _ _ d k=>d.stay k⟩
theorem ZX.length{zs:List (List IK×Addr×V)}{xs:List (List IK×Addr×Value)}(r:ZX zs xs):zs.length=xs.length:=Kf r
theorem ZX.val{zs:List (List IK×Addr×V)}{xs:List (List IK×Addr×Value)}(r:ZX zs xs)(k:List IK):gh (atZ zs k) ((atKey xs k).map (·.2)):=by
 unfold ZX at r
 induction r with
 |nil=>exact Mr
 | @cons p q ps qs h t ih=>
  obtain⟨h1,_,h2⟩:=h;by_cases e:p.1=k
  ·have e':q.1=k:=h1.symm.trans e
   have b:atKey (q::qs) k=some q.2:=by simp[atKey,Kl,e']
   have c:atZ (p::ps) k=some p.2.2:=by simp[atZ,Kl,e]
   rw[c,b];exact h2
  ·have e':¬q.1=k:=fun z=>e (h1.trans z)
   have b:atKey (q::qs) k=atKey qs k:=by simp[atKey,Kl,e']
   have c:atZ (p::ps) k=atZ ps k:=by simp[atZ,Kl,e]
   rw[c,b];exact ih
noncomputable def kC(zs:List (List IK×Addr×V))(k:List IK)(b:Addr)(v:V):List (List IK×Addr×V):=
 if(atZ zs k).isSome then zs.map (fun x=>if x.1=k then(x.1,x.2.1,v)else x)else zs++[(k,b,v)]
theorem ZX.repl{zs:List (List IK×Addr×V)}{xs:List (List IK×Addr×Value)}(r:ZX zs xs)(k:List IK){v:V}{u:Value}(rv:aO v u):ZX (zs.map fun x=>if x.1=k then(x.1,x.2.1,v)else x) (xs.map (putAt k u)):=by
 unfold ZX at r ⊢
 induction r with
 |nil=>exact .nil
 | @cons p q ps qs h t ih=>
  rw[JZ,JZ];refine .cons ?_ ih;obtain⟨h1,h2,h3⟩:=h;unfold putAt;by_cases e:p.1=k
  ·rw[if_pos e,if_pos (h1.symm.trans e)];exact⟨h1,h2,rv⟩
  ·rw[if_neg e,if_neg (fun z=>e (h1.trans z))];exact⟨h1,h2,h3⟩
theorem ZX.put{zs:List (List IK×Addr×V)}{xs:List (List IK×Addr×Value)}(r:ZX zs xs)(k:List IK){b:Addr}{v:V}{u:Value}(rv:aO v u):ZX (kC zs k b v) (storedH xs k b u):=by
 have e:(atZ zs k).isSome=(atKey xs k).isSome:=by
  rw[(r.val k).isSome_eq,Ru]
 unfold kC storedH;rw[e];by_cases q:(atKey xs k).isSome=true
 ·rw[if_pos q,if_pos q];exact r.repl k rv
 ·rw[if_neg q,if_neg q];exact Paired.snoc r ⟨rfl,rfl,rv⟩
theorem GV(zs:List (List IK×Addr×V))(k j:List IK)(b:Addr)(v:V):atZ (kC zs k b v) j=if j=k then some v else atZ zs j:=by
 have hm:∀ys:List (List IK×Addr×V),atZ (ys.map fun x=>if x.1=k then(x.1,x.2.1,v)else x) j=(atZ ys j).map fun y=>if j=k then v else y:=by
  intro ys
  induction ys with
  |nil=>rfl
  |cons p r ih=>
   rw[JZ];unfold atZ at ih ⊢;by_cases h:p.1=k
   ·rw[if_pos h]
    by_cases e:p.1=j
    ·simp[Kl,e,e.symm.trans h]
    ·simp[Kl,e];simpa using ih
   ·rw[if_neg h]
    by_cases e:p.1=j
    ·have:¬j=k:=fun z=>h (e.trans z)
     simp[Kl,e,this]
    ·simp[Kl,e];simpa using ih
 have ha:∀ys:List (List IK×Addr×V),atZ ys k=none->atZ (ys++[(k,b,v)]) j=if j=k then some v else atZ ys j:=by
  intro ys
  induction ys with
  |nil=>
   intro _;by_cases e:k=j
   ·simp[atZ,Kl,e]
   ·have:¬j=k:=fun z=>e z.symm
    simp[atZ,Kl,e,this]
  |cons p r ih=>
   intro hn;have hk:¬p.1=k:=fun z=>by simp[atZ,Kl,z]at hn
   have hn':atZ r k=none:=by simpa[atZ,Kl,hk]using hn
   have ih':=ih hn';by_cases e:p.1=j
   ·have:¬j=k:=fun z=>hk (e.trans z)
    simp[atZ,Kl,e,this]
   ·have c:atZ (p::(r++[(k,b,v)])) j=atZ (r++[(k,b,v)]) j:=by simp[atZ,Kl,e]
    have c':atZ (p::r) j=atZ r j:=by simp[atZ,Kl,e]
    rw[RZ,c,c',ih']
 unfold kC;cases q:atZ zs k with
 |some y=>
  rw[if_pos (show(some y).isSome=true from rfl),hm];by_cases e:j=k
  ·subst e;rw[q,if_pos rfl];simp
  ·rw[if_neg e];cases atZ zs j<;>simp[e]
 |none=>rw[if_neg (show¬(none:Option V).isSome=true by decide)];exact ha zs q
theorem mI(zs:List (List IK×Addr×V))(k:List IK)(b:Addr)(v:V):(kC zs k b v).length<=zs.length+1:=by
 unfold kC
 split
 ·rw[JB];omega
 ·rw[JX,Kd,Sw];omega
theorem E5{zs:List (List IK×Addr×V)}{k:List IK}{b:Addr}{v:V}{z:List IK×Addr×V}(h:z∈kC zs k b v):(∃z0∈zs,z.1=z0.1/\z.2.1=z0.2.1)\/(z.1=k/\z.2.1=b):=by
 unfold kC at h
 split at h
 ·obtain⟨z0,h0,rfl⟩:=KR.mp h
  refine .inl ⟨z0,h0,?_⟩
  split<;>exact⟨rfl,rfl⟩
 ·rcases Ka.mp h with h|h
  ·exact .inl ⟨z,h,rfl,rfl⟩
  ·rw[JE.mp h];exact .inr ⟨rfl,rfl⟩
section
variable{X:Cx}{pins:List (Addr×Obj)}{σ:St}{H:Hp}{s:Shared}{a:Addr}{y v:V}{u r:Value}{A:Around}{E:Value->Shared->Prop}{srt:Bool}{f:MK->Option V}{n:Nat}{k:MK}
theorem qf{k:IA}(h:iaV y=some k)(ry:aO y u):ny k u=true:=by
 cases y with
 |non=>cases h;cases ry;rfl
 |bl b=>cases h;cases ry;simp[ny]
 |int i=>cases h;obtain⟨t,rfl⟩:=ry;simp[ny]
 |_=>cases h
theorem An{P:Program}{w:World}:∀{ks:List IA} {ys:List V} {us:List Value},ys.map iaV=ks.map some->aL ys us->ItemsAre (cH P w) ks us
 | [],[],_,_,.nil=>.nil
 |k::ks,y::ys,_,e,.cons h t=>by
  rw[JZ,JZ]at e;injection e with e1 e2
  exact .cons (qf e1 h) (An e2 t)
 | [],_::_,_,e,_=>by simp at e
 |_::_,[],_,e,_=>by simp at e
theorem Dv(ok:HOk X.prog X.w H s.heap){c:Addr}{xs:List V}(e:H c=some (.tup xs)):∃its,aL xs its/\∃o n,s.heap.get? c=some o/\o.cls=.type "tuple"/\o.data=.seq its.toArray n:=by
 obtain⟨_,its,r,o,h1,h2,⟨n,h3⟩,_⟩:=(show bI X.prog X.w H s.heap c (.tup xs)from ok c _ e);exact⟨its,r,o,n,h1,h2,h3⟩
theorem GW(ok:HOk X.prog X.w H s.heap){k:IK}(h:lP H y k)(ry:aO y u):cO X.prog X.w s.heap k u:=by
 cases k with
 |inl a=>exact qf h ry
 |inr as=>
  obtain⟨c,ys,rfl,e,q⟩:=h;cases ry;obtain⟨its,rv,o,n,h1,h2,h3⟩:=Dv ok e;exact⟨c,rfl,o,its.toArray,n,h1,h2,h3,by simpa using An q rv⟩
theorem E6(ok:HOk X.prog X.w H s.heap){xs:List V}{ks:List IK}{us:List Value}(p:Paired (lP H) xs ks):aL xs us->Paired (cO X.prog X.w s.heap) ks us:=by
 induction p generalizing us with
 |nil=>intro q;cases q;exact .nil
 |cons h t ih=>intro q;cases q with
  |cons r q=>exact .cons (GW ok h r) (ih q)
theorem tP(ok:HOk X.prog X.w H s.heap){c:Addr}{ks:List IK}(h:ck H (.ref c) (.inr ks)):gj X.prog X.w s.heap ks c:=by
 obtain⟨c',xs,e,ec,q⟩:=h;cases e;obtain⟨its,rv,o,n,h1,h2,h3⟩:=Dv ok ec;exact⟨o,its.toArray,n,h1,h2,h3,by simpa using E6 ok q rv⟩
theorem qg(h:ck H y k)(hs:eN k=true):∃c ks,y=.ref c/\k=.inr ks:=by
 cases k with
 |inl _=>cases hs
 |inr ks=>obtain⟨c,xs,e,_⟩:=h;exact⟨c,ks,e,rfl⟩
theorem Dw{P P':Program}{w w':World}{es:List Q5}{vs:List (IA×Value)}(h:Pairs (cH P w) es vs):Pairs (cH P' w') es vs:=by
 induction h with
 |nil=>exact .nil
 |cons a b _ ih=>exact .cons a b ih
theorem tQ{kvs:List (IA×V)}(ok:HOk X.prog X.w H s.heap)(e:H a=some (dA a kvs)):kvs.length<=JP/\(a==LF)=false/\∃vs,KV kvs vs/\s.heap.DictOf (cH X.prog X.w) a vs:=by
 obtain⟨⟨z,y,P,w,vs,r,o,es,ep,h1,h2,h3,h4,h5,h6⟩,_⟩:=(show bI X.prog X.w H s.heap a (dA a kvs)from ok a _ e);exact⟨z,y,vs,r,o,es,ep,h1,h2,h3,h4,Dw h5,h6⟩
theorem tR{zs:List (List IK×Addr×V)}(ok:HOk X.prog X.w H s.heap)(e:H a=some (dB a zs))(hk:∀z∈zs,ck H (.ref z.2.1) (.inr z.1)):zs.length<=JP/\(a==LF)=false/\∃xs,ZX zs xs/\s.heap.DictOfH (lg X.prog X.w) a xs:=by
 obtain⟨⟨z,y,xs,r,o,es,ep,h1,h2,h3,h4,h5⟩,_⟩:=(show bI X.prog X.w H s.heap a (dB a zs)from ok a _ e);refine⟨z,y,xs,r,o,es,ep,h1,h2,h3,h4,?_,h5⟩;have all:∀{l:List (List IK×Addr×V)} {m:List (List IK×Addr×Value)},ZX l m->(∀z∈l,ck H (.ref z.2.1) (.inr z.1))->∀x∈m,(lg X.prog X.w).is s.heap x.1 x.2.1:=by
  intro l m q;unfold ZX at q
  induction q with
  |nil=>intro _ x hx;exact nomatch hx
  | @cons p q ps qs hq t ih=>
   intro hk x hx;rcases JH.mp hx with e|hx
   ·subst e
    have:=hk p (JI ..);rw[hq.1,hq.2.1]at this;exact tP ok this
   ·exact ih (fun z hz=>hk z (JO _ hz)) x hx
 exact all r hk
theorem GX{Q:Value->Shared->Prop}(hu:A.units+2<cLine)(I:Inv X pins σ H s)(d:Dx H a srt f n)(hk:ck H y k)(hs:eN k=srt)(ry:aO y u)(h:∀s',Inv X pins σ H s'->Q (.bool (f k).isNone) s'):
  wpAny (model X.prog X.w) A (Lk .NotIn u (.ref a)) Q E s:=by
 rcases d with⟨rfl,kvs,e,hf,_⟩|⟨rfl,zs,e,hz,hf,_⟩
 ·cases k with
  |inr _=>cases hs
  |inl k=>
   obtain⟨z,hd,vs,rel,dd⟩:=tQ I.hok e;refine wpAny_notIn_of (knd:=cH X.prog X.w) (qf hk ry) hd dd.mapOf ?_;rw[<-(rel.val k).isSome_eq,hf k];rw[show(!(f (.inl k)).isSome)=(f (.inl k)).isNone by cases f (.inl k)<;>rfl];exact h _ (I.tok _)
 ·obtain⟨c,ks,rfl,rfl⟩:=qg hk hs
  cases ry;obtain⟨z,hd,xs,rel,dd⟩:=tR I.hok e hz;refine wpAny_notIn_heap (knd:=lg X.prog X.w) hu (tP I.hok hk) hd dd ?_;have q:=(rel.val ks).isSome_eq;rw[Ru,hf ks]at q;rw[<-q,show(!(f (.inr ks)).isSome)=(f (.inr ks)).isNone by cases f (.inr ks)<;>rfl];exact h _ (I.tok _)
theorem Jf{Q:Value->Shared->Prop}(hu:A.units+2<cLine)(I:Inv X pins σ H s)(d:Dx H a srt f n)(hk:ck H y k)(hs:eN k=srt)(ry:aO y u)(ev:f k=some v)(h:∀w' s',Inv X pins σ H s'->aO v w'->Q w' s'):
  wpAny (model X.prog X.w) A (getItem (.ref a) u) Q E s:=by
 rcases d with⟨rfl,kvs,e,hf,_⟩|⟨rfl,zs,e,hz,hf,_⟩
 ·cases k with
  |inr _=>cases hs
  |inl k=>
   obtain⟨z,hd,vs,rel,dd⟩:=tQ I.hok e;obtain⟨w',hw,rw'⟩:=gh.some_of (v:=v) (o:=valueAt vs k) (by rw[<-ev,<-hf k];exact rel.val k);exact R6 (knd:=cH X.prog X.w) (qf hk ry) dd.mapOf hw (h w' _ (I.tok _) rw')
 ·obtain⟨c,ks,rfl,rfl⟩:=qg hk hs
  cases ry;obtain⟨z,hd,xs,rel,dd⟩:=tR I.hok e hz;obtain⟨w',hw,rw'⟩:=gh.some_of (v:=v) (o:=(atKey xs ks).map (·.2)) (by rw[<-ev,<-hf ks];exact rel.val ks);obtain⟨p,hp,hp2⟩:=Qg.mp hw;refine wpAny_getItem_heap (knd:=lg X.prog X.w) hu (tP I.hok hk) dd hp ?_;rw[hp2];exact h w' _ (I.tok _) rw'
theorem lG{o:HO}:Off a H (upd H a o):=fun b hb=>aR hb
theorem Dy{h':Heap}{t':Nat}{kvs kvs':List (IA×V)}{vs':List (IA×Value)}(I:Inv X pins σ H s)(e:H a=some (dA a kvs))(hs:J0 a s.heap h')(z:kvs'.length<=JP)(hd:(a==LF)=false)(rel:KV kvs' vs')(dd:h'.DictOf (cH X.prog X.w) a vs'):
  Inv X pins σ (upd H a (dA a kvs')) { s with heap:=h',toks:=t' }:=by
 have he:∃q,h'.get? a=some q:=let⟨q,_,_,hq,_⟩:=dd;⟨q,hq⟩;exact Ab I (by rw[e];exact Mr) hs he (DA.ok ⟨z,hd,X.prog,X.w,vs',rel,dd⟩)
theorem Dz{h':Heap}{t':Nat}{zs zs':List (List IK×Addr×V)}{xs':List (List IK×Addr×Value)}(I:Inv X pins σ H s)(e:H a=some (dB a zs))(hs:J0 a s.heap h')(z:zs'.length<=JP)(hd:(a==LF)=false)(rel:ZX zs' xs')(dd:h'.DictOfH (lg X.prog X.w) a xs'):
  Inv X pins σ (upd H a (dB a zs')) { s with heap:=h',toks:=t' }:=by
 obtain⟨o,es,ep,h1,h2,h3,h4,_,h5⟩:=dd;exact Ab I (by rw[e];exact Mr) hs ⟨o,h1⟩ (DB.ok ⟨z,hd,xs',rel,o,es,ep,h1,h2,h3,h4,h5⟩)
theorem Ao{kvs:List (IA×V)}{k:IA}(e:H a=some (dA a kvs))(hf:∀k,eX kvs k=f (.inl k))(hn:kvs.length<=n):Dx (upd H a (dA a (nv kvs k v))) a false (gI f (.inl k) v) (n+1):=by
 refine .inl ⟨rfl,_,az,fun j=>?_,?_⟩
 ·rw[Ep]
  unfold gI;by_cases q:j=k
  ·rw[if_pos q,if_pos (by rw[q])]
  ·rw[if_neg q,if_neg (fun z=>q (RD z)),hf j]
 ·have:=mw kvs k v;omega
theorem Ap{zs:List (List IK×Addr×V)}{k:List IK}{c:Addr}(e:H a=some (dB a zs))(hz:∀z∈zs,ck H (.ref z.2.1) (.inr z.1))(hk:ck H (.ref c) (.inr k))(hf:∀k,atZ zs k=f (.inr k))(hn:zs.length<=n):
  Dx (upd H a (dB a (kC zs k c v))) a true (gI f (.inr k) v) (n+1):=by
 have kp:cS H (upd H a (dB a (kC zs k c v))):=lG.keepD fun xs q=>by rw[e]at q;cases q
 refine .inr ⟨rfl,_,az,fun z h=>?_,fun j=>?_,?_⟩
 ·rcases E5 h with⟨z0,h0,e1,e2⟩|⟨e1,e2⟩
  ·rw[e1,e2];exact(hz z0 h0).keep kp
  ·rw[e1,e2];exact hk.keep kp
 ·rw[GV]
  unfold gI;by_cases q:j=k
  ·rw[if_pos q,if_pos (by rw[q])]
  ·rw[if_neg q,if_neg (fun z=>q (Nr z)),hf j]
 ·have:=mI zs k c v;omega
theorem Jg{Q:Unit->Shared->Prop}(hu:A.units+2<cLine)(I:Inv X pins σ H s)(d:Dx H a srt f n)(hk:ck H y k)(hs:eN k=srt)(hn:n<JP)(ry:aO y u)(rv:aO v r)
  (h:∀H' s',Off a H H'->Dx H' a srt (gI f k v) (n+1)->Inv X pins σ H' s'->Q () s'):wpAny (model X.prog X.w) A (setItem (.ref a) u r) Q E s:=by
 rcases d with⟨rfl,kvs,e,hf,hl⟩|⟨rfl,zs,e,hz,hf,hl⟩
 ·cases k with
  |inr _=>cases hs
  |inl k=>
   obtain⟨z,hd,vs,rel,dd⟩:=tQ I.hok e;have hvz:vs.length<=JP:=by rw[<-rel.length];exact z
   have hl':(nv kvs k v).length<=JP:=by have:=mw kvs k v;omega
   refine wpAny_setItem_pairs (knd:=cH X.prog X.w) (hsz:=hvz) (qf hk ry) dd fun h' dd' hs'=>h _ _ lG (Ao e hf hl) ?_;exact Dy I e hs' hl' hd (rel.put k rv) dd'
 ·obtain⟨c,ks,rfl,rfl⟩:=qg hk hs
  cases ry;obtain⟨z,hd,xs,rel,dd⟩:=tR I.hok e hz;have hvz:xs.length<=JP:=by rw[<-rel.length];exact z
  have hl':(kC zs ks c v).length<=JP:=by have:=mI zs ks c v;omega
  refine wpAny_setItem_heap (knd:=lg X.prog X.w) (hsz:=hvz) hu (tP I.hok hk) dd fun h' dd' hs'=>h _ _ lG (Ap (c:=c) e hz hk hf hl) ?_;exact Dz I e hs' hl' hd (rel.put ks rv) dd'
theorem tS{d a:Addr}{knd:HeapKind X.prog X.w (List IK)}{xs:List (List IK×Addr×Value)}{k:List IK}{v:Value}{Q:Value->Shared->Prop}(hu:knd.room A)(hkey:knd.is s.heap k a)(hm:s.heap.DictOfH knd d xs)
  (h1:∀p,atKey xs k=some p->Q p.2 { s with toks:=s.toks+knd.draws k })
  (h2:atKey xs k=none->∀h',h'.DictOfH knd d (storedH xs k a v)->J0 d s.heap h'->Q v { s with heap:=h',toks:=s.toks+knd.draws k })
  (hsz:xs.length<=JP):wpAny (model X.prog X.w) A (OG d (.ref a) v) Q E s:=by
 obtain⟨o,es,ep,ho,hc,hd,he,his,hn⟩:=hm;unfold OG
 try with_reducible refine K4 ?_
 refine Jz (knd.pyHash hu hkey ?_);refine Jz (wpAny_dictFind_heap (s:={ s with toks:=s.toks+knd.draws k }) hu hkey ho hd he his hn ?_ ?_)
 ·intro hno
  have hnot:k∉xs.map (·.1):=not_mem_keys_of_get hno;refine Jz (Ma (Jz (wpAny_updateDictKeys (hz:=by have e:=size_of_entries he;omega) (s:={ s with toks:=s.toks+knd.draws k }) ho hd (JC (h2 (NV hno) _ ⟨_,_,ep+1,KH _ ho (Obj.isFreed_of_dict (QK hd _)),
   hc.mapDictKeys _,QK hd _,?_,?_,?_⟩ (KI ..))))))
  ·rw[RL (NV hno)]
   simp[he,entryOfKey]
  ·rw[RL (NV hno)]
   intro x hx;rcases Ka.mp hx with hx|hx
   ·exact knd.keeps (his x hx) ho hd (KI ..)
   ·simp only[JE]at hx
    subst hx;exact knd.keeps hkey ho hd (KI ..)
  ·rw[RL (NV hno)]
   rw[JY,Rv];refine⟨hn,by simp,?_⟩;intro x hx y hy;simp only[JZ,Ni,JE]at hy;subst hy;exact fun e=>hnot (e▸hx)
 ·intro j p hj
  refine Jz (wpAny_dictEntries (s:={ s with toks:=s.toks+knd.draws k }) ho hd ?_);rw[entry_at he j,hj];exact Jz (Ma (JC (h1 p (atKey_of_get hn hj))))
theorem mi{d:Addr}{key dflt:Value}{Q:Fin->Shared->Prop}(hT:s.TypeIs (.ref d) "dict")(hd:(d==LF)=false)(h:wpAny (model X.prog X.w) A (OG d key dflt) (fun v s'=>Q (.done (.ret v)) s') E s):
  wpAny (model X.prog X.w) A (Builtin.«dict.setdefault» ⟨[.ref d,key,dflt],[]⟩) Q E s:=by
 unfold Builtin.«dict.setdefault»;refine Jz ?_;unfold Builtin.Dict.keyAndDefault;refine Jz (wpAny_notOrdered_dict hT ?_);show wpAny _ _ (pure (d,key,some dflt)) _ _ s;refine JC ?_;show wpAny _ _ (if(d==LF)=true then _ else(OG d key dflt>>=_)) _ _ s;rw[if_neg (by rw[hd];exact JQ)];exact Jz (Lj h (fun v s' q=>JC q) fun _ _ x=>x)
theorem yL(I:Inv X pins σ H s)(d:Dx H a srt f n):s.TypeIs (.ref a) "dict"/\∀b,J8 a=.ref b->∃ob,s.heap.get? b=some ob/\ob.dict=none:=by
 rcases d with⟨_,kvs,e,_,_⟩|⟨_,zs,e,hz,_,_⟩
 ·obtain⟨_,_,vs,_,dd⟩:=tQ I.hok e
  refine⟨dd.typeIs,fun b q=>?_⟩;cases q;obtain⟨ob,_,_,h1,h2,_⟩:=dd;exact⟨ob,h1,h2.2.1⟩
 ·obtain⟨_,_,xs,_,dd⟩:=tR I.hok e hz
  refine⟨dd.typeIs,fun b q=>?_⟩;cases q;obtain⟨ob,_,_,h1,h2,_⟩:=dd;exact⟨ob,h1,h2.2.1⟩
theorem IB{Q:Value->Shared->Prop}(hu:A.units+2<cLine)(I:Inv X pins σ H s)(d:Dx H a srt f n)(hk:ck H y k)(hs:eN k=srt)(hn:n<JP)(ry:aO y u)(rv:aO v r)
  (h1:∀x w' s',f k=some x->aO x w'->Inv X pins σ H s'->Q w' s')
  (h2:f k=none->∀H' s',Off a H H'->Dx H' a srt (gI f k v) (n+1)->Inv X pins σ H' s'->Q r s'):wpAny (model X.prog X.w) A (call (.builtin "dict.setdefault") [.ref a,u,r]) Q E s:=by
 have hT:=(yL I d).1;refine Ko OH hT PySem.F.entry_dict_setdefault ?_ (PySem.F.args_dict_setdefault_3 _ _ _);rcases d with⟨rfl,kvs,e,hf,hl⟩|⟨rfl,zs,e,hz,hf,hl⟩
 ·cases k with
  |inr _=>cases hs
  |inl k=>
   obtain⟨z,hd,vs,rel,dd⟩:=tQ I.hok e;have hvz:vs.length<=JP:=by rw[<-rel.length];exact z
   have hl':(nv kvs k v).length<=JP:=by have:=mw kvs k v;omega
   refine mi hT hd (kt_dictSetDefault_pairs (knd:=cH X.prog X.w) (hsz:=hvz) (qf hk ry) dd (fun w' hw=>?_) fun hno h' dd' hs'=>?_)
   ·have q:=rel.val k
    rw[hf k,hw]at q;cases ef:f (.inl k)with
    |none=>rw[ef]at q;exact(show False from q).elim
    |some x=>rw[ef]at q;exact⟨w',rfl,h1 x w' _ ef q (I.tok _)⟩
   ·have q:=rel.val k
    rw[hf k,hno]at q;have ef:f (.inl k)=none:=by
     cases ef:f (.inl k)with
     |none=>rfl
     |some x=>rw[ef]at q;exact(show False from q).elim
    exact⟨r,rfl,h2 ef _ _ lG (Ao e hf hl) (Dy I e hs' hl' hd (rel.put k rv) dd')⟩
 ·obtain⟨c,ks,rfl,rfl⟩:=qg hk hs
  cases ry;obtain⟨z,hd,xs,rel,dd⟩:=tR I.hok e hz;have hvz:xs.length<=JP:=by rw[<-rel.length];exact z
  have hl':(kC zs ks c v).length<=JP:=by have:=mI zs ks c v;omega
  refine mi hT hd (tS (X:=X) (knd:=lg X.prog X.w) hu (tP I.hok hk) dd (fun p hp=>?_) (fun hno h' dd' hs'=>?_) hvz)
  ·have q:=rel.val ks
   rw[hf ks,hp]at q;cases ef:f (.inr ks)with
   |none=>rw[ef]at q;exact(show False from q).elim
   |some x=>rw[ef]at q;exact⟨p.2,rfl,h1 x p.2 _ ef q (I.tok _)⟩
  ·have q:=rel.val ks
   rw[hf ks,hno]at q;have ef:f (.inr ks)=none:=by
    cases ef:f (.inr ks)with
    |none=>rfl
    |some x=>rw[ef]at q;exact(show False from q).elim
   exact⟨r,rfl,h2 ef _ _ lG (Ap (c:=c) e hz hk hf hl) (Dz I e hs' hl' hd (rel.put ks rv) dd')⟩
end
section
variable{X:Cx}
theorem pI(hu:X.A.units+64<cLine):OpR X (Lk .NotIn) (rn true):=by
 intro pins s σ H x y v u Q I rx ry h;obtain⟨a,srt,f,n,k,rfl,d,hk,hs,q⟩:=h;cases ry;exact GX (by omega) I d hk hs rx fun s' I'=>⟨.bl _,H,I',rfl,q⟩
theorem Aq{o i:Expr}{pos:Pos}{td ty:TE}(hu:X.A.units+64<cLine)(ho:PE X o td)(hi:PE X i ty)(hs:Er i):PE X (.Subscript o i pos) (tOp w9 td ty):=by
 intro pins s σ H Q I h;refine Ac Pn.lookup hs (thn (ho pins s σ H _ I h) fun u s1 ⟨x,H1,I1,rx,q1⟩=>thn (hi pins s1 σ H1 _ I1 q1) fun iv s2 ⟨y,H2,I2,ry,a,srt,f,n,k,v,ex,d,hk,hs',ev,q2⟩=>?_);subst ex;obtain rfl:u=J8 a:=rx;exact⟨(yL I2 d).1,Jf (by omega) I2 d hk hs' ry ev fun w' s3 I3 rw'=>⟨v,H2,I3,rw',q2⟩⟩
theorem Bb(hu:X.A.units+64<cLine):Ay X sn:=by
 intro pins s σ H o i v ov iv u Q I ro ri rv h;obtain⟨a,srt,f,n,k,rfl,d,hk,hs,hn,q⟩:=h;cases ro;exact Jg (by omega) I d hk hs hn ri rv fun H' s' o' d' I'=>⟨H',I',q H' o' d'⟩
theorem nP{pos:Pos}:PE X (.Dict [] [] pos) mU:=fun pins s σ H Q I h=>by
 obtain⟨srt,h⟩:=h;have hd:(s.heap.objs.size==LF)=false:=beq_eq_false_iff_ne.mpr (Lg (Kg I.big));have hp:=I.hok.fresh (JF s.heap.objs.size);cases srt with
 |false=>
  refine R7 ⟨.ref s.heap.objs.size,_,I.laid (a:=s.heap.objs.size) (o:=dA s.heap.objs.size []) (t':=s.toks) (fun _ _ q=>JA _ q) (JF _) (DA.ok ⟨Ks _,hd,X.prog,X.w,[],.nil,Heap.DictOf.new s.heap⟩),rfl,?_⟩;exact h _ _ hp (bc hp _) (.inl ⟨rfl,[],az,fun _=>rfl,JF _⟩)
 |true=>
  refine R7 ⟨.ref s.heap.objs.size,_,I.laid (a:=s.heap.objs.size) (o:=dB s.heap.objs.size []) (t':=s.toks) (fun _ _ q=>JA _ q) (JF _) (DB.ok ⟨Ks _,hd,[],.nil,_,#[],0,JM _ rfl,⟨rfl,rfl,rfl⟩,rfl,rfl,List.nodup_nil⟩),rfl,?_⟩;exact h _ _ hp (bc hp _) (.inr ⟨rfl,[],az,fun z hz=>(nomatch hz),fun _=>rfl,JF _⟩)
noncomputable def MtX(X:Cx)(id:String)(r:V->List V->Hp->VK->Prop):Prop:=
 ∀(pins:List (Addr×Obj))(s:Shared)(σ:St)(H:Hp)(x:V)(ys:List V)(u:Value)(us:List Value)(Q:VK),Inv X pins σ H s->aO x u->aL ys us->r x ys H Q->
  wpAny (model X.prog X.w) X.A (call (.builtin id) (u::us)) (EP X pins σ Q) X.xe s
theorem vv(hu:X.A.units+64<cLine):MtX X "dict.setdefault" xR:=by
 intro pins s σ H x ys u us Q I rx rys h;obtain⟨a,srt,f,n,k,y,v,rfl,rfl,d,hk,hs,hn,q1,q2⟩:=h;cases rx;cases rys with
 |cons r1 t1=>cases t1 with
  |cons r2 t2=>
   cases t2;exact IB (by omega) I d hk hs hn r1 r2 (fun x w' s' ef rw' I'=>⟨x,H,I',rw',q1 x ef⟩) fun ef H' s' o' d' I'=>⟨v,H',I',r2,q2 ef H' o' d'⟩
theorem Jh{o e:Expr}{es:List Expr}{name:Str}{id:String}{r:V->List V->Hp->VK->Prop}{to:TE}{t:TA}{apos cpos:Pos}(slot:Slot "dict" name id)(hty:typeOf (.builtin id)=pure (.type "method_descriptor"))(hm:MtX X id r)(ho:PE X o to)(ha:PA X (e::es) t)
  (hbase:MW o name X.env (eval o X.env)=eval o X.env:=by rfl)
  (hfew:((backTo cpos (J4 (e::es) X.env)).all (fun x=>!x.1)&&(N4 cpos (M8 [] X.env)).all (fun x=>x.1.isSome)
   &&decide ((e::es).length+([]:List Keyword).length+(if([]:List Keyword).isEmpty then 0 else 1)<30))=true:=by rfl)
  (hline:(apos.endLine==cpos.line)=true:=by rfl) (hs:J4 (e::es) X.env=(false,eval e X.env)::J4 es X.env:=by rfl) (hplain:(backTo cpos (J4 es X.env)).any (·.1)=false:=by rfl):
  PE X (.Call (.Attribute o name apos) (e::es) [] cpos) (tXM r to t):=by
 intro pins s σ H Q I h;refine NY hbase hfew hline rfl (thn (ho pins s σ H _ I h) fun v s1 ⟨x,H1,I1,r1,⟨a,srt,f,n,ex,d⟩,q1⟩=>?_);subst ex;obtain rfl:v=J8 a:=r1;obtain⟨h1,h2⟩:=yL I1 d;refine⟨"dict",id,PySem.F.plainAttrs_dict,slot,hty,h1,h2,?_⟩;have hA:=ha cpos pins s1 σ H1 _ I1 q1;rw[hs]at hA ⊢;refine M9 (by show(false||(backTo cpos (J4 es X.env)).any (·.1))=false;rw[hplain]<;>rfl) (Oj ?_);exact thn hA fun us s2 ⟨vs,H2,I2,r2,q2⟩=>hm pins s2 σ H2 (.ref a) vs (.ref a) us Q I2 rfl r2 q2
end
end
section
open PySem.Spec
section
variable{X:Cx}
end
end
section
open PySem.Spec
mutual
inductive Dat(K:Fg)(H:Hp):V->PyData->Prop where
 |non:Dat K H .non .none
 |bl (b:Bool):Dat K H (.bl b) (.bool b)
 |int (i:Int):Dat K H (.int i) (.int i)
 |str (x:Str):Dat K H (.str x) (.str x)
 |lst {a:Addr} {xs:List V} {ds:List PyData} (e:SqL K H a xs) (h:iZ K H xs ds):Dat K H (.ref a) (.list ds)
 |tup {a:Addr} {xs:List V} {ds:List PyData} (e:SqT K H a xs) (h:iZ K H xs ds):Dat K H (.ref a) (.tuple ds)
inductive iZ(K:Fg)(H:Hp):List V->List PyData->Prop where
 |nil:iZ K H [] []
 |cons {x:V} {xs:List V} {d:PyData} {ds:List PyData} (h:Dat K H x d) (t:iZ K H xs ds):iZ K H (x::xs) (d::ds)
end
section
variable{X:Cx}{pins:List (Addr×Obj)}{σ:St}{H:Hp}{s:Shared}
mutual
theorem Dat.reads(I:Inv X pins σ H s):∀{x:V} {d:PyData} {u:Value},Dat X.K H x d->aO x u->∃as,Reads s.heap u d as
 |_,_,_,.non,r=>by cases r;exact⟨_,.none⟩
 |_,_,_,.bl b,r=>by cases r;exact⟨_,.bool b⟩
 |_,_,_,.int i,r=>by obtain⟨t,rfl⟩:=r;exact⟨_,.int i t⟩
 |_,_,_,.str x,r=>by obtain⟨t,rfl⟩:=r;exact⟨_,.str x t⟩
 |_,_,_,.lst e h,r=>by
  cases r;obtain⟨its,rv,⟨o,n,h1,h2,h3,h4⟩,_⟩:=I.list e;obtain⟨as,ra⟩:=iZ.reads I h rv;exact⟨_,.list h1 h2 h4 (by simpa using ra)⟩
 |_,_,_,.tup e h,r=>by
  cases r;obtain⟨its,rv,⟨o,h1,h2,n,h3⟩,_⟩:=I.tuple e;obtain⟨as,ra⟩:=iZ.reads I h rv;exact⟨_,.tuple h1 h2 h3 (by simpa using ra)⟩
theorem iZ.reads(I:Inv X pins σ H s):∀{xs:List V} {ds:List PyData} {us:List Value},iZ X.K H xs ds->aL xs us->∃as,ReadsAll s.heap us ds as
 |_,_,_,.nil,.nil=>⟨_,.nil⟩
 |_,_,_,.cons h t,.cons r q=>by
  obtain⟨as,ra⟩:=Dat.reads I h r;obtain⟨bs,rb⟩:=iZ.reads I t q;exact⟨_,.cons ra rb⟩
end
end
noncomputable def Jw(K:Fg)(neg:Bool):R2:=fun x y H Q=>∃d e,Dat K H x d/\Dat K H y e/\MR d=true/\MR e=true/\Q (.bl (if neg then !PyData.eqv d e else NL d e)) H
section
variable{X:Cx}
theorem IC(hu:X.A.units+64<cLine):OpR X (Lk .Eq) (Jw X.K false):=by
 intro pins s σ H x y v u Q I rx ry h;obtain⟨d,e,hd,he,sd,se,q⟩:=h;obtain⟨as,ra⟩:=hd.reads I rx;obtain⟨bs,rb⟩:=he.reads I ry;exact eq_dataH ra rb sd se hu ⟨.bl (NL d e),H,I,rfl,q⟩
end
end
section
open PySem.Spec
mutual
theorem E7{K:Fg}{H:Hp}:∀{n:Nat} {x y:V},cu K H n x y->∃d,Dat K H x d/\Dat K H y d/\d.canLay0=true/\d.depth<=n
 |n,x,_,.flat h=>by
  cases x with
  |non=>exact⟨_,.non,.non,rfl,Ks _⟩
  |bl b=>exact⟨_,.bl b,.bl b,rfl,Ks _⟩
  |int i=>exact⟨_,.int i,.int i,rfl,Ks _⟩
  |_=>cases h
 |_,_,_,.str h=>⟨_,.str _,.str _,h,Ks _⟩
 |_,_,_,.lst (xs:=xs) (ys:=ys) e1 e2 hl h=>by
  obtain⟨ds,h1,h2,h3,h4⟩:=Bc xs ys hl h;exact⟨_,.lst e1 h1,.lst e2 h2,h3,R8 h4⟩
 |_,_,_,.tup (xs:=xs) (ys:=ys) e1 e2 hl h=>by
  obtain⟨ds,h1,h2,h3,h4⟩:=Bc xs ys hl h;exact⟨_,.tup e1 h1,.tup e2 h2,h3,R8 h4⟩
theorem Bc{K:Fg}{H:Hp}{n:Nat}:∀(xs ys:List V),xs.length=ys.length->(∀(i:Nat)(x y:V),xs[i]?=some x->ys[i]?=some y->cu K H n x y)->∃ds,iZ K H xs ds/\iZ K H ys ds/\LZ ds=true/\Mj ds<=n
 | [],[],_,_=>⟨[],.nil,.nil,rfl,Ks _⟩
 |x::xs,y::ys,hl,h=>by
  obtain⟨d,a1,a2,a3,a4⟩:=E7 (h 0 x y rfl rfl);obtain⟨ds,b1,b2,b3,b4⟩:=Bc xs ys (by simpa using hl) (fun i x y hx hy=>h (i+1) x y hx hy);refine⟨d::ds,.cons a1 b1,.cons a2 b2,?_,?_⟩
  ·show(d.canLay0&&LZ ds)=true
   rw[a3,b3];rfl
  ·show max d.depth (Mj ds)<=n
   omega
 | [],_::_,hl,_=>by simp at hl
 |_::_,[],hl,_=>by simp at hl
end
section
variable{X:Cx}
theorem E8(hu:X.A.units+64<cLine):OpR X (Lk .Eq) (j4 X.K false):=by
 intro pins s σ H x y v u Q I rx ry h;obtain⟨n,hn,hd,q⟩:=h;obtain⟨d,h1,h2,h3,h4⟩:=E7 hd;obtain⟨as,ra⟩:=h1.reads I rx;obtain⟨bs,rb⟩:=h2.reads I ry;have sh:MR d=true:=by unfold MR;rw[h3,decide_eq_true (by omega)];rfl
 refine eq_dataH ra rb sh sh hu ⟨.bl true,H,I,?_,q⟩;rw[SeqAt.eqv_refl d h3];rfl
theorem rG(hu:X.A.units+64<cLine):OpR X (Lk .NotEq) (j4 X.K true):=by
 intro pins s σ H x y v u Q I rx ry h;obtain⟨n,hn,hd,q⟩:=h;obtain⟨d,h1,h2,h3,h4⟩:=E7 hd;obtain⟨as,ra⟩:=h1.reads I rx;obtain⟨bs,rb⟩:=h2.reads I ry;have sh:MR d=true:=by unfold MR;rw[h3,decide_eq_true (by omega)];rfl
 refine ne_dataH ra rb sh sh hu ⟨.bl false,H,I,?_,q⟩;rw[SeqAt.eqv_refl d h3];rfl
end
end
section
open PySem.Spec
theorem yM{scope:Scope}{env:Env}{x:Str}(h:scope.names.lookup x=some .cell\/scope.names.lookup x=some .free):(relabel scope env).names.lookup x=some .cell\/(relabel scope env).names.lookup x=some .free:=by
 have go:∀ns:List (Str×Kt),(ns.lookup x=some .cell\/ns.lookup x=some .free)->
   (ns.map fun(n,k)=>if(k==Lh&&env.scope.kind== .function&&env.kindOf n==some .cell)then(n,Np)else(n,k)).lookup x=some .cell\/
   (ns.map fun(n,k)=>if(k==Lh&&env.scope.kind== .function&&env.kindOf n==some .cell)then(n,Np)else(n,k)).lookup x=some .free:=by
  intro ns
  induction ns with
  |nil=>intro q;rcases q with q|q<;>simp at q
  |cons y r ih=>
   obtain⟨n,k'⟩:=y;intro q;rw[JZ];rw[KC]at q;by_cases hc:(k'==Lh&&env.scope.kind== .function&&env.kindOf n==some .cell)=true
   ·simp only[hc,if_true]
    rw[KC];cases e:x==n with
    |true=>exact .inl rfl
    |false=>rw[e]at q;exact ih q
   ·simp only[hc]
    rw[if_neg (by simp),KC];cases e:x==n with
    |true=>rw[e]at q;exact q
    |false=>rw[e]at q;exact ih q
 exact go scope.names h
theorem DC{inner outer:Scope}{cl:List (Str×Addr)}{C:Addr}{env:Env}(h:∀y∈inner.names,y.2=.free->outer.names.lookup y.1=some .cell\/outer.names.lookup y.1=some .free):
  ∀y∈inner.names,y.2=.free->(N5 outer cl C env).scope.names.lookup y.1=some .cell\/(N5 outer cl C env).scope.names.lookup y.1=some .free:=fun y hy hk=>yM (h y hy hk)
end
end L2
section
namespace L2
open PySem
noncomputable def Rs(xs:List Nat):Prop:=xs.Pairwise (· < ·)
theorem wb(xs:Array Nat)(i d:Nat)(h:i<xs.size):xs.getD i d=xs.toList[i]'(by simpa using h):=by
 rw[QL,dif_pos h];simp
theorem vx(xs:Array Nat)(j:Nat)(hr:Rs xs.toList):∀(fuel lo hi:Nat),hi-lo<=fuel->lo<=hi->hi<=xs.size->(∀i (h:i<xs.toList.length),i<lo->xs.toList[i]<j)->(∀i (h:i<xs.toList.length),hi<=i->j<=xs.toList[i])->
  lo<=Mn xs j fuel lo hi/\Mn xs j fuel lo hi<=hi/\(∀i (h:i<xs.toList.length),i<Mn xs j fuel lo hi->xs.toList[i]<j)/\(∀i (h:i<xs.toList.length),Mn xs j fuel lo hi<=i->j<=xs.toList[i])
 |0,lo,hi,hf,hl,hs,h1,h2=>by
  have e:hi=lo:=by omega
  subst e;exact⟨JF _,JF _,h1,h2⟩
 |fuel+1,lo,hi,hf,hl,hs,h1,h2=>by
  have eq:Mn xs j (fuel+1) lo hi=(if lo<hi then(if xs.getD ((lo+hi)/2) j<j then Mn xs j fuel ((lo+hi)/2+1) hi else Mn xs j fuel lo ((lo+hi)/2))else lo):=rfl;by_cases hlt:lo<hi
  ·have hm:(lo+hi)/2<xs.size:=by omega
   have hm':(lo+hi)/2<xs.toList.length:=by simpa using hm
   have pw:=MI.mp hr;rw[if_pos hlt,wb xs _ _ hm]at eq;by_cases hc:xs.toList[(lo+hi)/2]<j
   ·rw[if_pos hc]at eq
    obtain⟨a,b,c,d⟩:=vx xs j hr fuel ((lo+hi)/2+1) hi (by omega) (by omega) hs (fun i h hi'=>by
     rcases Rj i ((lo+hi)/2)with z|z
     ·have:=pw i ((lo+hi)/2) h hm' z
      omega
     ·have e:i=(lo+hi)/2:=by omega
      subst e;exact hc) h2
    rw[eq];exact⟨by omega,b,c,d⟩
   ·rw[if_neg hc]at eq
    obtain⟨a,b,c,d⟩:=vx xs j hr fuel lo ((lo+hi)/2) (by omega) (by omega) (by omega) h1 (fun i h hi'=>by
     rcases Rj ((lo+hi)/2) i with z|z
     ·have:=pw ((lo+hi)/2) i hm' h z
      omega
     ·have e:i=(lo+hi)/2:=by omega
      subst e;omega)
    rw[eq];exact⟨a,by omega,c,d⟩
  ·rw[if_neg hlt]at eq
   have e:hi=lo:=by omega
   subst e;rw[eq];exact⟨JF _,JF _,h1,h2⟩
theorem kM(xs:Array Nat)(j:Nat)(hr:Rs xs.toList):J7 xs j<=xs.size/\(∀i (h:i<xs.toList.length),i<J7 xs j->xs.toList[i]<j)/\(∀i (h:i<xs.toList.length),J7 xs j<=i->j<=xs.toList[i]):=by
 obtain⟨_,b,c,d⟩:=vx xs j hr xs.size 0 xs.size (by omega) (Ks _) (JF _) (fun i h z=>absurd z (M4 _)) (fun i h z=>absurd (by simpa using h) (Po.mpr z));exact⟨b,c,d⟩
theorem Bd(xs:Array Nat)(hr:Rs xs.toList){i:Nat}(h:i<xs.toList.length):J7 xs (xs.toList[i]+1)=i+1:=by
 obtain⟨b,c,d⟩:=kM xs (xs.toList[i]+1) hr;have pw:=MI.mp hr;rcases Pj (J7 xs (xs.toList[i]+1)) (i+1)with z|z|z
 ·have:=d i h (by omega)
  omega
 ·exact z
 ·have hi:i+1<xs.toList.length:=by simp at *;omega
  have:=c (i+1) hi (by omega);have:=pw i (i+1) h hi (by omega);omega
theorem Be(xs:Array Nat)(hr:Rs xs.toList):J7 xs 0=0:=by
 obtain⟨b,c,_⟩:=kM xs 0 hr;rcases NC (J7 xs 0)with z|z
 ·exact z
 ·have h0:0<xs.toList.length:=by simp;omega
  have:=c 0 h0 z;omega
theorem ID(xs:Array Nat)(hr:Rs xs.toList){j:Nat}(hj:j∉xs.toList):Rs (J3.insertAt xs (J7 xs j) j).toList:=by
 obtain⟨b,c,d⟩:=kM xs j hr;rw[J3.toList_insertAt];have hr':(xs.toList.take (J7 xs j)++xs.toList.drop (J7 xs j)).Pairwise (· < ·):=by rw[Nj];exact hr
 rw[Ou]at hr';obtain⟨p1,p2,p3⟩:=hr';have lo:∀a∈xs.toList.take (J7 xs j),a<j:=fun a ha=>by
  obtain⟨i,hi,rfl⟩:=Ov.mp ha;rw[List.getElem_take];have hi':i<min (J7 xs j) xs.toList.length:=by simpa using hi
  exact c i (by omega) (by omega)
 have hi:∀a∈xs.toList.drop (J7 xs j),j<a:=fun a ha=>by
  obtain⟨i,hi,rfl⟩:=Ov.mp ha;rw[List.getElem_drop];have hl:i<xs.toList.length-J7 xs j:=by simpa using hi
  have h1:J7 xs j+i<xs.toList.length:=by omega
  have:=d _ h1 (Lz _ _);rcases NF this with z|z
  ·exact z
  ·exact absurd (z▸MQ h1) hj
 refine Ou.mpr ⟨p1,OW.mpr ⟨hi,p2⟩,fun a ha x hx=>?_⟩;rcases JH.mp hx with rfl|hx
 ·exact lo a ha
 ·exact p3 a ha x hx
theorem E9{xs:Array Nat}(hr:Rs xs.toList){j:Nat}(h:¬(xs[J7 xs j]? ==some j)=true):j∉xs.toList:=fun hm=>by
 obtain⟨b,c,d⟩:=kM xs j hr;obtain⟨k,hk,e⟩:=Ov.mp hm;have pw:=MI.mp hr;have h1:J7 xs j<=k:=Py fun z=>by
  have:=c k hk z;omega
 have h2:J7 xs j=k:=by
  rcases NF h1 with z|z
  ·have hl:J7 xs j<xs.toList.length:=by omega
   have:=d _ hl (JF _);have:=pw _ k hl hk z;omega
  ·exact z
 refine h ?_;rw[h2,<-Mz,JD hk,e];exact beq_self_eq_true _
theorem DD{t:J3}(hr:Rs t.place.toList){j:Nat}(h:∀i,t.slot j≠.live i):j∉t.place.toList:=by
 refine E9 hr fun z=>?_;have:=h (J7 t.place j);unfold J3.slot at this;rw[if_pos z]at this;exact this rfl
theorem nQ{t:J3}{f:Nat->Int}{h:Int}:∀(fuel:Nat)(p:J3.Probe){j:Nat}{d:Option Nat},(∀x,p.dummy=some x->∀i,t.slot x≠.live i)->Rw t f h fuel p=some (.empty j d)->∀i,t.slot (d.getD j)≠.live i
 |0,_,_,_,_,e=>by cases e
 |fuel+1,p,j,d,hd,e=>by
  have ha:∀q:J3.Probe,(t.advance q).dummy=q.dummy:=fun q=>by
   unfold J3.advance
   split<;>rfl
  unfold Rw at e;cases hs:t.slot p.j with
  |empty=>
   rw[hs]at e;injection e with e
   injection e with e1 e2
   subst e1 e2;intro i;cases hx:p.dummy with
   |none=>show t.slot p.j≠_;rw[hs];intro z;cases z
   |some x=>exact hd x hx i
  |dummy=>
   rw[hs]at e;refine nQ fuel _ (fun x hx i=>?_) e;rw[ha]at hx;cases hx;rw[hs];intro z;cases z
  |live k=>
   rw[hs]at e;dsimp only at e
   split at e
   ·cases e
   ·exact nQ fuel _ (fun x hx=>hd x (by rw[ha]at hx;exact hx)) e
theorem Bf{t:J3}(hr:Rs t.place.toList){h:Int}{j:Nat}{b:Bool}(e:t.freeSlot h=some (j,b)):j∉t.place.toList:=by
 unfold J3.freeSlot at e
 split at e
 ·rename_i j' d' he
  cases e;exact DD hr (nQ _ _ (fun x hx=>by cases hx) he)
 ·cases e
theorem Fa(n:Nat):Rs (Array.range n).toList:=by
 rw[Array.toList_range];exact NZ
theorem kN(t:J3)(n:Nat):Rs (t.standIn n).place.toList:=Fa n
theorem DE{t:J3}(hr:Rs t.place.toList)(es:Array (Int×Value))(h:Int)(x:Value):Rs (layNew t es h x).2.1.place.toList/\(layNew t es h x).2.1.led=t.led:=by
 unfold layNew
 split
 ·rename_i slot wd he
  dsimp only;unfold J3.orStandIn
  split
  ·exact⟨ID _ hr (Bf hr he),rfl⟩
  ·exact⟨kN _ _,rfl⟩
 ·exact⟨kN _ _,rfl⟩
theorem GY{mask finger moves:Nat}{led plain:Bool}{hs:Array Int}{t:J3}{o:Array Nat}(e:J3.laid mask finger moves led plain hs=some (t,o)):Rs t.place.toList/\t.led=led:=by
 unfold J3.laid at e;obtain⟨owner,_,e⟩:=Option.bind_eq_some_iff.mp e;cases e;refine⟨?_,rfl⟩;show((((JT (mask+1)).filterMap fun j=>(owner.getD j none).map (j,·)).map (·.1)).toArray).toList.Pairwise (· < ·);have sub:List.Sublist (((JT (mask+1)).filterMap fun j=>(owner.getD j none).map (j,·)).map (·.1)) (JT (mask+1)):=by
  rw[List.map_filterMap];have:∀l:List Nat,List.Sublist (l.filterMap fun j=>((owner.getD j none).map (j,·)).map (·.1)) l:=by
   intro l
   induction l with
   |nil=>exact .slnil
   |cons a l ih=>
    rw[Nu];cases owner.getD a none with
    |none=>exact .cons _ ih
    |some v=>exact .cons₂ _ ih
  exact this _
 exact NZ.sublist sub
theorem zD{t:J3}(hr:Rs t.place.toList)(es:Array (Int×Value))(wanted:Nat):Rs (OI t es wanted).2.1.place.toList/\(OI t es wanted).2.1.led=t.led:=by
 unfold OI
 split
 ·rename_i t' order he
  dsimp only
  split
  ·exact GY he
  ·exact⟨kN _ _,rfl⟩
 ·exact⟨kN _ _,rfl⟩
end L2
end
section
namespace L2
open PySem
section
variable{prog:Program}{w:World}{K:Type}[DecidableEq K]{knd:KeyKind prog w K}{A:Around}{E:Value->Shared->Prop}{s:Shared}
noncomputable def Ent(knd:KeyKind prog w K)(k:K)(e:Int×Value):Prop:=knd.is k e.2=true/\e.1=knd.hash k/\e.2.scannable=true
inductive cp{α β:Type}(F:α->β->Prop):List α->List β->Prop
 |nil:cp F [] []
 |cons {a b l m}:F a b->cp F l m->cp F (a::l) (b::m)
theorem cp.len{α β:Type}{F:α->β->Prop}{l:List α}{m:List β}(h:cp F l m):l.length=m.length:=by
 induction h with
 |nil=>rfl
 |cons _ _ ih=>rw[Kd,Kd,ih]
theorem cp.app{α β:Type}{F:α->β->Prop}{l l':List α}{m m':List β}(h:cp F l m)(h':cp F l' m'):cp F (l++l') (m++m'):=by
 induction h with
 |nil=>exact h'
 |cons r _ ih=>exact .cons r ih
theorem cp.right{α β:Type}{F:α->β->Prop}{l:List α}{m:List β}(h:cp F l m):∀b∈m,∃a∈l,F a b:=by
 induction h with
 |nil=>intro b hb;cases hb
 |cons r _ ih=>
  intro b hb;rcases JH.mp hb with rfl|hb
  ·exact⟨_,JI,r⟩
  ·obtain⟨a,ha,f⟩:=ih b hb
   exact⟨a,JO _ ha,f⟩
theorem cp.perm{α β:Type}{F:α->β->Prop}{m m':List β}(p:Ld m m'):∀{l:List α},cp F l m->∃l',Ld l l'/\cp F l' m':=by
 induction p with
 |nil=>intro l h;cases h;exact⟨[],.nil,.nil⟩
 |cons b _ ih=>
  intro l h;cases h with
  |cons r t=>
   obtain⟨l',p,q⟩:=ih t;exact⟨_::l',.cons _ p,.cons r q⟩
 |swap b c m=>
  intro l h;cases h with
  |cons r t=>cases t with
   |cons r' t'=>exact⟨_,.swap _ _ _,.cons r' (.cons r t')⟩
 |trans _ _ ih1 ih2=>
  intro l h;obtain⟨l1,p1,q1⟩:=ih1 h;obtain⟨l2,p2,q2⟩:=ih2 q1;exact⟨l2,p1.trans p2,q2⟩
noncomputable def dg(knd:KeyKind prog w K)(h:Heap)(a:Addr)(ks:List K)(led:Bool):Prop:=
 ∃o es ep t,h.get? a=some o/\o.ExactSet/\o.data=.set es ep t/\cp (Ent knd) ks es.toList/\ks.Nodup/\es.size<NG/\t.fits es.size=true/\Rs t.place.toList/\t.led=led
theorem IE{ks:List K}{l:List (Int×Value)}(h:cp (Ent knd) ks l):ElemsOf knd l:=fun e he=>by
 obtain⟨k,_,f1,f2,f3⟩:=h.right e he;exact⟨⟨k,f1,f2⟩,f3⟩
theorem stored{h:Heap}{a:Addr}{o:Obj}{es es':Array (Int×Value)}{ep:Nat}{t t':J3}{ks':List K}{led:Bool}(g1:h.get? a=some o)(g2:o.ExactSet)(g3:o.data=.set es ep t)(pr:cp (Ent knd) ks' es'.toList)(nd:ks'.Nodup)(sb:es'.size<NG)(ft:t'.fits es'.size=true)(rs:Rs t'.place.toList)(ld:t'.led=led):
  (h.update a (Pp es' t')).get? a=some { o with data:=.set es' (ep+1) t' }/\dg knd (h.update a (Pp es' t')) a ks' led:=by
 have hg:(h.update a (Pp es' t')).get? a=some { o with data:=.set es' (ep+1) t' }:=by
  have z:=KH (Pp es' t') g1 (by rw[putSet_of _ _ g3];rfl);rw[z,putSet_of _ _ g3]
 exact⟨hg,_,es',ep+1,t',hg,g2,rfl,pr,nd,sb,ft,rs,ld⟩
theorem Fb{ks:List K}{l:List (Int×Value)}{k:K}(h:cp (Ent knd) ks l){j:Nat}(e:l.findIdx? (fun e=>knd.is k e.2)=some j):k∈ks:=by
 obtain⟨hj,hp,_⟩:=L9.mp e;obtain⟨k',hk',f1,_⟩:=h.right _ (MQ hj);exact knd.inj _ _ _ hp f1▸hk'
theorem DF{ks:List K}{l:List (Int×Value)}{k:K}(h:cp (Ent knd) ks l)(e:l.findIdx? (fun e=>knd.is k e.2)=none):k∉ks:=by
 have n:=Nx.mp e
 induction h with
 |nil=>intro z;cases z
 |cons r _ ih=>
  intro z;rcases JH.mp z with rfl|z
  ·have:=n _ JI
   rw[r.1]at this;cases this
  ·exact ih (Nx.mpr fun e he=>n e (JO _ he)) (fun e he=>n e (JO _ he)) z
theorem wc{g:Bool->Sem Unit}(hg:∀(b:Bool)(z:Shared)(P:Unit->Shared->Prop),P () z->wpAny (model prog w) A (g b) P E z){a:Addr}{o:Obj}{es fs:Array (Int×Value)}{ep:Nat}{t u:J3}{ks:List K}{led wd:Bool}
  (g1:s.heap.get? a=some o) (g2:o.ExactSet) (g3:o.data=.set es ep t) (kq:cp (Ent knd) ks fs.toList) (nd:ks.Nodup) (sb:fs.size<NG) (fu:u.fits fs.size=true) (ru:Rs u.place.toList) (lu:u.led=led) {R:Option Bool->Shared->Prop}
  (q:∀h' ks',J0 a s.heap h'->dg knd h' a ks' led->Ld ks' ks->R (some true) { s with heap:=h' }):
  wpAny (model prog w) A (storeSet a fs u>>=fun _=>if(!wd&&u.tooFull)=true then(g (OI u fs (ML fs.size)).2.2>>=fun _=>storeSet a (OI u fs (ML fs.size)).1 (OI u fs (ML fs.size)).2.1>>=fun _=>pure (some true))else pure (some true)) R E s:=by
 apply Jz;refine Rx g1 g3 ?_ (Ry sb);obtain⟨g4,R1⟩:=stored (knd:=knd) g1 g2 g3 kq nd sb fu ru lu;have b1:=KI s.heap a (Pp fs u)
 split
 ·have pm:=relayAll_perm u fs (ML fs.size)
  have pf:=relayAll_fits u fs (ML fs.size);have⟨pr,pl⟩:=zD ru fs (ML fs.size);generalize OI u fs (ML fs.size)=L at *;obtain⟨fs',u',gv⟩:=L;dsimp only at pm pf pr pl ⊢;obtain⟨ks',kp,kq'⟩:=cp.perm pm.symm kq;have hz:fs'.size=fs.size:=by rw[<-Kj,pm.length_eq,Kj]
  apply Jz;apply hg;apply Jz;refine Rx g4 rfl ?_ (Ry (by rw[hz];exact sb));obtain⟨_,R2⟩:=stored (knd:=knd) g4 g2 rfl kq' (kp.nodup_iff.mp nd) (by rw[hz];exact sb) pf pr (pl.trans lu);exact JC (q _ ks' (b1.trans (KI _ a _)) R2 kp.symm)
 ·exact JC (q _ ks b1 R1 (Ld.refl _))
theorem GZ{a:Addr}{ks:List K}{led:Bool}{k:K}{x:Value}{Q:Bool->Shared->Prop}(hk:knd.is k x=true)(hx:x.scannable=true)(R:dg knd s.heap a ks led)(room:ks.length+1<NG)
  (q:∀h' ks' b,J0 a s.heap h'->dg knd h' a ks' led->(∀y,y∈ks'↔y∈ks\/y=k)->ks'.length<=ks.length+1->Q b { s with heap:=h' }):wpAny (model prog w) A (setAddHashed a x (knd.hash k)) Q E s:=by
 obtain⟨o,es,ep,t,g1,g2,g3,pr,nd,sb,ft,rs,ld⟩:=id R;have el:=IE pr;have hlen:ks.length=es.size:=by rw[pr.len,Kj]
 unfold setAddHashed setAddHashedIn;apply K4;apply Jz;apply Lf g1 g3 ft;dsimp only;rw[if_pos (byScan_of hx sb el)];unfold setAddByScan;apply Jz;apply Jz;apply Ma;apply Jz;apply wpAny_setScan_of hk g1 g3 ft el;cases fe:List.findIdx? (fun e=>knd.is k e.2) es.toList with
 |some j=>
  dsimp only;apply JC;apply JC;have z:=q s.heap ks false (Rz a s.heap) R (fun y=>⟨.inl,fun h=>h.elim id fun e=>e▸Fb pr fe⟩) (L8 _);cases s;exact z
 |none=>
  dsimp only;have hk0:=DF pr fe;have pm:=layNew_perm t es (knd.hash k) x;have pf:=layNew_fits t es (knd.hash k) x;have⟨pr1,pl1⟩:=DE rs es (knd.hash k) x;generalize layNew t es (knd.hash k) x=L at *;obtain⟨es1,t1,wd,gv⟩:=L;dsimp only at pm pf pr1 pl1 ⊢;rw[Pl]at pm;obtain⟨ks1,kp,kq⟩:=cp.perm pm.symm (pr.app (.cons (⟨hk,rfl,hx⟩:Ent knd k (knd.hash k,x)) .nil));have hz:es1.size=es.size+1:=by rw[<-Kj,pm.length_eq,JX,Kj];rfl
  have sb1:es1.size<NG:=by rw[hz,<-hlen];exact room
  have nd1:ks1.Nodup:=kp.nodup_iff.mp (Rv.mpr ⟨nd,PM _ _,fun y hy z hz' e=>hk0 (by rw[JE]at hz';rw[<-hz',<-e];exact hy)⟩);have fin:∀h' ks',J0 a s.heap h'->dg knd h' a ks' led->Ld ks' ks1->Q true { s with heap:=h' }:=fun h' ks' b R' pp=>
   q h' ks' true b R' (fun y=>by rw[pp.mem_iff,<-kp.mem_iff,Ka,JE]) (by rw[pp.length_eq,<-kp.length_eq,JX];exact JF _)
  apply Jz;have gw:∀(b:Bool)(z:Shared)(P:Unit->Shared->Prop),P () z->wpAny (model prog w) A (match b with|true=>rule "set.scan.the-table-gave-way"|false=>pure ()) P E z:=fun b z P hP=>by cases b<;>first|exact JC hP|exact Ma hP
  refine gw gv _ _ ?_
  split
  ·apply Jz
   rw[hashByValue_scannable 8 hx];apply JC;refine wc (led:=led) (fun b z P hP=>by cases b<;>first|exact JC hP|exact Ma hP) g1 g2 g3 kq nd1 sb1 ?_ ?_ ?_ fun h' ks' b R' pp=>?_
   ·split
    ·exact pf
    ·exact J3.fits_plain_off pf
   ·split<;>exact pr1
   ·split<;>exact pl1.trans ld
   ·exact JC (fin h' ks' b R' pp)
  ·apply Jz
   apply JC;simp only[↓reduceIte];refine wc (led:=led) (fun b z P hP=>by cases b<;>first|exact JC hP|exact Ma hP) g1 g2 g3 kq nd1 sb1 pf pr1 (pl1.trans ld) fun h' ks' b R' pp=>?_;exact JC (fin h' ks' b R' pp)
end
end L2
end
namespace L2
open PySem PyProof.Rows
section
open PySem.Spec
section
variable{prog:Program}{w:World}{K:Type}[DecidableEq K]{knd:KeyKind prog w K}{A:Around}{R:Result->Shared->Prop}{I:Addr}{fp wr:List Addr}{G:Array Qy->Array Qy->Prop}{n:Nat}{P:Nat->Value->Prop}{St:Nat->Shared->Prop}
theorem dg.at{h h':Heap}{a:Addr}{ks:List K}{led:Bool}(r:dg knd h a ks led)(k:∀o,h.get? a=some o->h'.get? a=some o):dg knd h' a ks led:=by
 obtain⟨o,es,ep,t,e,z⟩:=r;exact⟨o,es,ep,t,k o e,z⟩
theorem Fc(W:WalksS prog w A.in1 I fp wr G n P St)(S:Addr)(free:S∉fp)(key:Nat->K)(hkey:∀i v,P i v->knd.is (key i) v=true/\v.scannable=true)(room:n+1<NG){led:Bool}:
  ∀(m i:Nat)(s:Shared)(ks:List K),n-i=m->i<=n->St i s->dg knd s.heap S ks led->(∀y,y∈ks↔∃j,j<i/\key j=y)->ks.length<=i->
   (∀s' ks',Moved (S::wr) G s s'->dg knd s'.heap S ks' led->(∀y,y∈ks'↔∃j,j<n/\key j=y)->R (.ok (.ret .none)) s')->
   codeAny (model prog w) A (.builtin "set.update.loop" ⟨[.ref S,.ref I],[]⟩) R s:=by
 have nw:S∉wr:=fun z=>free (W.sub _ z);have up:∀b∈wr,b∈S::wr:=fun b z=>JO _ z;intro m
 induction m with
 |zero=>
  intro i s ks hm hi st r mem len done;obtain rfl:i=n:=by omega
  apply Lx PN;rw[Lb NQ _];show wpAny _ A.in1 (pyNext (.ref I)>>=_) _ _ s;apply Jz;refine W.done s _ _ st fun z mv=>?_;show wpAny _ A.in1 (ret K8) _ _ z;exact JC (done z ks (mv.mono up) (r.at fun o e=>mv.heap S _ nw e) mem)
 |succ m ih=>
  intro i s ks hm hi st r mem len done;have lt:i<n:=by omega
  apply Lx PN;rw[Lb NQ _];show wpAny _ A.in1 (pyNext (.ref I)>>=_) _ _ s;apply Jz;refine W.item i s _ _ lt st fun v z pv stz mv=>?_;obtain⟨kv,sv⟩:=hkey i v pv;have rz:dg knd z.heap S ks led:=r.at fun o e=>mv.heap S _ nw e;show wpAny _ A.in1 (holding [v] (setAdd S v)>>=_) _ _ z;apply Jz;apply K4;unfold setAdd;apply K4;apply Jz;refine knd.pyHash kv ?_;refine GZ (s:={ z with toks:=z.toks+1 }) kv sv rz (by omega) fun h' ks' b sb r' mem' len'=>?_;refine JC ⟨Mo NQ _,ih (i+1) _ ks' (by omega) lt (W.frame _ z _ _ stz (L8 _) fun c hc o e=>?_) r' (fun y=>?_) (by omega) fun z' ks2 mv2 r2 mem2=>?_⟩
  ·rw[sb.2 c (fun e':c=S=>free (by rw[<-e'];exact hc))]
   exact e
  ·rw[mem',mem]
   constructor
   ·rintro(⟨j,hj,e⟩|e)
    ·exact⟨j,by omega,e⟩
    ·exact⟨i,by omega,e.symm⟩
   ·rintro⟨j,hj,e⟩
    rcases Rj j i with q|q
    ·exact .inl ⟨j,q,e⟩
    ·have:j=i:=by omega
     subst this;exact .inr e.symm
  ·refine done z' ks2 (Moved.trans W.gtrans ((mv.mono up).then_heap (L8 _) fun c o hc e=>?_) mv2) r2 mem2
   rw[sb.2 c (fun e':c=S=>hc (by rw[e'];exact JI))];exact e
end
end
section
open PySem.Spec
section
variable{prog:Program}{w:World}{A:Around}{E:Value->Shared->Prop}{s:Shared}
noncomputable def dG(w:World):Bool:=w.params.followText "set-order"
noncomputable abbrev mJ(w:World):Obj:={ cls:=.type "set",dict:=none,data:=.set #[] 0 (.fresh 0 0 (!dG w)) }
theorem Fd(x:Value){Q:Value->Shared->Prop}(q:Q (.ref s.heap.objs.size) { s with heap:=s.heap.push (mJ w) }):codeAny (model prog w) A (.call (.builtin "set.__new__") ⟨[.type "set",x],[]⟩) (wants Q E) s:=by
 apply P5;show wpAny _ A.in1 (do R9 "set.__new__" ⟨[.type "set",x],[]⟩;again (.builtin "set.__new__" ⟨[.type "set",x],[]⟩)) _ _ s;apply Jz;apply OL (PySem.F.newCall_set_1 x);refine JC ⟨Mo Qr _,?_⟩;apply Lx PySem.F.entry_set_new;rw[Lb Qr _];unfold Builtin.«set.__new__»;unfold Builtin.Frozenset.newClass;have self_:=sub_set_self;obtain⟨hp,g,d,tk,os⟩:=s;dsimp only
 wp_walk
 apply PH;apply JC;dsimp only;simp only[newObj];apply Jz;apply wpAny_alloc;apply JC;exact JC q
theorem dg.new{K:Type}[DecidableEq K]{knd:KeyKind prog w K}{h:Heap}{a:Addr}(e:h.get? a=some (mJ w)):dg knd h a [] (!dG w):=
 ⟨_,#[],0,_,e,⟨rfl,rfl,rfl⟩,rfl,.nil,.nil,by decide,rfl,.nil,rfl⟩
end
end
section
open PySem.Spec
section
variable{prog:Program}{w:World}{K:Type}[DecidableEq K]{knd:KeyKind prog w K}{A:Around}{E:Value->Shared->Prop}{s:Shared}
theorem G0{l:Addr}{xs:Array Value}(key:Nat->K){Q:Value->Shared->Prop}(calm:A.handled=none)(hl:s.heap.IsList l xs)(hkey:∀i v,xs[i]?=some v->knd.is (key i) v=true/\v.scannable=true)(room:xs.size+1<NG)
  (q:∀(h':Heap)(tk:Nat)(ks:List K),dg knd h' s.heap.objs.size ks (!dG w)->(∀y,y∈ks↔∃j,j<xs.size/\key j=y)->(∀b o,b<s.heap.objs.size->s.heap.get? b=some o->h'.get? b=some o)->Q (.ref s.heap.objs.size) { s with heap:=h',toks:=tk }):
  wpAny (model prog w) A (call (.type "set") [.ref l]) Q E s:=by
 have ft:=PySem.F.called_set;obtain⟨c0,tl0,mro0⟩:=ft.mro;have made0:=ft.made;have sub0:=ft.sub;have not0:=ft.notType;have can0:=ft.canCreate;have chk0:=PySem.F.typeCall_set_1 (.ref l);apply Sh;apply P5;show wpAny _ _ (callAny (.type "set") _) _ _ _;refine JC ⟨Code.quiet_builtin _ (by decide+kernel),?_⟩;apply Lx PySem.F.entry_type_call;rw[Around.under_plain (weight_type_call_type "set" [.ref l] []) rfl]
 repeat (any_goals (first|assumption|wp_step))
 refine MN (Fd (.ref l) (E:=E) (Q:=fun ob z=>ob=.ref s.heap.objs.size/\z={ s with heap:=s.heap.push (mJ w) }) ⟨rfl,rfl⟩) fun r z hz=>?_;cases r with
 |error e=>exact hz
 |ok fl=>
  cases fl with
  |next=>exact hz.elim
  |brk=>exact hz.elim
  |cont=>exact hz.elim
  |ret ob=>
   obtain⟨rfl,rfl⟩:=hz;have got:(s.heap.push (mJ w)).get? s.heap.objs.size=some (mJ w):=JM _ rfl;have isT:O7 { s with heap:=s.heap.push (mJ w) } (.ref s.heap.objs.size) "set":=⟨_,got,rfl⟩;have look0:=ft.init.lookup;have bind0:=ft.init.bind (.ref s.heap.objs.size)
   repeat (any_goals (first|assumption|wp_step))
   refine MN (codeAny_call_builtin (R:=wants (fun r z=>r=.none/\∃h' tk ks,z={ s with heap:=h',toks:=tk }/\dg knd h' s.heap.objs.size ks (!dG w)/\(∀y,y∈ks↔∃j,j<xs.size/\key j=y)/\∀b o,b<s.heap.objs.size->s.heap.get? b=some o->h'.get? b=some o) E) ft.init.plain PySem.F.entry_set_init (check_set_init_1 isT ?_)) fun r z hz=>?_
   ·obtain⟨ob,gl,cl,nl,dl⟩:=hl
    obtain⟨a1,a2,a3,a4⟩:=ob;simp only at cl dl;subst cl dl;have gl1:(s.heap.push (mJ w)).get? l=some { cls:=.type "list",dict:=a2,data:=.seq xs nl,slots:=a4 }:=JA _ gl;have sls:=PySem.F.sub_list_set;have slf:=PySem.F.sub_list_frozenset;have nd0:(K9 "list"==K9 "dict")=false:=by decide
    have il:(s.heap.push (mJ w)).IsList l xs:=⟨_,gl1,rfl,nl,rfl⟩;unfold Builtin.«set.__init__»;unfold noKeywords;unfold Builtin.Frozenset.updateFrom;generalize gPI:pyIter=PI
    wp_walk
    subst gPI;apply Nd il;apply Jz;apply Qs;have lt:l<s.heap.objs.size:=JL gl;have sz:(s.heap.push (mJ w)).objs.size=s.heap.objs.size+1:=Kk _ _;have fr:s.heap.objs.size∉[(s.heap.push (mJ w)).objs.size,l]:=by
     rw[sz];intro hm;rcases JH.1 hm with e|hm
     ·exact absurd e (Kg (Lp _))
     ·rcases JH.1 hm with e|hm
      ·exact absurd e.symm (Kg lt)
      ·exact nomatch hm
    refine Fc (knd:=knd) ((So (by simp[calm]) _ l (by rw[sz];exact Kg (Le lt)) xs).toS) s.heap.objs.size fr key (fun i v hv=>hkey i v hv) room (led:=!dG w) (xs.size-0) 0 _ [] (by omega) (Ks _) ⟨⟨_,JM _ rfl,rfl,rfl⟩,il.push _⟩ (dg.new (JA _ got)) (fun y=>⟨fun z=>(nomatch z),fun⟨j,hj,_⟩=>absurd hj (M4 _)⟩) (JF _) fun z ks mv r mem=>?_;obtain⟨h',g',d',tk',os'⟩:=z;obtain rfl:g'=s.gens:=mv.gens;obtain rfl:d'=s.drawn:=mv.drawn;obtain rfl:os'=s.os:=mv.os;show wpAny _ _ _ _ _ _;refine JC ?_;show wpAny _ _ (ret K8) _ _ _;refine JC ⟨rfl,h',tk',ks,rfl,r,mem,fun b o hb e=>mv.heap b o (fun hm=>?_) (JA _ (JA _ e))⟩;rcases JH.1 hm with e|hm
    ·exact absurd e (Kg hb)
    ·rcases JH.1 hm with e|hm
     ·rw[sz]at e
      exact absurd e (Kg (Le hb))
     ·exact nomatch hm
   ·cases r with
    |error e=>exact hz
    |ok fl=>
     cases fl with
     |next=>exact hz.elim
     |brk=>exact hz.elim
     |cont=>exact hz.elim
     |ret r=>
      obtain⟨rfl,h',tk,ks,rfl,r1,r2,r3⟩:=hz
      repeat (any_goals (first|assumption|wp_step))
      exact q _ _ ks r1 r2 r3
end
end
section
open PySem.Spec
theorem eC:Slot "set_iterator" "__next__" "set_iterator.__next__":=by
 refine Slot.of (owner:="set_iterator") (n:="__next__") ?_ ?_ ?_ ?_ ?_ ?_
 ·rw[Ow,Nl]
  kernel_rfl
 ·decide+kernel
 ·decide+kernel
 ·decide+kernel
 ·first
   |exact .inl (by decide+kernel)
   |exact .inr (by decide+kernel)
 ·rw[Qt]
  kernel_rfl
theorem Ar:Slot "set_iterator" "__iter__" "set_iterator.__iter__":=by
 refine Slot.of (owner:="set_iterator") (n:="__iter__") ?_ ?_ ?_ ?_ ?_ ?_
 ·rw[Ow,Nl]
  kernel_rfl
 ·decide+kernel
 ·decide+kernel
 ·decide+kernel
 ·first
   |exact .inl (by decide+kernel)
   |exact .inr (by decide+kernel)
 ·rw[Qt]
  kernel_rfl
theorem nR:entryFor table "set_iterator.__next__"=some Builtin.«set_iterator.__next__»:=by
 apply entryFor_of_tree
 kernel_rfl
theorem Fe:entryFor table "set_iterator.__iter__"=some Builtin.«dict_keyiterator.__iter__»:=by
 refine entryFor_alias (id':="dict_keyiterator.__iter__") ?_ rfl ?_ ?_
 ·kernel_rfl
 ·decide+kernel
 ·kernel_rfl
theorem G3:entryFor table "set.__iter__"=some Builtin.«frozenset.__iter__»:=by
 refine entryFor_alias (id':="frozenset.__iter__") ?_ rfl ?_ ?_
 ·kernel_rfl
 ·decide+kernel
 ·kernel_rfl
theorem yN:Manifest.owners.lookup (String.ofList ['r','o','t','a','r','e','t','i','_','t','e','s'].reverse)=some Manifest.sig_set_iterator:=by kernel_rfl
theorem nU(a:Value):argsOk "set_iterator.__next__" ⟨[a],[]⟩:=by
 unfold argsOk;rw[signature?_of (id:="set_iterator.__next__") (n:=['_','_','t','x','e','n','_','_']) (o:=['r','o','t','a','r','e','t','i','_','t','e','s']) (by kernel_rfl) yN]
 kernel_rfl
theorem Ff(a:Value):argsOk "set_iterator.__iter__" ⟨[a],[]⟩:=by
 unfold argsOk;rw[signature?_of (id:="set_iterator.__iter__") (n:=['_','_','r','e','t','i','_','_']) (o:=['r','o','t','a','r','e','t','i','_','t','e','s']) (by kernel_rfl) yN]
 kernel_rfl
end
section
open PySem.Spec
noncomputable def SAt(h:Heap)(a:Addr)(es:Array (Int×Value))(ep:Nat)(t:J3):Prop:=∃o,h.get? a=some o/\o.data=.set es ep t/\t.fits es.size=true
noncomputable def dt(h:Heap)(I a:Addr)(f:Value)(i n ep:Nat):Prop:=∃o,h.get? I=some o/\o.cls=.type "set_iterator"/\o.data=.fields #[f,.int i 0,.ref a,.int n 0,.int ep 0]
theorem SAt.at{h h':Heap}{a:Addr}{es:Array (Int×Value)}{ep:Nat}{t:J3}(x:SAt h a es ep t)(k:∀o,h.get? a=some o->h'.get? a=some o):SAt h' a es ep t:=by
 obtain⟨o,e,r⟩:=x;exact⟨o,k o e,r⟩
theorem dt.at{h h':Heap}{I a:Addr}{f:Value}{i n ep:Nat}(x:dt h I a f i n ep)(k:∀o,h.get? I=some o->h'.get? I=some o):dt h' I a f i n ep:=by
 obtain⟨o,e,r⟩:=x;exact⟨o,k o e,r⟩
theorem dt.type{s:Shared}{I a:Addr}{f:Value}{i n ep:Nat}(x:dt s.heap I a f i n ep):s.TypeIs (.ref I) "set_iterator":=by
 obtain⟨o,e,c,_⟩:=x;exact⟨o,e,c⟩
theorem dt.set{h:Heap}{I a:Addr}{f g:Value}{i n ep:Nat}(x:dt h I a f i n ep):dt (h.update I (O8 (·.setIfInBounds 0 g))) I a g i n ep:=by
 obtain⟨o,e,c,d⟩:=x;refine⟨_,KH _ e (N9 (Mt d _)),(Pg ..).trans c,?_⟩;rw[Mt d];simp
theorem dt.step{h:Heap}{I a:Addr}{f:Value}{i n ep:Nat}(x:dt h I a f i n ep):dt (h.update I (O8 (·.setIfInBounds 1 (rawInt ((i:Int)+1))))) I a f (i+1) n ep:=by
 obtain⟨o,e,c,d⟩:=x;refine⟨_,KH _ e (N9 (Mt d _)),(Pg ..).trans c,?_⟩;rw[Mt d];simp[rawInt]
section
variable{prog:Program}{w:World}{A:Around}{E:Value->Shared->Prop}{s:Shared}{I a:Addr}{es:Array (Int×Value)}{ep:Nat}{t:J3}{i:Nat}
theorem qh{Q:Bool->Shared->Prop}(q:Q (dG w) s):wpAny (model prog w) A setsByText Q E s:=by
 unfold setsByText;apply Jz;apply PH;exact JC q
theorem As{slot:Nat}{Q:Option (Value×Nat)->Shared->Prop}(b:dG w=true)(hs:SAt s.heap a es ep t)(q:Q ((NH (w.params.setOrder a ep) es)[i]?.map fun e=>(e.2,slot)) s):wpAny (model prog w) A (setNext a slot i ep) Q E s:=by
 obtain⟨o,g1,g3,ft⟩:=hs;unfold setNext;apply Jz;apply Lf g1 g3 ft;dsimp only;apply Jz;apply qh;rw[if_pos b,if_neg (by simp)];apply Jz;unfold setWalk;apply Jz;apply Lf g1 g3 ft;dsimp only;apply Jz;apply qh;rw[if_pos b];apply Jz;apply PH;apply JC;exact JC q
theorem At{slot:Nat}{Q:Option (Value×Nat)->Shared->Prop}(b:dG w=false)(pl:(!t.plain&&decide (es.size>1))=false)(ld:t.led=true)(hs:SAt s.heap a es ep t)
  (q:Q (match es[J7 t.place slot]?,t.place[J7 t.place slot]? with|some (_,x),some j=>some (x,j+1)|_,_=>none) s):wpAny (model prog w) A (setNext a slot i ep) Q E s:=by
 obtain⟨o,g1,g3,ft⟩:=hs;unfold setNext;apply Jz;apply Lf g1 g3 ft;dsimp only;apply Jz;apply qh;rw[if_neg (by rw[b];exact JQ)];show wpAny _ _ (if(!t.plain&&decide (es.size>1))=true then _ else _) _ _ _;rw[if_neg (by rw[pl];exact JQ)];apply Jz;show wpAny _ _ (if(!t.led&& !es.isEmpty)=true then _ else _) _ _ _;rw[if_neg (by rw[ld];simp)];apply JC;exact JC q
theorem G4{p:Nat}{x:Int×Value}{Q:Value->Shared->Prop}(hs:SAt s.heap a es ep t)(hx:es[p]?=some x)(q:Q x.2 s):wpAny (model prog w) A (setNextDrawn a p ep) Q E s:=by
 obtain⟨o,g1,g3,ft⟩:=hs;unfold setNextDrawn;apply Jz;apply Lf g1 g3 ft;dsimp only;rw[if_neg (by simp),hx];exact JC q
theorem Au{slot nx:Nat}{x:Value}{Q:Option Value->Shared->Prop}(hit:dt s.heap I a (.int slot 0) i es.size ep)(hs:SAt s.heap a es ep t)
  (hx:∀(A:Around)(E:Value->Shared->Prop)(Q:Option (Value×Nat)->Shared->Prop),Q (some (x,nx)) s->wpAny (model prog w) A (setNext a slot i ep) Q E s)
  (q:∀h',dt h' I a (.int nx 0) (i+1) es.size ep->J0 I s.heap h'->Q (some x) { s with heap:=h' }):wpAny (model prog w) A (pyNext (.ref I)) Q E s:=by
 obtain⟨o,g1,g3,ft⟩:=id hs;obtain⟨u,e1,e2,e3⟩:=id hit;unfold pyNext;apply Jz;apply MD;refine KD (name:=LN "__next__") hit.type eC ?_;refine Ko eC hit.type nR ?_ (nU _);refine Jz (JC ?_);refine Jz (OJ e1 e3 ?_);dsimp only;apply Jz;unfold Pq;apply Jz;apply Lf g1 g3 ft;apply JC;rw[if_neg (by simp)];apply Jz;refine hx _ _ _ ?_;dsimp only;refine Jz (Mq e1 e3 (by simp) ?_);have it1:dt (s.heap.update I (O8 (·.setIfInBounds 0 (rawInt (nx:Int))))) I a (.int nx 0) i es.size ep:=hit.set;obtain⟨u',e1',e2',e3'⟩:=id it1;refine Jz (Mq e1' e3' (by simp) ?_);exact JC ⟨_,rfl,JC (q _ it1.step ((KI _ I _).trans (KI _ I _)))⟩
theorem DG{slot:Nat}{Q:Option Value->Shared->Prop}(calm:A.handled=none)(hit:dt s.heap I a (.int slot 0) i es.size ep)(hs:SAt s.heap a es ep t)
  (hx:∀(A:Around)(E:Value->Shared->Prop)(Q:Option (Value×Nat)->Shared->Prop),Q none s->wpAny (model prog w) A (setNext a slot i ep) Q E s)
  (q:∀h',Nt I s.heap h'->Q none { s with heap:=h' }):wpAny (model prog w) A (pyNext (.ref I)) Q E s:=by
 obtain⟨o,g1,g3,ft⟩:=id hs;obtain⟨u,e1,e2,e3⟩:=id hit;unfold pyNext;apply Jz;apply MD;refine KD (name:=LN "__next__") hit.type eC ?_;refine Ko eC hit.type nR ?_ (nU _);refine Jz (JC ?_);refine Jz (OJ e1 e3 ?_);dsimp only;apply Jz;unfold Pq;apply Jz;apply Lf g1 g3 ft;apply JC;rw[if_neg (by simp)];apply Jz;refine hx _ _ _ ?_;dsimp only;refine Jz (Mq e1 e3 (by simp) ?_);show wpAny _ _ (newExc (.type "StopIteration") []>>=_) _ _ _;apply Jz;simp only[newExc,RU];apply Jz;refine Ky ?_ (by size_fits);apply Jz;refine OL (a:=K8) (by rfl) ?_;refine Ky ?_ (by size_fits);simp only[raiseNew];refine Jz (QQ ?_);rw[show A.in1.handled=none from calm];refine RG ?_;apply Jz;refine LQ (T:="StopIteration") (b:=true) ?_ NK ?_
 ·exact⟨_,JM _ rfl,rfl⟩
 ·exact JC (q _ (((KI _ I _).extBut.push _).push _))
theorem Fh{d:Addr}{ps:Array Value}{p:Nat}{x:Int×Value}{Q:Option Value->Shared->Prop}(hit:dt s.heap I a (.ref d) i es.size ep)(hs:SAt s.heap a es ep t)(ht:s.heap.IsTuple d ps)(hp:ps[i]?=some (.int p 0))(hx:es[p]?=some x)
  (q:∀h',dt h' I a (.ref d) (i+1) es.size ep->J0 I s.heap h'->Q (some x.2) { s with heap:=h' }):wpAny (model prog w) A (pyNext (.ref I)) Q E s:=by
 obtain⟨o,g1,g3,ft⟩:=id hs;obtain⟨u,e1,e2,e3⟩:=id hit;unfold pyNext;apply Jz;apply MD;refine KD (name:=LN "__next__") hit.type eC ?_;refine Ko eC hit.type nR ?_ (nU _);refine Jz (JC ?_);refine Jz (OJ e1 e3 ?_);dsimp only;apply Jz;unfold Pq;apply Jz;apply Lf g1 g3 ft;apply JC;rw[if_neg (by simp)];obtain⟨v,f1,f2,n,f3⟩:=id ht;apply Jz;refine K2 f1 f3 ?_;dsimp only;rw[show((i:Int)).toNat=i from rfl,hp];dsimp only;apply Jz;refine G4 hs hx ?_;refine Jz (Mq e1 e3 (by simp) ?_);exact JC ⟨_,rfl,JC (q _ hit.step (KI _ I _))⟩
theorem G5{d:Addr}{ps:Array Value}{Q:Option Value->Shared->Prop}(calm:A.handled=none)(hit:dt s.heap I a (.ref d) i es.size ep)(hs:SAt s.heap a es ep t)(ht:s.heap.IsTuple d ps)(hp:ps[i]?=none)
  (q:∀h',Nt I s.heap h'->Q none { s with heap:=h' }):wpAny (model prog w) A (pyNext (.ref I)) Q E s:=by
 obtain⟨o,g1,g3,ft⟩:=id hs;obtain⟨u,e1,e2,e3⟩:=id hit;unfold pyNext;apply Jz;apply MD;refine KD (name:=LN "__next__") hit.type eC ?_;refine Ko eC hit.type nR ?_ (nU _);refine Jz (JC ?_);refine Jz (OJ e1 e3 ?_);dsimp only;apply Jz;unfold Pq;apply Jz;apply Lf g1 g3 ft;apply JC;rw[if_neg (by simp)];obtain⟨v,f1,f2,n,f3⟩:=id ht;apply Jz;refine K2 f1 f3 ?_;dsimp only;rw[show((i:Int)).toNat=i from rfl,hp];dsimp only;refine Jz (Mq e1 e3 (by simp) ?_);have it1:dt (s.heap.update I (O8 (·.setIfInBounds 0 (rawInt 0)))) I a (rawInt 0) i es.size ep:=hit.set;obtain⟨u',e1',e2',e3'⟩:=id it1;refine Jz (Mq e1' e3' (by simp) ?_);show wpAny _ _ (newExc (.type "StopIteration") []>>=_) _ _ _;apply Jz;simp only[newExc,RU];apply Jz;refine Ky ?_ (by size_fits);apply Jz;refine OL (a:=K8) (by rfl) ?_;refine Ky ?_ (by size_fits);simp only[raiseNew];refine Jz (QQ ?_);rw[show A.in1.handled=none from calm];refine RG ?_;apply Jz;refine LQ (T:="StopIteration") (b:=true) ?_ NK ?_
 ·exact⟨_,JM _ rfl,rfl⟩
 ·exact JC (q _ ((((KI _ I _).trans (KI _ I _)).extBut.push _).push _))
theorem vy{f:Value}{n:Nat}{Q:Value->Shared->Prop}(hit:dt s.heap I a f i n ep)(q:Q (.ref I) s):wpAny (model prog w) A (pyIter (.ref I)) Q E s:=by
 refine RA hit.type Ar ?_;refine Ko Ar hit.type Fe ?_ (Ff _);show wpAny _ _ (ret (.ref I)) _ _ s;exact JC ⟨_,rfl,"set_iterator",_,hit.type,eC.lookup,q⟩
end
end
section
open PySem.Spec
theorem vz{α:Type}:∀(l:List α)(i:Nat)(h:i<l.length),Ld (l[i]::l.eraseIdx i) l
 |x::l,0,_=>.refl _
 |x::l,i+1,h=>(Ld.swap x _ _).trans (.cons x (vz l i (Nat.lt_of_succ_lt_succ h)))
theorem Av{α:Type}(next:Nat->Nat):∀(fuel k:Nat)(left:List α)(out:Array α),left.length=fuel->Ld (NH.go next fuel k left out).toList (out.toList++left)
 |0,k,left,out,h=>by
  obtain rfl:=MV.mp h;rw[LH];exact .refl _
 |fuel+1,k,left,out,h=>by
  have hl:next k%left.length<left.length:=SD _ (by omega)
  show Ld (match left[next k%left.length]? with|some x=>NH.go next fuel (k+1) (left.eraseIdx (next k%left.length)) (out.push x)|none=>out).toList _;rw[JD hl];refine(Av next fuel (k+1) _ _ (by rw[O9 hl,h];rfl)).trans ?_;rw[Pl,Pf];exact Ld.append_left _ (vz _ _ hl)
theorem pJ{α:Type}(next:Nat->Nat)(xs:Array α):Ld (NH next xs).toList xs.toList:=Av next xs.size 0 xs.toList #[] (by simp)
section
variable{prog:Program}{w:World}{A:Around}{E:Value->Shared->Prop}{s:Shared}{I a:Addr}{es:Array (Int×Value)}{ep:Nat}{t:J3}{i:Nat}
theorem Fi{src:Source}{n:Nat}{Q:Nat->Shared->Prop}(hn:n≠0)(q:∀i dr,i<n->Q i { s with drawn:=dr }):wpAny (model prog w) A (choose src n) Q E s:=fun _ _ _=>⟨hn,q _ _ (SD _ (Nat.pos_of_ne_zero hn))⟩
theorem we{α:Type}:∀(n:Nat)(xs:List α)(s:Shared)(Q:List α->Shared->Prop),xs.length=n->(∀ys dr,Ld ys xs->Q ys { s with drawn:=dr })->wpAny (model prog w) A (drawOrder n xs) Q E s
 |0,xs,s,Q,h,q=>by
  obtain rfl:=MV.mp h;exact JC (q [] s.drawn .nil)
 |n+1,[],s,Q,h,q=>nomatch h
 |n+1,x::xs,s,Q,h,q=>by
  unfold drawOrder;apply Jz;refine Fi (by simp) fun i dr hi=>?_;rw[JD hi];dsimp only;apply Jz;refine we n _ _ _ (by rw[O9 hi,h];rfl) fun ys dr' p=>?_;exact JC (q _ _ ((Ld.cons _ p).trans (vz _ _ hi)))
noncomputable abbrev Ord(ord:List (Int×Value))(i:Nat)(v:Value):Prop:=∃e,ord[i]?=some e/\e.2=v
theorem G6(calm:A.handled=none)(b:dG w=true)(hne:a≠I):
  Walks prog w A I [I,a] [I] es.size (Ord (NH (w.params.setOrder a ep) es).toList) (fun i h=>(∃slot:Nat,dt h I a (.int slot 0) i es.size ep)/\SAt h a es ep t) where
 sub:=fun b hb=>by
  rw[JE.mp hb];exact JI
 frame:=fun i h h' st k=>⟨st.1.elim fun n z=>⟨n,z.at (k I JI)⟩,st.2.at (k a (JO _ JI))⟩
 item:=fun i s Q E hi st q=>by
  obtain⟨⟨slot,it⟩,hs⟩:=st;have len:=(pJ (w.params.setOrder a ep) es).length_eq;have hl:i<(NH (w.params.setOrder a ep) es).size:=by
   rw[<-Kj,len,Kj];exact hi
  refine Au (x:=(NH (w.params.setOrder a ep) es)[i].2) (nx:=slot) it hs (fun A E Q h=>As b hs ?_) fun h' it' sb=>?_
  ·rw[LK hl]
   exact h
  ·refine q _ h' s.toks ⟨_,?_,rfl⟩ ⟨⟨slot,it'⟩,hs.at fun o e=>?_⟩ fun c o hc e=>?_
   ·rw[Mz,LK hl]
   ·exact sb.extBut a o hne e
   ·exact sb.extBut c o (fun z=>hc (by rw[z];exact JI)) e
 done:=fun s Q E st q=>by
  obtain⟨⟨slot,it⟩,hs⟩:=st;have len:=(pJ (w.params.setOrder a ep) es).length_eq;have hl:(NH (w.params.setOrder a ep) es).size<=es.size:=by
   rw[<-Kj,len,Kj];exact JF _
  refine DG calm it hs (fun A E Q h=>As b hs ?_) fun h' xb=>q h' s.toks fun c o hc e=>?_
  ·rw[N0 hl]
   exact h
  ·exact xb c o (fun z=>hc (by rw[z];exact JI)) e
 self:=fun i s Q E st q=>st.1.elim fun n z=>vy z q
noncomputable def rH(t:J3):Nat->Nat
 |0=>0
 |j+1=>t.place.getD j 0+1
theorem tT(rs:Rs t.place.toList):∀i,i<=t.place.size->J7 t.place (rH t i)=i
 |0,_=>Be _ rs
 |j+1,h=>by
  have hj:j<t.place.size:=h;have hj':j<t.place.toList.length:=by simpa using hj
  have e:rH t (j+1)=t.place.toList[j]+1:=by rw[rH,wb _ _ _ hj]
  rw[e];exact Bd _ rs hj'
theorem G7(calm:A.handled=none)(b:dG w=false)(pl:(!t.plain&&decide (es.size>1))=false)(ld:t.led=true)(rs:Rs t.place.toList)(sz:t.place.size=es.size)(hne:a≠I):
  Walks prog w A I [I,a] [I] es.size (Ord es.toList) (fun i h=>dt h I a (.int (rH t i:Nat) 0) i es.size ep/\SAt h a es ep t) where
 sub:=fun b hb=>by
  rw[JE.mp hb];exact JI
 frame:=fun i h h' st k=>⟨st.1.at (k I JI),st.2.at (k a (JO _ JI))⟩
 item:=fun i s Q E hi st q=>by
  obtain⟨it,hs⟩:=st;have hp:i<t.place.size:=by rw[sz];exact hi
  refine Au (x:=es[i].2) (nx:=rH t (i+1)) it hs (fun A E Q h=>At b pl ld hs ?_) fun h' it' sb=>?_
  ·rw[tT rs i (KJ hp),LK hi,LK hp]
   have e:rH t (i+1)=t.place[i]+1:=by
    rw[rH,QL,dif_pos hp];rfl
   rw[e]at h;exact h
  ·refine q _ h' s.toks ⟨_,?_,rfl⟩ ⟨it',hs.at fun o e=>?_⟩ fun c o hc e=>?_
   ·rw[Mz,LK hi]
   ·exact sb.extBut a o hne e
   ·exact sb.extBut c o (fun z=>hc (by rw[z];exact JI)) e
 done:=fun s Q E st q=>by
  obtain⟨it,hs⟩:=st;refine DG calm it hs (fun A E Q h=>At b pl ld hs ?_) fun h' xb=>q h' s.toks fun c o hc e=>?_
  ·rw[tT rs es.size (by rw[sz];exact JF _),N0 (JF _)]
   exact h
  ·exact xb c o (fun z=>hc (by rw[z];exact JI)) e
 self:=fun i s Q E st q=>vy st.1 q
theorem nB(es:Array (Int×Value)):((JT es.size).map fun p=>es.getD p (0,.none))=es.toList:=by
 apply List.ext_getElem
 ·simp
 ·intro i h1 h2
  have hi:i<es.size:=by simpa using h2
  rw[List.getElem_map,OV,QL,dif_pos hi];simp
theorem G8(calm:A.handled=none){d:Addr}{ps:List Nat}(pm:Ld ps (JT es.size))(hne:a≠I)(hd:d≠I):
  Walks prog w A I [I,a,d] [I] es.size (Ord (ps.map fun p=>es.getD p (0,.none))) (fun i h=>dt h I a (.ref d) i es.size ep/\SAt h a es ep t/\h.IsTuple d (ps.map fun p=>MJ (p:Nat) 0).toArray) where
 sub:=fun b hb=>by
  rw[JE.mp hb];exact JI
 frame:=fun i h h' st k=>⟨st.1.at (k I JI),st.2.1.at (k a (JO _ JI)),st.2.2.at (k d (JO _ (JO _ JI)))⟩
 item:=fun i s Q E hi st q=>by
  obtain⟨it,hs,ht⟩:=st;have len:=pm.length_eq;rw[Kz]at len;have hl:i<ps.length:=by rw[len];exact hi
  have lt:ps[i]<es.size:=K1.mp (pm.mem_iff.mp (MQ hl));refine Fh (p:=ps[i]) (x:=es[ps[i]]) it hs ht ?_ (LK lt) fun h' it' sb=>?_
  ·rw[Qu,JS,JD hl]
   rfl
  ·refine q _ h' s.toks ⟨_,?_,rfl⟩ ⟨it',hs.at fun o e=>?_,ht.at fun o e=>?_⟩ fun c o hc e=>?_
   ·rw[JS,JD hl]
    show some (es.getD ps[i] (0,.none))=_;rw[QL,dif_pos lt];rfl
   ·exact sb.extBut a o hne e
   ·exact sb.extBut d o hd e
   ·exact sb.extBut c o (fun z=>hc (by rw[z];exact JI)) e
 done:=fun s Q E st q=>by
  obtain⟨it,hs,ht⟩:=st;have len:=pm.length_eq;refine G5 calm it hs ht ?_ fun h' xb=>q h' s.toks fun c o hc e=>?_
  ·apply N0
   simp[len]
  ·exact xb c o (fun z=>hc (by rw[z];exact JI)) e
 self:=fun i s Q E st q=>vy st.1 q
end
end
section
open PySem.Spec
theorem cp.get{α β:Type}{F:α->β->Prop}{l:List α}{m:List β}(h:cp F l m):∀{i:Nat} {b:β},m[i]?=some b->∃a,l[i]?=some a/\F a b:=by
 induction h with
 |nil=>intro i b e;cases e
 |cons r _ ih=>
  intro i b e;cases i with
  |zero=>
   obtain rfl:_=b:=JR e;exact⟨_,rfl,r⟩
  |succ i=>exact ih e
section
variable{prog:Program}{w:World}{K:Type}[DecidableEq K]{knd:KeyKind prog w K}{A:Around}{E:Value->Shared->Prop}{s:Shared}{I a:Addr}{es:Array (Int×Value)}{ep:Nat}{t:J3}{i:Nat}
theorem rJ{fp wr:List Addr}{n:Nat}{P P':Nat->Value->Prop}{St:Nat->Heap->Prop}(W:Walks prog w A I fp wr n P St)(f:∀i v,P i v->P' i v):Walks prog w A I fp wr n P' St where
 sub:=W.sub
 frame:=W.frame
 item:=fun i s Q E hi st q=>W.item i s Q E hi st fun v h' tk pv=>q v h' tk (f i v pv)
 done:=W.done
 self:=W.self
noncomputable abbrev cX(knd:KeyKind prog w K)(ord:List K)(i:Nat)(v:Value):Prop:=∃k,ord[i]?=some k/\knd.is k v=true
theorem vA{ks:List K}{l m:List (Int×Value)}(pr:cp (Ent knd) ks m)(p:Ld l m):∃ord,Ld ord ks/\∀i v,Ord l i v->cX knd ord i v:=by
 obtain⟨ord,q,pr'⟩:=cp.perm p.symm pr;refine⟨ord,q.symm,fun i v h=>?_⟩;obtain⟨e,he,rfl⟩:=h;obtain⟨k,hk,r⟩:=pr'.get he;exact⟨k,hk,r.1⟩
noncomputable abbrev itO(f:Value)(a:Addr)(n ep:Nat):Obj:={ cls:=.type "set_iterator",data:=.fields #[f,.int (0:Nat) 0,.ref a,.int n 0,.int ep 0] }
theorem Aw{f:Value}{F:Fin->Shared->Prop}(hs:SAt s.heap a es ep t)(q:F (.done (.ret (.ref s.heap.objs.size))) { s with heap:=s.heap.push (itO f a es.size ep) }):
  wpAny (model prog w) A (do ret (<-newFields "set_iterator" [f,rawInt 0,.ref a,rawInt es.size,rawInt (<-setEpoch a)])) F E s:=by
 obtain⟨o,g1,g3,ft⟩:=hs;apply Jz;refine wpAny_setEpoch_of g1 g3 ft ?_;apply Jz;unfold newFields;refine Ky ?_;exact JC q
theorem Fj{ks:List K}{Q:Value->Shared->Prop}(calm:A.handled=none)(r:dg knd s.heap a ks (!dG w))
  (q:∀(I:Addr)(h':Heap)(dr)(fp:List Addr)(St:Nat->Heap->Prop)(ord:List K),Ld ord ks->Walks prog w A I fp [I] ks.length (cX knd ord) St->St 0 h'->(∀b∈fp,b<h'.objs.size)->(∀b∈fp,b=a\/s.heap.objs.size<=b)->s.heap.objs.size<=I->I∈fp->(∀b o,s.heap.get? b=some o->h'.get? b=some o)->Q (.ref I) { s with heap:=h',drawn:=dr }):
  wpAny (model prog w) A (pyIter (.ref a)) Q E s:=by
 obtain⟨o,es,ep,t,g1,g2,g3,pr,nd,sb,ft,rs,ld⟩:=id r;have hs:SAt s.heap a es ep t:=⟨o,g1,g3,ft⟩;have ty:s.TypeIs (.ref a) "set":=⟨o,g1,g2.1⟩;have len:es.size=ks.length:=by rw[pr.len,Kj]
 have lt:a<s.heap.objs.size:=JL g1;rw[<-len]at q;have sz:t.place.size=es.size:=by
  simp only[J3.fits,K5,beq_iff_eq]at ft;exact ft.1
 refine RA ty Qv ?_;refine Ko Qv ty G3 ?_ (PySem.F.args_set_iter_1 _);unfold Builtin.«frozenset.__iter__»;refine Jz (JC ?_);apply Jz;unfold Builtin.Frozenset.sizeOf;apply Jz;unfold Pq;apply Jz;apply Lf g1 g3 ft;apply JC;apply JC;apply Jz;unfold setDrawn;apply Jz;apply Lf g1 g3 ft;dsimp only;apply Jz;apply qh;apply JC;show wpAny _ _ (if(!dG w&&(!t.plain&&decide (es.size>1)))=true then _ else _) _ _ _;by_cases c:(!dG w&&(!t.plain&&decide (es.size>1)))=true
 ·rw[if_pos c]
  apply Jz;refine we _ _ _ _ Kz fun ps dr pm=>?_;apply Jz;refine Qp ?_ (by rw[JB,pm.length_eq,Kz];exact Kc (KJ sb) (by decide));have pz:=Kk s.heap { cls:=.type "tuple",data:=.seq (ps.map fun(i:Nat)=>rawInt i).toArray };have hs1:=hs.at (h':=s.heap.push { cls:=.type "tuple",data:=.seq (ps.map fun(i:Nat)=>rawInt i).toArray }) fun o e=>JA _ e;have tu:(s.heap.push { cls:=.type "tuple",data:=.seq (ps.map fun(i:Nat)=>rawInt i).toArray }).IsTuple s.heap.objs.size (ps.map fun p=>MJ (p:Nat) 0).toArray:=⟨_,JM _ rfl,rfl,0,rfl⟩;have kp0:∀b o,s.heap.get? b=some o->(s.heap.push { cls:=.type "tuple",data:=.seq (ps.map fun(i:Nat)=>rawInt i).toArray }).get? b=some o:=fun b o e=>JA _ e;generalize s.heap.push { cls:=.type "tuple",data:=.seq (ps.map fun(i:Nat)=>rawInt i).toArray }=hp at *;have lt1:a<hp.objs.size:=by rw[pz];exact Le lt
  have kp:∀b o,s.heap.get? b=some o->hp.get? b=some o:=kp0;refine Aw (s:={ s with drawn:=dr,heap:=hp }) hs1 ⟨_,rfl,"set_iterator",_,⟨_,JM _ rfl,rfl⟩,eC.lookup,?_⟩;obtain⟨ord,p1,p2⟩:=vA pr (l:=ps.map fun p=>es.getD p (0,.none)) (by rw[<-nB es];exact pm.map _);refine q hp.objs.size _ dr [hp.objs.size,a,s.heap.objs.size] _ ord p1 (rJ (G8 (A:=A) (es:=es) (ep:=ep) (t:=t) calm pm (Kg lt1) (d:=s.heap.objs.size) (Kg (by rw[pz];exact Lp _))) p2) ⟨⟨_,JM _ rfl,rfl,rfl⟩,hs1.at fun o e=>JA _ e,tu.push _⟩ (fun b hb=>?_) (fun b hb=>?_) (by rw[pz];exact L8 _) JI fun b o e=>JA _ (kp b o e)
  ·rw[Kk]
   rcases JH.mp hb with e|hb
   ·rw[e]
    exact Lp _
   ·rcases JH.mp hb with e|hb
    ·rw[e]
     exact Le lt1
    ·rw[JE.mp hb,pz]
     exact Le (Lp _)
  ·rcases JH.mp hb with e|hb
   ·exact .inr (by rw[e,pz];exact L8 _)
   ·rcases JH.mp hb with e|hb
    ·exact .inl e
    ·exact .inr (by rw[JE.mp hb];exact JF _)
 ·rw[if_neg c]
  apply Jz;apply JC;refine Aw hs ⟨_,rfl,"set_iterator",_,⟨_,JM _ rfl,rfl⟩,eC.lookup,?_⟩;have it0:dt (s.heap.push (itO (rawInt 0) a es.size ep)) s.heap.objs.size a (.int (0:Nat) 0) 0 es.size ep:=⟨_,JM _ rfl,rfl,rfl⟩;have hs0:SAt (s.heap.push (itO (rawInt 0) a es.size ep)) a es ep t:=hs.at fun o e=>JA _ e;have inb:∀b∈[s.heap.objs.size,a],b<(s.heap.push (itO (rawInt 0) a es.size ep)).objs.size:=fun b hb=>by
   rw[Kk];rcases JH.mp hb with e|hb
   ·rw[e]
    exact Lp _
   ·rw[JE.mp hb]
    exact Le lt
  have out:∀b∈[s.heap.objs.size,a],b=a\/s.heap.objs.size<=b:=fun b hb=>by
   rcases JH.mp hb with e|hb
   ·exact .inr (by rw[e];exact JF _)
   ·exact .inl (JE.mp hb)
  cases b:dG w with
  |true=>
   obtain⟨ord,p1,p2⟩:=vA pr (pJ (w.params.setOrder a ep) es);refine q s.heap.objs.size _ s.drawn _ _ ord p1 (rJ (G6 (A:=A) (es:=es) (ep:=ep) (t:=t) calm b (Kg lt)) p2) ⟨⟨0,it0⟩,hs0⟩ inb out (JF _) JI fun b o e=>JA _ e
  |false=>
   have pl:(!t.plain&&decide (es.size>1))=false:=by
    rw[b]at c;simpa using c
   have l1:t.led=true:=by rw[ld,b];rfl
   obtain⟨ord,p1,p2⟩:=vA pr (Ld.refl es.toList);refine q s.heap.objs.size _ s.drawn _ _ ord p1 (rJ (G7 (A:=A) (es:=es) (ep:=ep) (t:=t) calm b pl l1 rs sz (Kg lt)) p2) ⟨it0,hs0⟩ inb out (JF _) JI fun b o e=>JA _ e
end
end
section
open PySem.Spec PySem.W
section
variable{prog:Program}{w:World}{K:Type}[DecidableEq K]{knd:KeyKind prog w K}{A:Around}{E:Value->Shared->Prop}{s:Shared}{a:Addr}
theorem Fk{Q:Bool->Shared->Prop}(ty:s.TypeIs (.ref a) "set")(q:Q false s):wpAny (model prog w) A (Mw (.ref a)) Q E s:=by
 unfold Mw;apply Jz;refine Lm ty PySem.F.slot_set_len.lookup ?_;generalize hid:("set.__len__":String)=nm
 wp_delta
 rw[show splitId nm=some ("set","__len__")from by subst hid;decide+kernel];subst hid;apply Jz;refine LQ (T:="set") (b:=true) ty (by rw[Qt];kernel_rfl) ?_;refine P6 (fun z=>absurd z (by decide)) fun _=>?_;refine P6 (fun _=>?_) fun z=>absurd (by decide+kernel) z;apply Jz;refine Oi ty ?_;exact JC q
theorem dg.type{ks:List K}{led:Bool}(r:dg knd s.heap a ks led):s.TypeIs (.ref a) "set":=by
 obtain⟨o,es,ep,t,g1,g2,_⟩:=r;exact⟨o,g1,g2.1⟩
theorem dg.small{h:Heap}{ks:List K}{led:Bool}(r:dg knd h a ks led):ks.length<NG:=by
 obtain⟨o,es,ep,t,g1,g2,g3,pr,nd,sb,_⟩:=r;rw[pr.len,Kj];exact sb
theorem Bg{ks:List K}{R:Result->Shared->Prop}(calm:A.handled=none)(r:dg knd s.heap a ks (!dG w))(S:Addr)(ne:S≠a)(hS:s.heap.get? S=some { cls:=.type "list",data:=.seq #[] })
  (q:∀(s':Shared) h' dr tk ord acc c,s'={ s with heap:=h',drawn:=dr,toks:=tk }->Ld ord ks->(∀b o,b≠S->s.heap.get? b=some o->h'.get? b=some o)->h'.get? S=some { cls:=.type "list",dict:=none,data:=.seq acc c,slots:=#[] }->ItemsOf (cX knd ord) acc ks.length->R (.ok (.ret (.ref S))) s'):
  wpAny (model prog w) A.in1 (KY (.ref S) (.ref a) (.ref S)) (fun fin s'=>match fin with | .done f=>R (.ok f) s' | .again c'=>c'.quiet=true/\codeAny (model prog w) A c' R s') (fun e s'=>R (.error e) s') s:=by
 have hn:ks.length<=JP:=Kc (KJ r.small) (by decide);unfold KY;apply Jz;refine Oi (T:="set") r.type ?_;have h1:MS (.ref S) (.ref a)=false:=by simp[MS,ne]
 have h2:(K9 "set"==K9 "list")=false:=by decide
 have h3:(K9 "set"==K9 "tuple")=false:=by decide
 simp only[h1,h2,h3,Bool.or_false,KW,if_false];apply Jz;refine Fj (A:=A.in1) calm r fun I h' dr fp St ord pm W st inb out ge Ifp kp=>?_;have hS1:=kp _ _ hS;have lS:S<s.heap.objs.size:=JL hS;have r1:dg knd h' a ks (!dG w):=r.at fun o e=>kp a o e;have nS:S∉fp:=fun hm=>by
  rcases out S hm with z|z
  ·exact ne z
  ·exact absurd lS (Po.mpr z)
 have loop:∀(h2:Heap)(c:Nat),(∀b o,b≠S->h'.get? b=some o->h2.get? b=some o)->h2.get? S=some { cls:=.type "list",dict:=none,data:=.seq #[] c,slots:=#[] }->codeAny (model prog w) A (.builtin "list.extend.loop" ⟨[.ref S,.ref I,.ref S],[]⟩) R { s with heap:=h2,drawn:=dr }:=fun h2 c k2 e2=>by
  refine codeAny_extend_loopS W.toS hn S nS (.ref S) ks.length 0 _ #[] c rfl (Ks _) (W.frame 0 _ _ st fun b hb o e=>k2 b o (fun z=>nS (z▸hb)) e) e2 (ItemsOf.nil _) fun s' acc c' mv e3 it=>?_;rw[Moved.eq_with mv];refine q _ s'.heap dr s'.toks ord acc c' rfl pm (fun b o hb e=>mv.heap b o (fun hm=>?_) (k2 b o hb (kp b o e))) e3 it;rcases JH.mp hm with z|hm
  ·exact hb z
  ·rw[JE.mp hm]at e
   exact absurd (JL e) (Po.mpr ge)
 apply Jz;apply K4;refine Fk (s:={ s with heap:=h',drawn:=dr }) r1.type ?_;refine P6 (fun _=>?_) fun _=>?_
 ·apply Jz
  apply Ma;apply Jz;show wpAny _ _ (OX S (·.push .none)>>=fun _=>OX S (·.pop)) _ _ _;apply Jz;refine M6 hS1 rfl ?_;have hS2:=KH (La (·.push K8)) hS1 rfl;refine M6 (hz:=by seq_fits) hS2 rfl ?_;have hS3:=KH (La (·.pop)) hS2 rfl;refine JC ⟨Mo LL _,loop _ _ (fun b o hb e=>?_) hS3⟩;rw[Lq _ _ (Lg hb),Lq _ _ (Lg hb)];exact e
 ·exact JC ⟨Mo LL _,loop _ _ (fun b o hb e=>e) hS1⟩
theorem zE{ks:List K}{R:List Value->Shared->Prop}(calm:A.handled=none)(r:dg knd s.heap a ks (!dG w))
  (q:∀h' dr tk ord (acc:Array Value),Ld ord ks->(∀b o,s.heap.get? b=some o->h'.get? b=some o)->s.heap.objs.size<h'.objs.size->ItemsOf (cX knd ord) acc ks.length->R acc.toList { s with heap:=h',drawn:=dr,toks:=tk }):
  wpAny (model prog w) A (collect (.ref a)) R E s:=by
 have lt:a<s.heap.objs.size:=by
  obtain⟨o,es,ep,t,g1,_⟩:=r;exact JL g1
 unfold collect;apply Jz;apply Qs;apply Lx entry_proto_collect';rw[Lb PySem.F.plain_proto_collect _];show wpAny _ A.in1 (newList []>>=fun l=>again (.builtin "list.__iadd__" ⟨[l,.ref a],[]⟩)) _ _ s;apply Jz;refine Ky ?_;refine JC ⟨Mo PP _,?_⟩;apply Lx entry_list_iadd';rw[Lb PP _];show wpAny _ A.in1 (KY (.ref s.heap.objs.size) (.ref a) (.ref s.heap.objs.size)) _ _ _;have key:=Bg (A:=A) (s:={ s with heap:=s.heap.push { cls:=.type "list",data:=.seq ([]:List Value).toArray } })
  (R:=fun(u:Result)(s':Shared)=>∃h' dr tk ord acc c,u=.ok (.ret (.ref s.heap.objs.size))/\s'={ s with heap:=h',drawn:=dr,toks:=tk }/\Ld ord ks/\(∀b o,s.heap.get? b=some o->h'.get? b=some o)/\
   h'.get? s.heap.objs.size=some { cls:=.type "list",dict:=none,data:=.seq acc c,slots:=#[] }/\ItemsOf (cX knd ord) acc ks.length)
  calm (r.at fun o e=>JA _ e) s.heap.objs.size (LA lt) (JM _ rfl)
  fun s' h' dr tk ord acc c e pm kp e3 it=>⟨h',dr,tk,ord,acc,c,rfl,e,pm,fun b o eb=>kp b o (Kg (JL eb)) (JA _ eb),e3,it⟩
 refine Lj key (fun fin s' x=>?_) fun e s' x=>?_
 ·cases fin with
  |done f=>
   obtain⟨h',dr,tk,ord,acc,c,e,rfl,pm,kp,e3,it⟩:=x;cases e;show wpAny _ A (load s.heap.objs.size>>=_) _ _ _;apply Jz;refine QA e3 ?_;exact JC (q h' dr tk ord acc pm kp (JL e3) it)
  |again c1=>
   refine⟨x.1,MN x.2 fun u s2 y=>?_⟩;obtain⟨h',dr,tk,ord,acc,c,rfl,rfl,pm,kp,e3,it⟩:=y;show wpAny _ A (load s.heap.objs.size>>=_) _ _ _;apply Jz;refine QA e3 ?_;exact JC (q h' dr tk ord acc pm kp (JL e3) it)
 ·obtain⟨h',dr,tk,ord,acc,c,e',_⟩:=x
  cases e'
end
end
section
open PySem.Spec
section
variable{X:Cx}
end
end
section
open PySem.Spec
section
variable{prog:Program}{w:World}{A:Around}{R:Result->Shared->Prop}{I:Addr}{fp wr:List Addr}{n:Nat}{P:Nat->Value->Prop}{St:Nat->Heap->Prop}{kw:List (Str×Value)}
end
end
section
open PySem.Spec
section
variable{prog:Program}{w:World}{A:Around}{E:Value->Shared->Prop}{s:Shared}
end
end
section
open PySem.Spec
section
variable{X:Cx}
end
end
section
open PySem.Calls
section
variable{X:Cx}
end
end
section
open PySem.Spec PySem.Calls
section
variable{prog:Program}{w:World}{A:Around}{E:Value->Shared->Prop}{s:Shared}{a:Addr}
theorem wf:∀{ord:List Int} {l:List Value},l.length=ord.length->(∀i v,l[i]?=some v->cX (intKind prog w) ord i v)->IntsAre l ord
 | [],[],_,_=>.nil
 | [],_::_,h,_=>nomatch h
 |_::_,[],h,_=>nomatch h
 |k::ord,v::l,h,t=>by
  obtain⟨k',hk,hv⟩:=t 0 v rfl;obtain rfl:k=k':=JR hk;obtain⟨tk,rfl⟩:=Rk hv;exact .cons k tk (wf (Nat.succ.inj h) fun i u hu=>t (i+1) u hu)
theorem Bh{ks:List Int}{Q:Value->Shared->Prop}(calm:A.handled=none)(r:dg (intKind prog w) s.heap a ks (!dG w))(h64:ks.length<64)
  (q:∀(p:Addr)(h':Heap)(dr)(tk:Nat)(out:Array Value)(e:Nat)(ms:List Int),(∀b o,s.heap.get? b=some o->h'.get? b=some o)->s.heap.objs.size<=p->h'.get? p=some (seqObj "list" out e)->IntsAre out.toList ms->ms.Perm ks->ms.Pairwise (·<=·)->Q (.ref p) { s with heap:=h',drawn:=dr,toks:=tk }):
  wpAny (model prog w) A (call (.builtin "sorted") [.ref a]) Q E s:=by
 refine call_function_entry kind_sorted plain_sorted entry_sorted (args_sorted1 _) ?_;unfold Builtin.«sorted»;refine Jz (m:=checkCount "sorted" 1 1 _) (JC ?_);apply Jz;refine zE (A:=A.in1) calm r fun h' dr tk ord acc pm kp gt it=>?_;have len:acc.toList.length=ks.length:=by rw[Kj];exact it.1
 have ia:IntsAre acc.toList ord:=wf (by rw[len,pm.length_eq]) fun i v e=>it.2 i v (by rw[<-Mz];exact e);apply Jz;refine wpAny_newList ?_ (by rw[len];exact Kc (KJ h64) (by decide));have hoL:(h'.push (seqObj "list" acc.toList.toArray 0)).get? h'.objs.size=some (seqObj "list" acc.toList.toArray 0):=JM _ rfl;have ge:s.heap.objs.size<=h'.objs.size:=KJ gt;apply Jz;apply K4;refine Ko slot_list_sort ⟨_,hoL,rfl⟩ entry_list_sort ?_ (args_list_sort _);refine list_sort_tree hoL ia (by rw[len];exact h64) fun out ms a1 a2 a3=>⟨_,rfl,?_⟩;obtain⟨e,he⟩:=sortedHeap_at (n:=0) (vs:=acc.toList) (out:=out) hoL;refine JC ⟨_,rfl,q _ _ dr tk out e ms (fun b o eb=>?_) ge he a1 (a2.trans pm) a3⟩;have hb:=JL eb;rw[sortedHeap_old (Kg (J2 hb ge)) (by rw[size_push'];exact Le (J2 hb ge))];exact JA _ (kp b o eb)
end
section
variable{X:Cx}
theorem Inv.drew{pins:List (Addr×Obj)}{σ:St}{H:Hp}{s:Shared}(I:Inv X pins σ H s)(dr):Inv X pins σ H { s with drawn:=dr }:=by
 cases I;constructor<;>assumption
end
end
section
open PySem.Spec PySem.Calls
theorem Ax:∀{l:List Value} {ns:List Int} {i:Nat} {v:Value},IntsAre l ns->l[i]?=some v->∃t,v=.int (ns.getD i 0) t
 |_,_,_,_,.nil,e=>nomatch e
 |_,_,0,_,.cons n t _,e=>⟨t,(JR e).symm⟩
 |_,_,i+1,_,.cons n t h,e=>by
  obtain⟨t',e'⟩:=Ax (i:=i) h e;exact⟨t',e'⟩
section
variable{X:Cx}
theorem Bi{e:Expr}{p p2 pos pos2:Pos}{t:TA}(hc:X.calm=true)(hm:X.mg "sorted"=none)(hm2:X.mg "set"=none)(ha:PA X [e] t)(hg:Gl X "sorted":=by rfl)(hg2:Gl X "set":=by rfl)
  (he:J4 [e] X.env=(false,eval e X.env)::J4 [] X.env:=by rfl) (hpl:(backTo pos2 (J4 [] X.env)).any (·.1)=false:=by rfl)
  (he1:J4 [.Call (.Name "set" p2) [e] [] pos2] X.env=(false,eval (.Call (.Name "set" p2) [e] [] pos2) X.env)::J4 [] X.env:=by rfl) (hpl1:(backTo pos (J4 [] X.env)).any (·.1)=false:=by rfl):
  PE X (.Call (.Name "sorted" p) [.Call (.Name "set" p2) [e] [] pos2] [] pos) (rD X.K t):=by
 intro pins s σ H Q I h;refine Mb (gk I hg hm boot_sorted ?_ (by decide) (by decide));refine Oh ?_ he1 hpl1;rw[he1];show wpAny _ _ (spliced ((false,eval (.Call (.Name "set" p2) [e] [] pos2) X.env)::backTo pos (J4 [] X.env))) _ _ s;refine OP ?_;refine Mb (gk I hg2 hm2 boot_set ?_ (by decide) (by decide));refine Lc (thn (ha pos2 pins s σ H _ I h) fun us s1 ⟨vs,H1,I1,r1,q1⟩=>?_) he hpl;obtain⟨l,ns,rfl,hq,hl,q⟩:=q1;obtain⟨u,rfl,rx⟩:=r1.one;cases rx;obtain⟨its,rv,pl,hz⟩:=I1.list hq;have hi:=ng rv;have hlen:its.length=ns.length:=by have:=rv.length;rw[JB]at this;omega
 have calm:X.A.handled=none:=I.ok.hd hc;refine G0 (knd:=intKind X.prog X.w) (fun i=>ns.getD i 0) calm pl.isList (fun i v hv=>?_) (by rw[JU,hlen];exact MZ (Nat.succ_le_of_lt hl) (by decide)) fun h' tk ks r mem kp=>?_
 ·rw[Qu]at hv
  obtain⟨tk,rfl⟩:=Ax hi hv;exact⟨by first|simp[intKind,P8]| (unfold intKind;simp[P8]),rfl⟩
 have memI:∀y,y∈ks↔y∈ns:=fun y=>by
  rw[mem,JU,hlen];constructor
  ·rintro⟨j,hj,rfl⟩
   rw[JN,JD hj];exact MQ hj
  ·intro hy
   obtain⟨j,hj,rfl⟩:=List.getElem_of_mem hy;refine⟨j,hj,?_⟩;rw[JN,JD hj];rfl
 have nd:ks.Nodup:=by
  obtain⟨o,es,ep,t,g1,g2,g3,pr,nd,_⟩:=r;exact nd
 refine Pe ?_;refine Bh calm r (MZ (yr nd fun y hy=>(memI y).mp hy) hl) fun q' h2 dr tk2 out ex ms kp2 ge hx a1 a2 a3=>?_;have kk:∀b o,s1.heap.get? b=some o->h2.get? b=some o:=fun b o eb=>kp2 b o (kp b o (JL eb) eb);have ge1:s1.heap.objs.size<=q':=by
  obtain⟨o,es,ep,t,g1,_⟩:=r;exact KJ (J2 (JL g1) ge)
 have hf:H1 q'=none:=I1.hok.fresh ge1;have nm:ms.Nodup:=a2.nodup_iff.mpr nd;have ml:ms.length<64:=by
  rw[a2.length_eq];exact MZ (yr nd fun y hy=>(memI y).mp hy) hl
 refine⟨.ref q',_,(I1.laid (t':=tk2) (o:=.lst (ms.map V.int)) kk ge1 ?_).drew dr,rfl,q _ _ ms hf (bc hf _) az ?_ fun y=>?_⟩
 ·exact⟨by rw[JB,JJ];omega,out.toList,ex,oO a1,by rw[hx,Array.toArray_toList]⟩
 ·exact(a3.and nm).imp fun⟨z1,z2⟩=>by omega
 ·rw[a2.mem_iff,memI]
end
end
section
open PySem.Spec
section
variable{X:Cx}
end
end
section
open PySem.Spec
section
variable{X:Cx}
end
end
section
open PySem.Spec
section
variable{X:Cx}
theorem wg:cU X (.type "range") A1:=by
 intro pins s σ H xs us Q I r h;obtain⟨n,rfl,hn,q⟩:=h;obtain⟨u,rfl,rx⟩:=lL r;obtain⟨t,rfl⟩:=rx;exact call_range_1 ⟨.ref s.heap.objs.size,_,I.laid (a:=s.heap.objs.size) (o:=.rng 0 (n:Int)) (t':=s.toks+1+1) (fun _ _ q=>JA _ q) (JF _) ⟨_,_,_,JM _ rfl⟩,rfl,q.upd _ (I.hok.fresh (JF _))⟩
theorem wj{n:Nat}{acc:Array Value}(h:ItemsOf (fun i v=>∃t,v=.int ((0:Int)+i*1) t) acc n):aL ((JT n).map fun(i:Nat)=>V.int ((i:Nat):Int)) acc.toList:=by
 obtain⟨hl,hi⟩:=h;have go:∀(xs:List V)(us:List Value),xs.length=us.length->(∀(j:Nat)(x:V)(u:Value),xs[j]?=some x->us[j]?=some u->aO x u)->aL xs us:=by
  intro xs
  induction xs with
  |nil=>intro us hl _;cases us with
   |nil=>exact .nil
   |cons _ _=>simp at hl
  |cons x r ih=>intro us hl h;cases us with
   |nil=>simp at hl
   |cons u t=>exact .cons (h 0 x u rfl rfl) (ih t (by simpa using hl) fun j x u hx hu=>h (j+1) x u hx hu)
 refine go _ _ (by simp[hl]) fun j x u hx hu=>?_;rw[JS]at hx;cases e:(JT n)[j]? with
 |none=>rw[e]at hx;cases hx
 |some z=>
  rw[e]at hx;cases hx;obtain⟨h1,h2⟩:=JG.mp e;rw[OV]at h2;subst h2;obtain⟨t,rfl⟩:=hi j u (by rw[<-Mz];exact hu);exact⟨t,by simp⟩
theorem DH(hc:X.calm=true):cU X (.type "list") xa:=by
 intro pins s σ H xs us Q I r h;obtain⟨p,n,rfl,e,hn,q⟩:=h;obtain⟨u,rfl,rx⟩:=lL r;cases rx;obtain⟨t,u,v,hr⟩:=(show bI X.prog X.w H s.heap p (.rng 0 (n:Int))from I.hok p _ e);refine call_list_range (n:=n) (show X.A.handled=none from I.ok.hd hc) hr (SE (by omega) (by omega) (by omega) (by omega)) ?_ (by omega) fun h' tk acc' c' kp e' it=>?_
 ·rw[QN];split<;>omega
 ·exact⟨.ref s.heap.objs.size,_,I.laid (t':=tk) kp (JF _) (show bI X.prog X.w _ h' _ (.lst _)from⟨by rw[JB,Kz,JJ];omega,acc'.toList,c',wj it,by simpa using e'⟩),rfl,q.upd _ (I.hok.fresh (JF _))⟩
end
end
section
open PySem.Spec
noncomputable abbrev lH(h:Heap)(z TI TO:Addr)(f0:Value)(f:Bool):Prop:=
 h.get? z=some { cls:=.type "zip",dict:=none,data:=.fields #[f0,.bool f,.bool false,.ref TI,.ref TO],slots:=#[] }
section
variable{prog:Program}{w:World}{A:Around}{E:Value->Shared->Prop}{s:Shared}
theorem tU{z TI TO a:Addr}{f:Bool}{oa:Obj}{Q:Bool->Shared->Prop}(hz:lH s.heap z TI TO (rawInt a) f)(ha:s.heap.get? a=some oa)(h:∀g1,lH g1 z TI TO (rawInt a) true->J0 z s.heap g1->Q false { s with heap:=g1 }):
  wpAny (model prog w) A (Kv (.ref z)) Q E s:=by
 obtain⟨hp,g,d,tk₀,os⟩:=s;unfold Kv;refine Jz (KO hz rfl (x:=rawInt a) rfl ?_);show wpAny _ _ (loadIfAlive ((a:Int).toNat)>>=_) _ _ _;rw[Ng];refine Jz (PySem.W.kdx_alive ha ?_);simp only[Option.isNone_some,KW,if_false];refine Jz (KO hz rfl (x:=.bool f) rfl ?_);cases f with
 |true=>
  rw[if_neg (show¬((KP true != KP true)=true)from JQ)];exact JC (h hp hz (Rz _ _))
 |false=>
  rw[if_pos (show(KP false != KP true)=true from rfl)];exact Jz (Mc hz (by simp) fun h₃ he₃ hs₃=>JC (h h₃ he₃ hs₃))
theorem DI{z TI TO j1 j2 a:Addr}{f:Bool}{oa:Obj}{fp1 fp2:List Addr}{n1 n2 k:Nat}{P1 P2:Nat->Value->Prop}{S1 S2:Nat->Heap->Prop}{Q:Value->Shared->Prop}(Z:iA z TI TO j1 j2 fp1 fp2)
  (D1:Draws prog w A j1 fp1 n1 P1 S1) (D2:Draws prog w A j2 fp2 n2 P2 S2) (hz:lH s.heap z TI TO (rawInt a) f) (ha:s.heap.get? a=some oa) (hTI:IsPair s.heap TI (.ref j1) (.ref j2)) (h1:S1 k s.heap) (h2:S2 k s.heap) (l1:k<n1) (l2:k<n2)
  (hQ:∀x y h' tk,P1 k x->P2 k y->lH h' z TI TO (rawInt a) true->S1 (k+1) h'->S2 (k+1) h'->IsPair h' s.heap.objs.size x y->
   (∀c o,c∉[z,j1,j2]->s.heap.get? c=some o->h'.get? c=some o)->Q (.ref s.heap.objs.size) { s with heap:=h',toks:=tk }):
  wpAny (model prog w) A (Builtin.«zip.__next__» ⟨[.ref z],[]⟩) (fun fin s'=>∃v,fin=.done (.ret v)/\Q v s') E s:=by
 obtain⟨hp,g,d,tk₀,os⟩:=s;show wpAny _ _ (field (.ref z) 2>>=_) _ _ _;refine Jz (KO hz rfl (x:=.bool false) rfl ?_);show wpAny _ _ (field (.ref z) 3>>=_) _ _ _;refine Jz (KO hz rfl (x:=.ref TI) rfl ?_);refine Jz (K2 hTI rfl ?_);show wpAny _ _ (Kv (.ref z)>>=_) _ _ _;refine Jz (tU hz ha fun g1 hz1 hs1=>?_);replace hs1:J0 z hp g1:=hs1;simp only[KW,if_false];refine Jz ?_;rw[<-M1];simp only[Nw,NJ];refine Jz ?_;refine Jz (K4 ?_);show wpAny _ _ (Kq (.ref j1)>>=_) _ _ _;refine Jz (D1.item k ⟨g1,g,d,tk₀,os⟩ _ _ l1 (D1.but h1 hs1 Z.b1) fun x g2 tk1 px st1 hs2=>JC ?_);replace hs2:J0 j1 g1 g2:=hs2;refine JC ?_;refine Jz ?_;refine Jz (K4 ?_);show wpAny _ _ (Kq (.ref j2)>>=_) _ _ _;refine Jz (D2.item k ⟨g2,g,d,tk1,os⟩ _ _ l2 (D2.but (D2.but h2 hs1 Z.b4) hs2 Z.b6) fun y g3 tk2 py st2 hs3=>JC ?_);replace hs3:J0 j2 g2 g3:=hs3;refine JC ?_;refine JC ?_;show wpAny _ _ (RU [x,y]>>=fun r=>ret r) _ _ _;have hsz:g3.objs.size=hp.objs.size:=by rw[hs3.1,hs2.1,hs1.1]
 refine Jz (Qp (JC ⟨_,rfl,?_⟩));have up:∀c o,g3.get? c=some o->(g3.push { cls:=.type "tuple",data:=.seq #[x,y] }).get? c=some o:=fun c o e=>JA _ e;have hz3:lH g3 z TI TO (rawInt a) true:=hs3.extBut _ _ Z.a4.symm (hs2.extBut _ _ Z.a3.symm hz1);have hT:IsPair (g3.push { cls:=.type "tuple",data:=.seq #[x,y] }) hp.objs.size x y:=by rw[<-hsz];exact JM _ rfl
 show Q (.ref g3.objs.size) _;rw[hsz];refine hQ x y _ tk2 px py (up _ _ hz3) (D1.frame _ _ _ (D1.but st1 hs3 Z.b3) fun c _ o e=>up c o e) (D2.frame _ _ _ st2 fun c _ o e=>up c o e) hT fun c o hc e=>?_;simp only[JH,KL,or_false,not_or]at hc;exact up c o (hs3.extBut _ _ hc.2.2 (hs2.extBut _ _ hc.2.1 (hs1.extBut _ _ hc.1 e)))
theorem Fl{z TI TO j1 j2 a:Addr}{f:Bool}{oa:Obj}{fp1 fp2:List Addr}{n1 n2 k:Nat}{P1 P2:Nat->Value->Prop}{S1 S2:Nat->Heap->Prop}{Q:Fin->Shared->Prop}(Z:iA z TI TO j1 j2 fp1 fp2)
  (D1:Draws prog w A j1 fp1 n1 P1 S1) (D2:Draws prog w A j2 fp2 n2 P2 S2) (hz:lH s.heap z TI TO (rawInt a) f) (ha:s.heap.get? a=some oa) (hTI:IsPair s.heap TI (.ref j1) (.ref j2)) (h1:S1 k s.heap) (h2:S2 k s.heap) (l:k=min n1 n2)
  (hE:∀h' e tk,(∀c o,c∉[z,TI,TO,j1,j2]->s.heap.get? c=some o->h'.get? c=some o)->(∃o,h'.get? e=some o/\o.cls=.type "StopIteration")->E (.ref e) { s with heap:=h',toks:=tk }):
  wpAny (model prog w) A (Builtin.«zip.__next__» ⟨[.ref z],[]⟩) Q E s:=by
 obtain⟨hp,g,d,tk₀,os⟩:=s;have kp:∀{h':Heap},(∀c o,c≠z->c≠j1->c≠j2->hp.get? c=some o->h'.get? c=some o)->∀c o,c∉[z,TI,TO,j1,j2]->hp.get? c=some o->h'.get? c=some o:=fun{h'} q c o hc e=>by
  simp only[JH,KL,or_false,not_or]at hc;exact q c o hc.1 hc.2.2.2.1 hc.2.2.2.2 e
 show wpAny _ _ (field (.ref z) 2>>=_) _ _ _;refine Jz (KO hz rfl (x:=.bool false) rfl ?_);show wpAny _ _ (field (.ref z) 3>>=_) _ _ _;refine Jz (KO hz rfl (x:=.ref TI) rfl ?_);refine Jz (K2 hTI rfl ?_);show wpAny _ _ (Kv (.ref z)>>=_) _ _ _;refine Jz (tU hz ha fun g1 hz1 hs1=>?_);replace hs1:J0 z hp g1:=hs1;simp only[KW,if_false];refine Jz ?_;rw[<-M1];simp only[Nw,NJ];refine Jz ?_;refine Jz (K4 ?_);show wpAny _ _ (Kq (.ref j1)>>=_) _ _ _;by_cases hk:k=n1
 ·subst hk
  refine Jz (D1.done ⟨g1,g,d,tk₀,os⟩ _ _ (D1.but h1 hs1 Z.b1) fun g2 e hs2 he=>?_);replace hs2:Nt j1 g1 g2:=hs2;exact hE g2 e tk₀ (kp fun c o c1 c2 _ q=>hs2 _ _ c2 (hs1.extBut _ _ c1 q)) he
 ·have hlt:k<n1:=by omega
  have hk2:k=n2:=by omega
  refine Jz (D1.item k ⟨g1,g,d,tk₀,os⟩ _ _ hlt (D1.but h1 hs1 Z.b1) fun x g2 tk1 px st1 hs2=>JC ?_);replace hs2:J0 j1 g1 g2:=hs2;refine JC ?_;refine Jz ?_;refine Jz (K4 ?_);show wpAny _ _ (Kq (.ref j2)>>=_) _ _ _;subst hk2;refine Jz (D2.done ⟨g2,g,d,tk1,os⟩ _ _ (D2.but (D2.but h2 hs1 Z.b4) hs2 Z.b6) fun g3 e hs3 he=>?_);replace hs3:Nt j2 g2 g3:=hs3;exact hE g3 e tk1 (kp fun c o c1 c2 c3 q=>hs3 _ _ c3 (hs2.extBut _ _ c2 (hs1.extBut _ _ c1 q))) he
noncomputable def ZSt(h:Heap)(z TI TO S:Addr)(i:Nat)(far:Addr->Prop):Prop:=(i=0/\IsZip h z TI TO .none/\∃u v,IsPair h TO u v)\/∃(a:Addr)(f:Bool)(oa:Obj),lH h z TI TO (rawInt a) f/\h.get? a=some oa/\far a/\a≠S
noncomputable def ZTs(P1 P2:Nat->Value->Prop)(lo:Addr)(h:Heap)(ts:List Addr):Prop:=∀(j:Nat)(t:Addr),ts[j]?=some t->lo<=t/\∃x y,P1 j x/\P2 j y/\IsPair h t x y
end
section
variable{prog:Program}{w:World}{A:Around}{s:Shared}{R:Result->Shared->Prop}
theorem Fm{z TI TO j1 j2 S lo:Addr}{fp1 fp2:List Addr}{n1 n2:Nat}{P1 P2:Nat->Value->Prop}{S1 S2:Nat->Heap->Prop}(hh:A.handled=none)(Z:iA z TI TO j1 j2 fp1 fp2)
  (D1:Draws prog w A.in1.in1 j1 fp1 n1 P1 S1) (D2:Draws prog w A.in1.in1 j2 fp2 n2 P2 S2) (hn:min n1 n2<=JP) (hS:S∉[z,TI,TO,j1,j2]) (hS1:S∉fp1) (hS2:S∉fp2) (hlo:∀c∈[z,TI,TO,j1,j2,S],c<lo) (hlo1:∀c∈fp1,c<lo) (hlo2:∀c∈fp2,c<lo) (res:Value) {h₁:Heap}
  (hR:∀h' tk acc c ts,(∀b o,b∉[z,TI,TO,j1,j2]->b≠S->h₁.get? b=some o->h'.get? b=some o)->h'.get? S=some { cls:=.type "list",dict:=none,data:=.seq acc c,slots:=#[] }->ts.length=min n1 n2->ZTs P1 P2 lo h' ts->
   acc.toList=ts.map J8->R (.ok (.ret res)) { s with heap:=h',toks:=tk }):
  ∀(m i:Nat)(h:Heap)(tk c:Nat)(acc:Array Value)(ts:List Addr),min n1 n2-i=m->i<=min n1 n2->ZSt h z TI TO S i (fun a=>lo<=a)->IsPair h TI (.ref j1) (.ref j2)->S1 i h->S2 i h->(∀b o,b∉[z,TI,TO,j1,j2]->b≠S->h₁.get? b=some o->h.get? b=some o)->
   h.get? S=some { cls:=.type "list",dict:=none,data:=.seq acc c,slots:=#[] }->acc.toList=ts.map J8->ts.length=i->ZTs P1 P2 lo h ts->lo<=h.objs.size->
   codeAny (model prog w) A (.builtin "list.extend.loop" ⟨[.ref S,.ref z,res],[]⟩) R { s with heap:=h,toks:=tk }:=by
 have notin:∀t,lo<=t->t∉[z,TI,TO,j1,j2]/\t≠S/\t∉fp1/\t∉fp2:=fun t ht=>⟨fun hm=>by
  have:=hlo t (show t∈[z,TI,TO,j1,j2]++[S]from Li _ hm);exact absurd ht (Ox.mpr this),fun e=>by
  have:=hlo S (by simp);rw[e]at ht;exact absurd ht (Ox.mpr this),fun hm=>absurd ht (Ox.mpr (hlo1 t hm)),fun hm=>absurd ht (Ox.mpr (hlo2 t hm))⟩
 intro m
 induction m with
 |zero=>
  intro i h tk c acc ts hk hi hst hTI st1 st2 hkeep hSS hacc hal hG hls;have hin:i=min n1 n2:=by omega
  refine Lx Pr ?_;rw[Lb LL _];show wpAny _ A.in1 (pyNext (.ref z)>>=_) _ _ _;have done:∀h':Heap,∀tk',(∀c o,c∉[z,TI,TO,j1,j2]->h.get? c=some o->h'.get? c=some o)->R (.ok (.ret res)) { s with heap:=h',toks:=tk' }:=fun h' tk' kp=>by
   refine hR h' tk' acc c ts (fun b o h1 h2 e=>kp b o h1 (hkeep b o h1 h2 e)) (kp S _ hS hSS) (by omega) (fun j t hj=>?_) hacc;obtain⟨hlt,x,y,p1,p2,e⟩:=hG j t hj;exact⟨hlt,x,y,p1,p2,kp t _ (notin t hlt).1 e⟩
  have hT:O7 { s with heap:=h,toks:=tk } (.ref z) "zip":=by
   rcases hst with⟨_,hz,_⟩|⟨a,f,oa,hz,_⟩
   ·exact⟨_,hz,rfl⟩
   ·exact⟨_,hz,rfl⟩
  unfold pyNext;refine Jz (Jz (MD (KD (name:=LN "__next__") hT Mh (Ko Mh hT N7 ?_ (NT _)))));rcases hst with⟨_,hz,u,v,hTO⟩|⟨a,f,oa,hz,ha,_,_⟩
  ·refine xI (s:={ s with heap:=h,toks:=tk }) Z D1 D2 hz hTI hTO st1 st2 hin fun h' e tk' kp he=>?_
   obtain⟨o,ho,hcl⟩:=he;exact Jz (LQ (T:="StopIteration") (b:=true) ⟨o,ho,hcl⟩ NK (JC (JC (done h' tk' kp))))
  ·refine Fl (s:={ s with heap:=h,toks:=tk }) Z D1 D2 hz ha hTI st1 st2 hin fun h' e tk' kp he=>?_
   obtain⟨o,ho,hcl⟩:=he;exact Jz (LQ (T:="StopIteration") (b:=true) ⟨o,ho,hcl⟩ NK (JC (JC (done h' tk' kp))))
 |succ m ih=>
  intro i h tk c acc ts hk hi hst hTI st1 st2 hkeep hSS hacc hal hG hls;have hlt:i<min n1 n2:=by omega
  have hsz:acc.size=i:=by rw[<-Kj,hacc,JB,hal]
  refine Lx Pr ?_;rw[Lb LL _];show wpAny _ A.in1 (pyNext (.ref z)>>=_) _ _ _;have hT:O7 { s with heap:=h,toks:=tk } (.ref z) "zip":=by
   rcases hst with⟨_,hz,_⟩|⟨a,f,oa,hz,_⟩
   ·exact⟨_,hz,rfl⟩
   ·exact⟨_,hz,rfl⟩
  have item:∀(h':Heap)(tk':Nat)(x y:Value),P1 i x->P2 i y->ZSt h' z TI TO S (i+1) (fun a=>lo<=a)->S1 (i+1) h'->S2 (i+1) h'->IsPair h' h.objs.size x y->(∀c o,c∉[z,TO,j1,j2]->h.get? c=some o->h'.get? c=some o)->
    wpAny (model prog w) A.in1 (PQ (.ref S) (·.push (J8 h.objs.size))>>=fun _=>again (.builtin "list.extend.loop" ⟨[.ref S,.ref z,res],[]⟩)) (fun fin s'=>match fin with | .done f=>R (.ok f) s' | .again c'=>c'.quiet=true/\codeAny (model prog w) A c' R s') (fun e s'=>R (.error e) s') { s with heap:=h',toks:=tk' }:=by
   intro h' tk' x y px py hst' st1' st2' ht kp;have sub:∀c,c∉[z,TI,TO,j1,j2]->c∉[z,TO,j1,j2]:=fun c hc hm=>hc (by
    simp only[JH,KL,or_false]at hm ⊢;rcases hm with e|e|e|e
    ·exact .inl e
    ·exact .inr (.inr (.inl e))
    ·exact .inr (.inr (.inr (.inl e)))
    ·exact .inr (.inr (.inr (.inr e))))
   have hS':=kp S _ (sub S hS) hSS;have up:∀b o,b≠S->h'.get? b=some o->(h'.update S (La (·.push (J8 h.objs.size)))).get? b=some o:=fun b o hb e=>(Lq _ _ (Lg hb)).trans e;have hSl:S<h.objs.size:=JL hSS;have zS:∀c∈[z,TI,TO,j1,j2],c≠S:=fun c hc e=>hS (by rw[<-e];exact hc);have hTI':IsPair h' TI (.ref j1) (.ref j2):=kp TI _ (by
    simp only[JH,KL,or_false,not_or];exact⟨Z.a1,Z.a5,Z.a6,Z.a7⟩) hTI
   show wpAny _ A.in1 (OX S (·.push (J8 h.objs.size))>>=_) _ _ _;refine Jz ?_;refine M6 hS' rfl (JC ⟨Mo LL _,ih (i+1) _ tk' _ (acc.push (J8 h.objs.size)) (ts++[h.objs.size]) (by omega) hlt ?_ (up TI _ (zS TI (by simp)) hTI')
    (D1.frame _ _ _ st1' fun b hb o e=>up b o (fun q=>hS1 (by rw[<-q];exact hb)) e) (D2.frame _ _ _ st2' fun b hb o e=>up b o (fun q=>hS2 (by rw[<-q];exact hb)) e)
    (fun b o h1 h2 e=>up b o h2 (kp b o (sub b h1) (hkeep b o h1 h2 e))) (KH _ hS' rfl) (by rw[Pl,hacc,JY];rfl) (by rw[JX,hal];rfl) ?_ ?_⟩) (by rw[hsz];omega) (by show(acc.push (J8 h.objs.size)).size<=JP+1;rw[Array.size_push,hsz];omega)
   ·rcases hst' with⟨e,_⟩|⟨a,f,oa,hz,ha,hfar,haS⟩
    ·omega
    ·exact .inr ⟨a,f,oa,up _ _ (zS z (by simp)) hz,up _ _ haS ha,hfar,haS⟩
   ·intro j t hj
    rcases Pj j ts.length with c|c|c
    ·rw[Me c]at hj
     obtain⟨hl,x',y',p1,p2,e⟩:=hG j t hj;obtain⟨n1',n2',_,_⟩:=notin t hl;exact⟨hl,x',y',p1,p2,up t _ n2' (kp t _ (sub t n1') e)⟩
    ·subst c
     have hb:h.objs.size=t:=by simpa using hj
     subst hb;rw[hal];exact⟨hls,x,y,px,py,up _ _ (LA hSl) ht⟩
    ·rw[J5 (by rw[JX,Qk];omega)]at hj
     cases hj
   ·have e:(h'.update S (La (·.push (J8 h.objs.size)))).get? h.objs.size=_:=up _ _ (LA hSl) ht
    exact Kc hls (KJ (JL e))
  unfold pyNext;refine Jz (Jz (MD (KD (name:=LN "__next__") hT Mh (Ko Mh hT N7 ?_ (NT _)))));have hSl:S<h.objs.size:=JL hSS;rcases hst with⟨_,hz,u,v,hTO⟩|⟨a,f,oa,hz,ha,hfar,haS⟩
  ·refine vR (s:={ s with heap:=h,toks:=tk }) Z D1 D2 hz hTI hTO st1 st2 (by omega) (by omega) fun x y h' tk' px py z1 z2 z3 z4 z5 z6 z7=>JC ?_
   refine item h' tk' x y px py (.inr ⟨_,false,_,z1,z5,hls,LA hSl⟩) z3 z4 z5 fun c o hc e=>?_;by_cases q:c=TI
   ·rw[q]at e ⊢
    have:o=_:=JR (e.symm.trans hTI);rw[this];exact z7
   ·refine z6 c o ?_ e
    simp only[JH,KL,or_false,not_or]at hc ⊢;exact⟨hc.1,q,hc.2⟩
  ·refine DI (s:={ s with heap:=h,toks:=tk }) Z D1 D2 hz ha hTI st1 st2 (by omega) (by omega) fun x y h' tk' px py z1 z3 z4 z5 z6=>JC ?_
   have na:=(notin a hfar).1;refine item h' tk' x y px py (.inr ⟨a,true,oa,z1,z6 a oa ?_ ha,hfar,haS⟩) z3 z4 z5 fun c o hc e=>z6 c o ?_ e
   ·simp only[JH,KL,or_false,not_or]at na ⊢
    exact⟨na.1,na.2.2.2.1,na.2.2.2.2⟩
   ·simp only[JH,KL,or_false,not_or]at hc ⊢
    exact⟨hc.1,hc.2.2.1,hc.2.2.2⟩
end
end
section
open PySem.Spec
theorem Inv.news{X:Cx}{pins:List (Addr×Obj)}{σ:St}{H H':Hp}{s:Shared}{h':Heap}{t':Nat}(I:Inv X pins σ H s)(k:∀b u,s.heap.get? b=some u->h'.get? b=some u)(hH:∀b,b<s.heap.objs.size->H' b=H b)
  (new:∀a o,s.heap.objs.size<=a->H' a=some o->bI X.prog X.w H' h' a o):Inv X pins σ H' { s with heap:=h',toks:=t' }:=by
 have same:∀b o,H b=some o->H' b=some o:=fun b o e=>(hH b (I.hok.lt e)).trans e;refine I.un ⟨fun b o q _ _ _=>k b o q,fun b o q _ _ _=>⟨o.slots,k b o q⟩,fun b o q n _=>(hH b (JL q)).trans n,fun b o q _=>⟨o,k b o q⟩,fun b xs e=>same b _ e,fun b o u e=>same b _ e,fun b ps e=>⟨#[],by rw[same b _ e];simp⟩⟩ fun a o e=>?_;by_cases c:a<s.heap.objs.size
 ·rw[hH a c]at e
  exact(I.hok a o e).stay (fun b u _ q=>k b u q) (fun b q=>same b _ q) fun b xs q=>same b _ q
 ·exact new a o (Po.mp c) e
theorem Fn{prog:Program}{w:World}{A:Around}{E:Value->Shared->Prop}{s:Shared}{z:Addr}{Q:Bool->Shared->Prop}(hT:s.TypeIs (.ref z) "zip")(h:Q true s):wpAny (model prog w) A (Mw (.ref z)) Q E s:=by
 unfold Mw;refine Jz (Lm hT (show QB (.type "zip") "__len__"=pure none by rw[Ow,Nl];kernel_rfl) ?_);show wpAny _ _ (specialOf (J8 z) (LN "__length_hint__")>>=_) _ _ _;refine Jz (Lm hT (show QB (.type "zip") "__length_hint__"=pure none by rw[Ow,Nl];kernel_rfl) ?_);exact JC h
section
variable{prog:Program}{w:World}{A:Around}{E:Value->Shared->Prop}{s:Shared}
theorem Bj{z TI TO j1 j2 S:Addr}{fp1 fp2:List Addr}{n1 n2:Nat}{P1 P2:Nat->Value->Prop}{S1 S2:Nat->Heap->Prop}{R:Result->Shared->Prop}(hh:A.handled=none)(Z:iA z TI TO j1 j2 fp1 fp2)
  (D1:Draws prog w A.in1.in1 j1 fp1 n1 P1 S1) (D2:Draws prog w A.in1.in1 j2 fp2 n2 P2 S2) (hn:min n1 n2<=JP) (hS:S∉[z,TI,TO,j1,j2]) (hS1:S∉fp1) (hS2:S∉fp2) (hlo:∀c∈[z,TI,TO,j1,j2,S],c<s.heap.objs.size) (hlo1:∀c∈fp1,c<s.heap.objs.size) (hlo2:∀c∈fp2,c<s.heap.objs.size)
  (hz:IsZip s.heap z TI TO .none) {u v:Value} (hTO:IsPair s.heap TO u v) (hTI:IsPair s.heap TI (.ref j1) (.ref j2)) (st1:S1 0 s.heap) (st2:S2 0 s.heap) {c₀:Nat} (hSS:s.heap.get? S=some { cls:=.type "list",data:=.seq #[] c₀ })
  (hR:∀h' tk acc c ts,(∀b o,b∉[z,TI,TO,j1,j2]->b≠S->s.heap.get? b=some o->h'.get? b=some o)->h'.get? S=some { cls:=.type "list",dict:=none,data:=.seq acc c,slots:=#[] }->ts.length=min n1 n2->ZTs P1 P2 s.heap.objs.size h' ts->
   acc.toList=ts.map J8->R (.ok (.ret .none)) { s with heap:=h',toks:=tk }):
  wpAny (model prog w) A.in1 (KY (.ref S) (.ref z) .none)
   (fun fin s'=>match fin with | .done f=>R (.ok f) s' | .again c'=>c'.quiet=true/\codeAny (model prog w) A c' R s') (fun e s'=>R (.error e) s') s:=by
 have zS:∀c∈[z,TI,TO,j1,j2],c≠S:=fun c hc e=>hS (by rw[<-e];exact hc);have hT:s.TypeIs (.ref z) "zip":=⟨_,hz,rfl⟩;unfold KY;refine Jz (Oi (T:="zip") hT ?_);have h1:MS (.ref S) (.ref z)=false:=by simp[MS,(zS z (by simp)).symm]
 have h2:(K9 "zip"==K9 "list")=false:=by decide
 have h3:(K9 "zip"==K9 "tuple")=false:=by decide
 simp only[h1,h2,h3,Bool.or_false,KW,if_false];refine Jz (PB hz ?_);refine Jz (K4 (Fn hT ?_));rw[if_pos (by simp)];refine Jz (Ma ?_);refine Jz ?_;show wpAny _ _ (OX S (·.push .none)>>=fun _=>OX S (·.pop)) _ _ _;refine Jz (M6 hSS rfl ?_);have hS₂:=KH (La (·.push K8)) hSS rfl;refine M6 (hz:=by seq_fits) hS₂ rfl ?_;have hS₃:=KH (La (·.pop)) hS₂ rfl;have oth:∀b o,b≠S->s.heap.get? b=some o->((s.heap.update S (La (·.push K8))).update S (La (·.pop))).get? b=some o:=fun b o hb e=>
  (Lq _ _ (Lg hb)).trans ((Lq _ _ (Lg hb)).trans e)
 refine JC ⟨Mo LL _,Fm (s:=s) (lo:=s.heap.objs.size) (h₁:=s.heap) hh Z D1 D2 hn hS hS1 hS2 hlo hlo1 hlo2 .none hR (min n1 n2) 0 _ _ _ #[] [] (Nat.sub_zero _) (Ks _) (.inl ⟨rfl,oth z _ (zS z (by simp)) hz,u,v,oth TO _ (zS TO (by simp)) hTO⟩) (oth TI _ (zS TI (by simp)) hTI)
  (D1.frame _ _ _ st1 fun b hb o e=>oth b o (fun q=>hS1 (by rw[<-q];exact hb)) e) (D2.frame _ _ _ st2 fun b hb o e=>oth b o (fun q=>hS2 (by rw[<-q];exact hb)) e) (fun b o _ hb e=>oth b o hb e) hS₃ rfl rfl (fun j t hj=>by simp at hj) ?_⟩
 rw[PJ,PJ];exact JF _
theorem Fo{z TI TO j1 j2:Addr}{fp1 fp2:List Addr}{n1 n2:Nat}{P1 P2:Nat->Value->Prop}{S1 S2:Nat->Heap->Prop}{Q:Value->Shared->Prop}(hh:A.handled=none)(Z:iA z TI TO j1 j2 fp1 fp2)
  (D1:∀A':Around,A'.handled=none->Draws prog w A' j1 fp1 n1 P1 S1) (D2:∀A':Around,A'.handled=none->Draws prog w A' j2 fp2 n2 P2 S2) (hn:min n1 n2<=JP) (hlo:∀c∈[z,TI,TO,j1,j2],c<s.heap.objs.size) (hlo1:∀c∈fp1,c<s.heap.objs.size) (hlo2:∀c∈fp2,c<s.heap.objs.size)
  (hz:IsZip s.heap z TI TO .none) {u v:Value} (hTO:IsPair s.heap TO u v) (hTI:IsPair s.heap TI (.ref j1) (.ref j2)) (st1:S1 0 s.heap) (st2:S2 0 s.heap)
  (hQ:∀h' tk acc c ts,(∀b o,b∉[z,TI,TO,j1,j2]->s.heap.get? b=some o->h'.get? b=some o)->h'.get? s.heap.objs.size=some { cls:=.type "list",dict:=none,data:=.seq acc c,slots:=#[] }->ts.length=min n1 n2->ZTs P1 P2 (s.heap.objs.size+1) h' ts->
   acc.toList=ts.map J8->Q (.ref s.heap.objs.size) { s with heap:=h',toks:=tk }):
  wpAny (model prog w) A (call (.type "list") [.ref z]) Q E s:=by
 refine callType_codes (Q₁:=fun obj s₁=>obj=.ref s.heap.objs.size/\s₁={ s with heap:=s.heap.push { cls:=.type "list",data:=.seq #[] } }) PySem.F.called_list (PySem.F.typeCall_list_1 _) PySem.F.entry_list_init
  (code_list_new _ ⟨rfl,rfl⟩) fun obj s₁ h₁=>?_
 obtain⟨rfl,rfl⟩:=h₁;have hS:(s.heap.push { cls:=.type "list",data:=.seq #[] }).get? s.heap.objs.size=some { cls:=.type "list",data:=.seq #[] }:=JM _ rfl;refine⟨⟨_,hS,rfl⟩,PySem.F.args_list_init_2 _ _,?_⟩;show wpAny _ _ (do let old <-Qh (.ref s.heap.objs.size);PQ (.ref s.heap.objs.size) (fun _=>#[]);letGo old.toList.reverse;KY (.ref s.heap.objs.size) (.ref z) .none) _ _ _;refine Jz ?_;unfold Qh;refine Jz (K2 hS rfl (JC ?_));show wpAny _ _ (OX s.heap.objs.size (fun _=>#[])>>=fun _=>letGo (#[]:Array Value).toList.reverse>>=fun _=>KY (.ref s.heap.objs.size) (.ref z) .none) _ _ _;refine Jz (M6 hS rfl ?_);have hS₂:=KH (La (fun _=>(#[]:Array Value))) hS rfl;have oth:∀b o,b≠s.heap.objs.size->(s.heap.push { cls:=.type "list",data:=.seq #[] }).get? b=some o->((s.heap.push { cls:=.type "list",data:=.seq #[] }).update s.heap.objs.size (La (fun _=>(#[]:Array Value)))).get? b=some o:=
  fun b o hb e=>(Lq _ _ (Lg hb)).trans e
 have oth':∀b o,s.heap.get? b=some o->((s.heap.push { cls:=.type "list",data:=.seq #[] }).update s.heap.objs.size (La (fun _=>(#[]:Array Value)))).get? b=some o:=fun b o e=>oth b o (Kg (JL e)) (JA _ e);have sz:((s.heap.push { cls:=.type "list",data:=.seq #[] }).update s.heap.objs.size (La (fun _=>(#[]:Array Value)))).objs.size=s.heap.objs.size+1:=by rw[PJ,Kk]
 refine Jz (Qf ?_);refine Bj (A:=A.in1) hh Z (D1 _ hh) (D2 _ hh) hn (fun hm=>Lv _ (hlo _ hm)) (fun hm=>Lv _ (hlo1 _ hm)) (fun hm=>Lv _ (hlo2 _ hm)) (fun c hc=>?_) (fun c hc=>?_) (fun c hc=>?_) (oth' _ _ hz) (oth' _ _ hTO) (oth' _ _ hTI)
  ((D1 _ hh).frame _ _ _ st1 fun b _ o e=>oth' b o e) ((D2 _ hh).frame _ _ _ st2 fun b _ o e=>oth' b o e) hS₂ (fun h' tk acc c ts hk hS' hl hG hacc=>?_)
 ·show c<((s.heap.push { cls:=.type "list",data:=.seq #[] }).update s.heap.objs.size (La (fun _=>(#[]:Array Value)))).objs.size
  rw[sz];rcases Ka.mp (show c∈[z,TI,TO,j1,j2]++[s.heap.objs.size]from hc)with hc|hc
  ·exact Le (hlo c hc)
  ·rw[JE.mp hc];exact Lp _
 ·show c<((s.heap.push { cls:=.type "list",data:=.seq #[] }).update s.heap.objs.size (La (fun _=>(#[]:Array Value)))).objs.size
  rw[sz];exact Le (hlo1 c hc)
 ·show c<((s.heap.push { cls:=.type "list",data:=.seq #[] }).update s.heap.objs.size (La (fun _=>(#[]:Array Value)))).objs.size
  rw[sz];exact Le (hlo2 c hc)
 ·have hG':ZTs P1 P2 (s.heap.objs.size+1) h' ts:=by rw[<-sz];exact hG
  exact⟨rfl,hQ h' tk acc c ts (fun b o hb e=>hk b o hb (Kg (JL e)) (oth' b o e)) hS' hl hG' hacc⟩
end
section
variable{X:Cx}
theorem G9{h:Heap}{us vs:List Value}{xs ys:List V}{lo:Addr}{ts:List Addr}(ru:aL xs us)(rv:aL ys vs)(hl:ts.length=min us.length vs.length)(G:ZTs (fun i v=>us.toArray[i]?=some v) (fun i v=>vs.toArray[i]?=some v) lo h ts):
  ∀(i:Nat)(t:Addr),ts[i]?=some t->lo<=t/\∃x y u v,xs[i]?=some x/\ys[i]?=some y/\aO x u/\aO y v/\IsPair h t u v:=fun i t ht=>by
 obtain⟨h1,u,v,p1,p2,e⟩:=G i t ht;have hi:i<ts.length:=(JG.mp ht).1;have l1:=ru.length;have l2:=rv.length;obtain⟨x,hx⟩:∃x,xs[i]?=some x:=⟨_,JD (by omega)⟩;obtain⟨y,hy⟩:∃y,ys[i]?=some y:=⟨_,JD (by omega)⟩;obtain⟨u',hu',ru'⟩:=ru.get hx;obtain⟨v',hv',rv'⟩:=rv.get hy;have eu:u=u':=by
  have:us.toArray[i]?=some u':=by simpa using hu'
  rw[this]at p1;exact(JR p1).symm
 have ev:v=v':=by
  have:vs.toArray[i]?=some v':=by simpa using hv'
  rw[this]at p2;exact(JR p2).symm
 subst eu ev;exact⟨h1,x,y,u,v,hx,hy,ru',rv',e⟩
theorem yO{x y:V}{u:Value}(a:aO x u)(b:aO y u):x=y:=by
 cases x<;>cases y<;>simp only[aO]at a b<;>first
  |rfl
  | (subst a;cases b;rfl)
  | (subst a;cases b;done)
  | (obtain⟨t,rfl⟩:=a;obtain⟨t',e⟩:=b;cases e;rfl)
  | (obtain⟨t,rfl⟩:=a;obtain⟨t',e⟩:=b;cases e;done)
  | (obtain⟨t,rfl⟩:=a;cases b;done)
  | (subst a;obtain⟨t',e⟩:=b;cases e;done)
theorem Ha(S1 S2:Src){a b:Expr}{ta:TA}{p pos p2 pos2:Pos}(hc:X.calm=true)(hgl:Gl X "list")(hml:X.mg "list"=none)(hg:Gl X "zip")(hm:X.mg "zip"=none)(ha:PA X [a,b] ta)
  (hs:J4 [a,b] X.env=[(false,eval a X.env),(false,eval b X.env)]:=by rfl) (hs2:J4 [b] X.env=[(false,eval b X.env)]:=by rfl)
  (hs3:J4 [.Call (.Name "zip" p2) [a,b] [] pos2] X.env=[(false,eval (.Call (.Name "zip" p2) [a,b] [] pos2) X.env)]:=by rfl):
  PE X (.Call (.Name "list" p) [.Call (.Name "zip" p2) [a,b] [] pos2] [] pos) (A2 S1 S2 X.K ta):=by
 intro pins s σ H Q I h;refine Mb (gk I hgl hml L6 (Lc ?_ hs3 rfl));rw[hs3];show wpAny _ _ (spliced [(false,eval (.Call (.Name "zip" p2) [a,b] [] pos2) X.env)]) _ _ s;refine OP ?_;refine Call_ (gk I hg hm boot_zip (Lc (thn (ha pos2 pins s σ H _ I h) fun us s1 ⟨vs,H1,I1,r1,q1⟩=>?_) (by rw[hs,hs2]) (by rw[hs2];rfl)));obtain⟨l1,l2,xs,ys,e,hq1,hq2,hxl,q⟩:=q1;subst e;obtain⟨u,v,rfl,ru,rv⟩:=r1.two;cases ru;cases rv;obtain⟨us1,rv1,p1,_⟩:=S1.get I1 hq1;obtain⟨us2,rv2,p2',_⟩:=S2.get I1 hq2;refine Re F.called_zip (by decide) (RX _ _) (Ss _ _) (fun obj=>QG obj _ _) Su (zX S1 S2 l1 l2 us1.toArray us2.toArray) ⟨p1,p2',?_⟩;generalize hn:s1.heap.objs.size=n;have z1:(zh1 S1 s1.heap l1).objs.size=n+1:=by rw[Kk,hn]
 have z2:(zh2 S1 S2 s1.heap l1 l2).objs.size=n+2:=by rw[Kk,z1]
 have z3:(zh3 S1 S2 s1.heap l1 l2).objs.size=n+3:=by rw[Kk,z2]
 have z4:(zh4 S1 S2 s1.heap l1 l2).objs.size=n+4:=by rw[Kk,z3]
 have z5:(zh5 S1 S2 s1.heap l1 l2).objs.size=n+5:=by rw[Kk,z4]
 have g5:(zh5 S1 S2 s1.heap l1 l2).get? (zh4 S1 S2 s1.heap l1 l2).objs.size=some _:=JM _ rfl;have g4:(zh5 S1 S2 s1.heap l1 l2).get? (zh3 S1 S2 s1.heap l1 l2).objs.size=some _:=JA _ (JM _ rfl);have g3:(zh5 S1 S2 s1.heap l1 l2).get? (zh2 S1 S2 s1.heap l1 l2).objs.size=some _:=JA _ (JA _ (JM _ rfl));have g2:(zh5 S1 S2 s1.heap l1 l2).get? (zh1 S1 s1.heap l1).objs.size=some _:=JA _ (JA _ (JA _ (JM _ rfl)));have g1:(zh5 S1 S2 s1.heap l1 l2).get? s1.heap.objs.size=some _:=JA _ (JA _ (JA _ (JA _ (JM _ rfl))));have kp:∀c o,s1.heap.get? c=some o->(zh5 S1 S2 s1.heap l1 l2).get? c=some o:=fun c o e=>
  JA _ (JA _ (JA _ (JA _ (JA _ e))))
 show _/\_;rw[z2,z3,z4]at g5;rw[z1,z2,hn]at g3;rw[z3]at g4;rw[z1]at g2;rw[hn]at g1;rw[z4];refine⟨⟨_,g5,rfl⟩,Pe ?_⟩;have lt1:l1<n:=by
  obtain⟨o,_,ho,_⟩:=S1.isSeq p1;rw[<-hn];exact JL ho
 have lt2:l2<n:=by
  obtain⟨o,_,ho,_⟩:=S2.isSeq p2';rw[<-hn];exact JL ho
 have five:∀c:Nat,c∈[n+4,n+2,n+3,n,n+1]->n<=c/\c<n+5:=fun c hc=>by
  simp only[JH,KL,or_false]at hc;omega
 have nel:∀l c:Nat,l<n->n<=c->c≠l:=fun l c h1 h2=>by omega
 have Z:iA (n+4) (n+2) (n+3) n (n+1) [n,l1] [n+1,l2]:=zap (by simp) (fun c hc=>nel l1 c lt1 (five c hc).1) (fun c hc=>nel l2 c lt2 (five c hc).1);have is1:S1.Is (zh5 S1 S2 s1.heap l1 l2) l1 us1.toArray:=S1.isKeep p1 fun o e=>kp _ _ e;have is2:S2.Is (zh5 S1 S2 s1.heap l1 l2) l2 us2.toArray:=S2.isKeep p2' fun o e=>kp _ _ e;refine Fo (s:={ s1 with heap:=zh5 S1 S2 s1.heap l1 l2 }) (n1:=us1.toArray.size) (n2:=us2.toArray.size) (I1.ok.hd hc) Z (fun A' hA=>S1.draws hA n l1 (nel l1 n lt1 (JF _)).symm us1.toArray) (fun A' hA=>S2.draws hA (n+1) l2 (nel l2 (n+1) lt2 (L8 _)).symm us2.toArray) ?_ ?_ ?_ ?_ g5 g4 g3 ⟨S1.mkI g1 rfl rfl,is1⟩ ⟨S2.mkI g2 rfl rfl,is2⟩ ?_
 ·have:=rv1.length
  simp only[JU];rw[JJ];omega
 ·intro c hc
  show c<(zh5 S1 S2 s1.heap l1 l2).objs.size;rw[z5];exact(five c hc).2
 ·intro c hc
  show c<(zh5 S1 S2 s1.heap l1 l2).objs.size;rw[z5];rcases JH.mp hc with rfl|hc
  ·exact Nat.lt_add_of_pos_right (by decide)
  ·rw[JE.mp hc];exact J2 lt1 (Lz _ _)
 ·intro c hc
  show c<(zh5 S1 S2 s1.heap l1 l2).objs.size;rw[z5];rcases JH.mp hc with rfl|hc
  ·exact Nat.add_lt_add_left (by decide) n
  ·rw[JE.mp hc];exact J2 lt2 (Lz _ _)
 intro h' tk acc c ts hk hS' hl hG hacc;have hS'':h'.get? (n+5)=some { cls:=.type "list",dict:=none,data:=.seq acc c,slots:=#[] }:=by rw[<-z5];exact hS'
 have hG':ZTs (fun i v=>us1.toArray[i]?=some v) (fun i v=>us2.toArray[i]?=some v) (n+5+1) h' ts:=by rw[<-z5];exact hG
 have hl':ts.length=min us1.length us2.length:=by simpa using hl
 have G:=G9 rv1 rv2 hl' hG';have old:∀b o,s1.heap.get? b=some o->h'.get? b=some o:=fun b o e=>hk b o (fun hm=>by
  have:=JL e;rw[hn]at this;exact absurd (five b hm).1 (Ox.mpr this)) (kp b o e)
 have l1':=rv1.length;have l2':=rv2.length
 let H':Hp:=fun b=>if b=n+5 then some (.lst (ts.map V.ref))else match ts.findIdx? (· ==b)with
  |some i=>(match xs[i]?,ys[i]? with|some x,some y=>some (.tup [x,y])|_,_=>H1 b)
  |none=>H1 b
 have big:∀(i:Nat)(t:Addr),ts[i]?=some t->n+6<=t:=fun i t ht=>(G i t ht).1;have Hts:∀(i:Nat)(t:Addr),ts[i]?=some t->∃x y u v,H' t=some (.tup [x,y])/\xs[i]?=some x/\ys[i]?=some y/\aO x u/\aO y v/\IsPair h' t u v:=by
  intro i t ht;obtain⟨hlo,x,y,u,v,hx,hy,rx,ry,e⟩:=G i t ht;refine⟨x,y,u,v,?_,hx,hy,rx,ry,e⟩;have net:t≠n+5:=fun q=>by rw[q]at hlo;exact absurd hlo (Ox.mpr (Lp _))
  show(if t=n+5 then _ else _)=_;rw[if_neg net];cases hf:ts.findIdx? (· ==t)with
  |none=>
   have:=Nx.mp hf t (JK ht);simp at this
  |some i0=>
   obtain⟨h0,h1,_⟩:=L9.mp hf;have ht0:ts[i0]?=some t:=by rw[JD h0];congr 1;exact eq_of_beq h1
   obtain⟨_,x0,y0,u0,v0,hx0,hy0,rx0,ry0,e0⟩:=G i0 t ht0;have eq:=JR (e0.symm.trans e);have eu:u0=u/\v0=v:=by
    injection eq with _ _ eq
    injection eq with eq _
    simp at eq;exact eq
   rw[eu.1]at rx0;rw[eu.2]at ry0;simp only[hx0,hy0];rw[yO rx0 rx,yO ry0 ry]
 have hH:∀b,b<s1.heap.objs.size->H' b=H1 b:=by
  intro b hb;rw[hn]at hb;have ne5:b≠n+5:=fun q=>by rw[q]at hb;exact absurd hb (Po.mpr (Lz _ _))
  show(if b=n+5 then _ else _)=_;rw[if_neg ne5];cases hf:ts.findIdx? (· ==b)with
  |none=>rfl
  |some i0=>
   obtain⟨h0,h1,_⟩:=L9.mp hf;have ht0:ts[i0]?=some b:=by rw[JD h0];congr 1;exact eq_of_beq h1
   have:=big i0 b ht0;exact absurd (J2 hb (Kc (Lz _ _) this)) (Lv _)
 have e5:H' (n+5)=some (.lst (ts.map V.ref)):=if_pos rfl;have hvals:aL (ts.map V.ref) acc.toList:=by
  have go:∀l:List Addr,aL (l.map V.ref) (l.map J8):=fun l=>by
   induction l with
   |nil=>exact .nil
   |cons t r ih=>exact .cons rfl ih
  rw[hacc];exact go ts
 have I2:Inv X pins σ H' { s1 with heap:=h',toks:=tk }:=I1.news old hH fun a o ha eo=>by
  by_cases c5:a=n+5
  ·subst c5
   rw[e5]at eo;cases eo;refine⟨?_,acc.toList,c,hvals,by simpa using hS''⟩;rw[JB,hl',JJ];omega
  ·have eo':(match ts.findIdx? (· ==a)with
    |some i=>(match xs[i]?,ys[i]? with|some x,some y=>some (HO.tup [x,y])|_,_=>H1 a)
    |none=>H1 a)=some o:=by
    have:H' a=some o:=eo;rw[show H' a=(if a=n+5 then some (.lst (ts.map V.ref))else match ts.findIdx? (· ==a)with
     |some i=>(match xs[i]?,ys[i]? with|some x,some y=>some (.tup [x,y])|_,_=>H1 a)
     |none=>H1 a)from rfl,if_neg c5]at this
    exact this
   have hfr:H1 a=none:=I1.hok.fresh ha;cases hf:ts.findIdx? (· ==a)with
   |none=>rw[hf]at eo';rw[show H1 a=some o from eo']at hfr;cases hfr
   |some i0=>
    obtain⟨h0,h1,_⟩:=L9.mp hf;have ht0:ts[i0]?=some a:=by rw[JD h0];congr 1;exact eq_of_beq h1
    obtain⟨_,x0,y0,u0,v0,hx0,hy0,rx0,ry0,e0⟩:=G i0 a ht0;rw[hf]at eo';simp only[hx0,hy0]at eo';cases eo';exact⟨(by show 2<=JP;decide),[u0,v0],.cons rx0 (.cons ry0 .nil),_,e0,rfl,⟨0,rfl⟩,rfl⟩
 have hp5:H1 (n+5)=none:=I1.hok.fresh (by rw[hn];exact Lz _ _);have hsame:am H1 H':=fun b o eb=>by
  rw[hH b (I1.hok.lt eb)];exact eb
 show∃v H',_/\_/\_;refine⟨.ref (n+5),H',I2,by rw[<-z5];rfl,q _ _ hp5 hsame ⟨ts,e5,?_⟩⟩;have go:∀(l:List Addr)(m:List (V×V)),l.length=m.length->(∀(i:Nat)(t:Addr)(pq:V×V),l[i]?=some t->m[i]?=some pq->H' t=some (.tup [pq.1,pq.2]))->mV H' l m:=by
  intro l
  induction l with
  |nil=>intro m hl _;cases m with
   |nil=>exact .nil
   |cons _ _=>simp at hl
  |cons t r ih=>intro m hl hh;cases m with
   |nil=>simp at hl
   |cons pq m=>exact .cons (hh 0 t pq rfl rfl) (ih m (by simpa using hl) fun i t pq h1 h2=>hh (i+1) t pq h1 h2)
 refine go _ _ (by rw[M5];omega) fun i t pq ht hpq=>?_;obtain⟨x,y,u,v,e,hx,hy,_⟩:=Hts i t ht;rw[e];have:(xs.zip ys)[i]?=some (x,y):=by rw[MH];exact⟨hx,hy⟩
 rw[this]at hpq;cases hpq;rfl
end
end
section
open PySem.Spec
section
variable{prog:Program}{w:World}{A:Around}{E:Value->Shared->Prop}{s:Shared}
theorem wF{Q:List Value->Shared->Prop}{r:Addr}{a b c:Int}{t u v:Tok}{n:Nat}(hh:A.handled=none)(hr:IsRange s.heap r a b c t u v)(hsmall:Q0 a b c=true)(hn:NO a b c=n)(hlen:n<=2^24)
  (hQ:∀(h':Heap)(tk:Nat)(acc':Array Value),(∀b o,s.heap.get? b=some o->h'.get? b=some o)->ItemsOf (fun i v=>∃t,v=.int (a+i*c) t) acc' n->Q acc'.toList { s with heap:=h',toks:=tk }):
  wpAny (model prog w) A (collect (.ref r)) Q E s:=by
 unfold collect;refine Jz (Qs (Lx F.entry_proto_collect ?_));rw[Lb F.plain_proto_collect _];show wpAny _ A.in1 (newList []>>=fun l=>again (.builtin "list.__iadd__" ⟨[l,.ref r],[]⟩)) _ _ s;refine Jz (Ky ?_);refine JC ⟨Mo RB _,Lx F.entry_list_iadd ?_⟩;rw[Lb RB _];show wpAny _ A.in1 (KY (.ref s.heap.objs.size) (.ref r) (.ref s.heap.objs.size)) _ _ _;have hS:(s.heap.push { cls:=.type "list",data:=.seq ([]:List Value).toArray }).get? s.heap.objs.size=some { cls:=.type "list",data:=.seq #[] 0 }:=JM _ rfl;have fin':∀(h':Heap)(tk c':Nat)(acc':Array Value),(∀b o,b≠s.heap.objs.size->(s.heap.push { cls:=.type "list",data:=.seq ([]:List Value).toArray }).get? b=some o->h'.get? b=some o)->h'.get? s.heap.objs.size=some { cls:=.type "list",dict:=none,data:=.seq acc' c',slots:=#[] }->ItemsOf (fun i v=>∃t,v=.int (a+i*c) t) acc' n->wpAny (model prog w) A (match J8 s.heap.objs.size with
   |J8 a=>do
    match (<-load a).data with
     |Data.seq xs _=>pure xs.toList
     |_=>unsupported "internal:collect"
   |_=>unsupported "internal:collect") Q E { s with heap:=h',toks:=tk }:=by
  intro h' tk c' acc' hk hS' hacc;show wpAny _ A (load s.heap.objs.size>>=_) _ _ _;refine Jz (QA hS' ?_);refine JC ?_;exact hQ h' tk acc' (fun b o e=>hk b o (Kg (JL e)) (JA _ e)) hacc
 refine Lj (wpAny_extend_range (A:=A) (R:=fun r s'=>r=.ok (.ret (.ref s.heap.objs.size))/\∃(h':Heap)(tk c':Nat)(acc':Array Value),s'={ s with heap:=h',toks:=tk }/\(∀b o,b≠s.heap.objs.size->(s.heap.push { cls:=.type "list",data:=.seq ([]:List Value).toArray }).get? b=some o->h'.get? b=some o)/\h'.get? s.heap.objs.size=some { cls:=.type "list",dict:=none,data:=.seq acc' c',slots:=#[] }/\ItemsOf (fun i v=>∃t,v=.int (a+i*c) t) acc' n)
  (s:={ s with heap:=s.heap.push { cls:=.type "list",data:=.seq ([]:List Value).toArray } }) hh (JA _ hr) hsmall hn hlen s.heap.objs.size (.ref s.heap.objs.size) 0 hS fun h' tk acc' c' hk hS' hacc=>⟨rfl,h',tk,c',acc',rfl,hk,hS',hacc⟩) (fun fin s' h=>?_) (fun e s' h=>?_)
 ·cases fin with
  |done f=>
   obtain⟨e,h',tk,c',acc',rfl,h1,h2,h3⟩:=h;cases e;exact fin' h' tk c' acc' h1 h2 h3
  |again c'=>exact⟨h.1,MN h.2 fun r s'' hr=>by obtain⟨rfl,h',tk,c',acc',rfl,h1,h2,h3⟩:=hr;exact fin' h' tk c' acc' h1 h2 h3⟩
 ·exact absurd h.1 (by simp)
theorem rK{Q:Value->Shared->Prop}{r:Addr}{a b c:Int}{t u v:Tok}{n:Nat}(hh:A.handled=none)(hr:IsRange s.heap r a b c t u v)(hsmall:Q0 a b c=true)(hn:NO a b c=n)(hlen:n<=2^24)
  (hQ:∀(h':Heap)(tk:Nat)(acc':Array Value),(∀b o,s.heap.get? b=some o->h'.get? b=some o)->ItemsOf (fun i v=>∃t,v=.int (a+i*c) t) acc' n->Q (.ref h'.objs.size) { s with heap:=h'.push { cls:=.type "tuple",data:=.seq acc' },toks:=tk }):
  wpAny (model prog w) A (call (.type "tuple") [.ref r]) Q E s:=by
 refine callType_codes (Q₁:=fun obj s₁=>s₁.TypeIs obj "tuple"/\Q obj s₁) Qw (F.typeCall_tuple_1 _) F.entry_object_init ?_ fun obj s₁ h₁=>?_
 ·refine P5 ?_
  show wpAny _ A.in1.in1 (do R9 "tuple.__new__" ⟨[.type "tuple",.ref r],[]⟩;again (.builtin "tuple.__new__" ⟨[.type "tuple",.ref r],[]⟩)) _ _ s;refine Jz (OL (F.newCall_tuple_1 _) (JC ⟨Mo RC _,Lx F.entry_tuple_new ?_⟩));rw[Lb RC _];have hsub:=sub_tuple_self;have hinit:=init_tuple_lookup;have hmh:=madeHere_tuple;have hTI:O7 s (.ref r) "range":=⟨_,hr,rfl⟩
  wp_walk using Oi hTI,wF (A:=A.in1.in1) (show A.in1.in1.handled=none from hh) hr hsmall hn hlen
  intro h' tk acc hk hacc;show wpAny _ _ (LO acc.toList.toArray>>=fun v=>ret v) _ _ _;unfold LO;have hz:acc.size<=JP:=by rw[hacc.1,JJ];omega
  refine Jz (Ky ?_ (by show acc.toList.toArray.size<=JP;simpa using hz));refine JC ?_;have e:acc.toList.toArray=acc:=by simp
  rw[e];exact⟨⟨_,JM _ rfl,rfl⟩,hQ h' tk acc hk hacc⟩
 ·exact⟨h₁.1,QF obj _,object_init_meets Qw.init.lookup Qw.made (by decide) prog w A.in1 _ s₁ ⟨h₁.1,rfl,h₁.2⟩⟩
end
section
variable{X:Cx}{tg:Expr}
theorem DJ(hc:X.calm=true):cU X (.type "tuple") xc:=by
 intro pins s σ H xs us Q I r h;obtain⟨p,n,rfl,e,hn,q⟩:=h;obtain⟨u,rfl,rx⟩:=lL r;cases rx;obtain⟨t,u,v,hr⟩:=(show bI X.prog X.w H s.heap p (.rng 0 (n:Int))from I.hok p _ e);refine rK (n:=n) (show X.A.handled=none from I.ok.hd hc) hr (SE (by omega) (by omega) (by omega) (by omega)) ?_ (by omega) fun h' tk acc' kp it=>?_
 ·rw[QN];split<;>omega
 ·have I1:Inv X pins σ H { s with heap:=h',toks:=tk }:=I.kept (t':=tk) kp
  have I2:Inv X pins σ (upd H h'.objs.size (.tup ((JT n).map fun(i:Nat)=>V.int ((i:Nat):Int)))) { s with heap:=h'.push { cls:=.type "tuple",data:=.seq acc' },toks:=tk }:=
   I1.laid (t':=tk) (fun b o e=>JA _ e) (JF _) (show bI X.prog X.w _ _ _ (.tup _)from⟨by rw[JB,Kz,JJ];omega,acc'.toList,wj it,by simpa using d6.new h' acc'⟩)
  exact⟨.ref h'.objs.size,_,I2,rfl,q.upd _ (I1.hok.fresh (JF _))⟩
end
end
section
open PySem.Spec
theorem Bk{M:Model}{A:Around}{E:Value->Shared->Prop}{s:Shared}{scope:Scope}{globals:Addr}{cl:List (Str×Addr)}{qual:Str}{func:Option Addr}{code:Value}{outer:Env}{builtins:Addr}{x:Str}{Q:Env->Shared->Prop}
  (hown:∀n acc,PX n scope.names acc=(x,n)::acc) (hpush:∀h:Heap,pushCells h scope.names=h.push { cls:=.type "cell",data:=.cell none })
  (hQ:Q (newEnv scope s.heap.objs.size globals ((x,s.heap.objs.size+1)::cl) qual func code (some outer) builtins) { s with heap:=(s.heap.push { cls:=.type "dict",data:=.dict #[] }).push { cls:=.type "cell",data:=.cell none } }):
  wpAny M A (OE scope globals cl [] qual func code (some outer) builtins) Q E s:=by
 simp only[OE,Rf,if_true];refine Jz (wpAny_alloc ?_);refine Jz (wpAny_layCells _ (fun name kind cells=>by cases hkc:kind==Np<;>simp[hkc]) _ _ _ _ ?_);rw[hown,hpush];rw[show({ s with heap:=s.heap.push { cls:=.type "dict",data:=.dict #[] } }:Shared).heap.objs.size=s.heap.objs.size+1 from Kk ..];rw[NJ];exact Jz (JC (JC hQ))
structure nV(sc scope:Scope)(NX N:List Str)(ix:List (Option Nat))(x:Str):Prop where
 kind:scope.kind=.function
 own:∀y∈scope.names,y.2=.cell->y.1=x
 ownx:scope.names.lookup x=some .cell
 cells:∀n acc,PX n scope.names acc=(x,n)::acc
 push:∀h:Heap,pushCells h scope.names=h.push { cls:=.type "cell",data:=.cell none }
 names:∀y∈scope.names,y.2=.local->scope.names.lookup y.1=some .local
 free:∀y∈scope.names,y.2=.free->y.1≠x/\(sc.names.lookup y.1=some .cell\/sc.names.lookup y.1=some .free)
 nd:N.Nodup
 len:ix.length=N.length
 at_:∀p∈N.zip ix,∀i∈p.2,NX[i]?=some p.1/\scope.names.lookup p.1=some .free
noncomputable def bX(X:Cx)(N:List Str)(scope:Scope)(x:Str)(C:Addr)(s:Shared)(H:Hp)(fp:List Addr):Cx where
 prog:=X.prog
 w:=X.w
 K:=X.K
 mg:=X.mg
 base:=X.base
 A:=X.A
 N:=N
 s₀:=s
 H₀:=H
 env:=N5 scope ((x,C+1)::cR X.env scope.names []) C X.env
 outer:=X.stack
 stack:=X.stack
 ex:=fp
 fn:=fun y=>decide (y=x)
 calm:=X.calm
 pn:=[]
 xe:=fun _ _=>False
theorem DK{X:Cx}{N:List Str}{scope:Scope}{x:Str}{C:Addr}{s:Shared}{H:Hp}{fp:List Addr}:(bX X N scope x C s H fp).fn x=true:=by
 show decide (x=x)=true;simp
theorem jv{x y:Str}{c d:Addr}{l:List (Str×Addr)}(h:((x,d)::l).lookup y=some c):(y=x/\c=d)\/(y≠x/\l.lookup y=some c):=by
 rw[KC]at h;cases e:y==x with
 |true=>rw[e]at h;cases h;exact .inl ⟨eq_of_beq e,rfl⟩
 |false=>
  rw[e]at h;refine .inr ⟨fun z=>?_,h⟩;rw[z,beq_self_eq_true]at e;cases e
theorem Hb{x:Str}{d:Addr}{l:List (Str×Addr)}:((x,d)::l).lookup x=some d:=by rw[KC,beq_self_eq_true]
theorem wk{x y:Str}{d c:Addr}{l:List (Str×Addr)}(n:y≠x)(h:l.lookup y=some c):((x,d)::l).lookup y=some c:=by
 rw[KC,beq_eq_false_iff_ne.mpr n];exact h
section
variable{X:Cx}{elt tg iter:Expr}{ifs:List Expr}{scope sc:Scope}{pos:Pos}{NX N:List Str}{ix:List (Option Nat)}{own:Str}{wi:TI}{g:CF TG}{tt:CF TT}{te:CF TE}
theorem qU{pins:List (Addr×Obj)}{σ:St}{H:Hp}{s:Shared}{fp:List Addr}{it:Addr}{J:It}{tn:Nat->Heap->Prop}{Q:VK}{E:Value->Shared->Prop}{RR:Value->Addr->Result->Shared->Prop}
  (hc:X.calm=true) (hsc:X.env.scope=sc) (hNX:X.N=NX) (S:nV sc scope NX N ix own)
  (hg:∀C s H fp,PG (bX X N scope own C s H fp) tg (g C s H fp)) (ht:∀C s H fp,PTL (bX X N scope own C s H fp) ifs (tt C s H fp)) (he:∀C s H fp,PE (bX X N scope own C s H fp) elt (te C s H fp))
  (I:Inv X pins σ H s) (T:oI X.prog X.w X.K tg J fp it tn) (st:tn 0 s.heap) (hf:∀b∈fp,ip X pins H b)
  (hq:∀p,H p=none->∃W:Nat->Nat->List V->Hp->Prop,(∃m,W 0 m [] (upd H p (.lst [])))/\∀C s' H' fp,bE J (g C s' H' fp) (tt C s' H' fp) (te C s' H' fp) (sub ix σ) p Q W)
  (hR:∀p C s' H' m,s.heap.objs.size<=p->s.heap.objs.size<=C->s'.heap.Ns C m->H' C=none->Q (.ref p) H'->Inv X pins σ H' s'->RR (.ref p) C (.ok .next) s'):
  wpAny (model X.prog X.w) X.A (newList []) (fun acc s₃=>wpAny (model X.prog X.w) X.A (OE scope X.env.globals (cR X.env scope.names []) [] X.env.qual none .none (some X.env)) (fun cenv s₄=>
   codeAny (model X.prog X.w) X.A (.compStart (.ListComp elt [⟨tg,iter,ifs,0⟩] scope pos) 0 (.ref it) acc { cenv with scope:=relabel scope X.env }) (RR acc cenv.locals) s₄) E s₃) E s:=by
 refine Ky (Bk S.cells S.push ?_);dsimp only;have hsz:(s.heap.push { cls:=.type "list",dict:=none,data:=.seq ([]:List Value).toArray }).objs.size=s.heap.objs.size+1:=Kk ..;have hns₀:=Heap.Ns.new (s.heap.push { cls:=.type "list",dict:=none,data:=.seq ([]:List Value).toArray }) (.type "dict");have hsz₂:((s.heap.push { cls:=.type "list",dict:=none,data:=.seq ([]:List Value).toArray }).push { cls:=.type "dict",data:=.dict #[] }).objs.size=s.heap.objs.size+2:=by rw[Kk,Kk]
 have keep₁:∀b o,s.heap.get? b=some o->(((s.heap.push { cls:=.type "list",dict:=none,data:=.seq ([]:List Value).toArray }).push { cls:=.type "dict",data:=.dict #[] }).push { cls:=.type "cell",data:=.cell none }).get? b=some o:=fun b o e=>JA _ (JA _ (JA _ e));have lst₁:(((s.heap.push { cls:=.type "list",dict:=none,data:=.seq ([]:List Value).toArray }).push { cls:=.type "dict",data:=.dict #[] }).push { cls:=.type "cell",data:=.cell none }).get? s.heap.objs.size=some { cls:=.type "list",data:=.seq ([]:List Value).toArray }:=JA _ (JA _ (JM _ rfl));have cel₁:(((s.heap.push { cls:=.type "list",dict:=none,data:=.seq ([]:List Value).toArray }).push { cls:=.type "dict",data:=.dict #[] }).push { cls:=.type "cell",data:=.cell none }).IsCell (s.heap.objs.size+2) none:=⟨_,by rw[<-hsz₂];exact JM _ rfl,rfl⟩;have hns₁:=hns₀.keeps (h':=((s.heap.push { cls:=.type "list",dict:=none,data:=.seq ([]:List Value).toArray }).push { cls:=.type "dict",data:=.dict #[] }).push { cls:=.type "cell",data:=.cell none }) (fun b o e=>JA _ e);generalize ((s.heap.push { cls:=.type "list",dict:=none,data:=.seq ([]:List Value).toArray }).push { cls:=.type "dict",data:=.dict #[] }).push { cls:=.type "cell",data:=.cell none }=h₁ at hns₁ keep₁ lst₁ cel₁ ⊢;generalize hC:(s.heap.push { cls:=.type "list",dict:=none,data:=.seq ([]:List Value).toArray }).objs.size=C at hns₁ ⊢;rw[hsz]at hC;generalize hp:s.heap.objs.size=p at hC;have pC:p≠C:=by omega
 have old:∀b o,s.heap.get? b=some o->h₁.get? b=some o:=keep₁;have hnew:h₁.get? p=some { cls:=.type "list",data:=.seq ([]:List Value).toArray }:=by rw[<-hp];exact lst₁
 have cel:h₁.IsCell (C+1) none:=by
  have e:C+1=s.heap.objs.size+2:=by omega
  rw[e];exact cel₁
 have hfO:H (C+1)=none:=I.hok.fresh (by omega);have hfp:H p=none:=I.hok.fresh (by omega);have hfC:H C=none:=I.hok.fresh (by omega);have lt:∀b∈fp,b<p:=fun b hb=>by
  obtain⟨o,e,_⟩:=T.obj 0 _ st b hb;rw[<-hp];exact JL e
 have hcells:∀y∈scope.names,y.2=.free->∃c,X.env.cells.lookup y.1=some c:=fun y hy hk=>by
  refine I.ok.has y.1 ?_;show X.env.scope.names.lookup y.1=some .cell\/X.env.scope.names.lookup y.1=some .free;rw[hsc];exact(S.free y hy hk).2
 have noown:∀x,scope.names.lookup x=some .cell->x=own:=fun x e=>S.own _ (Kn e) rfl;have low:∀{x:Str} {c:Addr},(cR X.env scope.names []).lookup x=some c->c<p:=fun{x c} e=>by
  obtain⟨v,o,ho,_⟩:=I.cell x c (ci e);rw[<-hp];exact JL ho
 have hok:(bX X N scope own C s H fp).Ok:=by
  refine⟨I.ok.mod,S.kind,I.ok.glob,I.ok.blt,by show s.heap.objs.size<=C;omega,fun x y c h1 h2=>?_,fun x hx=>?_,fun x c z hc'=>?_,I.ok.hd,I.ok.frames,.inl rfl,fun b hb=>?_,I.bs,Kc I.ok.bsz I.sz,fun b o e hb=>?_,fun b hb z=>?_,I.stack,I.stkFree⟩
  ·rcases jv h1 with⟨e1,z1⟩|⟨_,h1⟩<;>rcases jv h2 with⟨e2,z2⟩|⟨_,h2⟩
   ·rw[e1,e2]
   ·have a1:@LT.lt Nat _ c p:=low h2
    have a2:@Eq Nat c (C+1):=z1;omega
   ·have a1:@LT.lt Nat _ c p:=low h1
    have a2:@Eq Nat c (C+1):=z2;omega
   ·exact I.ok.inj x y c (ci h1) (ci h2)
  ·by_cases hxo:x=own
   ·exact⟨C+1,by subst hxo;exact Hb⟩
   have hx':scope.names.lookup x=some .free:=by
    rcases hx with hx|hx
    ·rcases ir hx with q|q
     ·exact absurd (noown x q) hxo
     ·exact q.2
    ·rcases ir hx with q|q
     ·exact q
     ·exact q.2
   obtain⟨c,hc'⟩:=hcells _ (Kn hx') rfl;exact⟨c,wk hxo (lN (Kn hx') hc')⟩
  ·have z':x=own:=of_decide_eq_true z
   rcases jv hc' with⟨_,e⟩|⟨n,_⟩
   ·have a2:@Eq Nat c (C+1):=e
    have a3:@LE.le Nat _ s.heap.objs.size c:=by omega
    exact a3
   ·exact absurd z' n
  ·refine⟨?_,fun x c e=>?_⟩
   ·show b≠C
    exact kj (lt b hb) (by omega)
   ·rcases jv e with⟨_,e⟩|⟨_,e⟩
    ·have a1:@LT.lt Nat _ b p:=lt b hb
     have a2:@Eq Nat c (C+1):=e;intro z;have a3:@Eq Nat c b:=z;omega
    ·exact(hf b hb).2.2.2.2.1 x c (ci e)
  ·rcases(hf b hb).2.2.2.1 with z|z
   ·exact I.ok.noex b o e z
   ·exact absurd (J2 (JL e) (Kc I.ok.bsz z)) (Lv _)
  ·rcases JH.mp (I.stkSub b z)with q|q
   ·exact(hf b hb).2.1 q
   ·exact(hf b hb).2.2.1 q
 have locs:∀h':Heap,(∀x c o,X.env.cells.lookup x=some c->s.heap.get? c=some o->∃sl,h'.get? c=some { o with slots:=sl })->
   ∀(i:Nat)(x:Str)(v:V),N[i]?=some x->(sub ix σ)[i]?=some (some v)->∃u,aO v u/\∀m,DR (N5 scope ((own,C+1)::cR X.env scope.names []) C X.env) h' m x u:=by
  intro h' hk i x v h1 h2;obtain⟨k,hk',hv⟩:∃k,ix[i]?=some (some k)/\σ[k]?=some (some v):=by
   unfold sub at h2;rw[JS]at h2;cases e:ix[i]? with
   |none=>rw[e]at h2;cases h2
   |some o=>
    rw[e]at h2;cases o with
    |none=>cases h2
    |some k=>
     refine⟨k,rfl,?_⟩;have h2':(match σ[k]? with|some v=>v|none=>none)=some v:=JR h2;cases e2:σ[k]? with
     |none=>rw[e2]at h2';cases h2'
     |some z=>
      rw[e2]at h2';rw[show z=some v from h2']
  have hm:(x,some k)∈N.zip ix:=by
   refine JK (i:=i) ?_;rw[MH];exact⟨h1,hk'⟩
  obtain⟨a1,a2⟩:=S.at_ _ hm k (by simp);obtain⟨hno,hX⟩:=S.free _ (Kn a2) rfl;have hvis:Vis X.env.scope x:=by
   show _\/_\/_;rw[hsc];exact .inr hX
  obtain⟨m,hn,hl⟩:=I.loc;obtain⟨u,r,l⟩:=hl k x v (by rw[hNX];exact a1) hv hvis;refine⟨u,r,fun m'=>.inr ⟨oQ a2,?_⟩⟩;rcases l with⟨l,_⟩|⟨_,c,e,z⟩
  ·have l':X.env.scope.names.lookup x=some .local:=l
   rw[hsc]at l';rcases hX with q|q<;>(rw[q]at l';cases l')
  ·obtain⟨o,ho,hd⟩:=z
   obtain⟨sl,e'⟩:=hk x c o e ho;exact⟨c,wk hno (lN (Kn a2) e),_,e',hd⟩
 have hlen:(sub ix σ).length=N.length:=by
  unfold sub;rw[JB];exact S.len
 have I1:Inv (bX X N scope own C s H fp) [] (sub ix σ) (upd H p (.lst [])) { s with heap:=h₁ }:=by
  refine⟨hok,rfl,I.bare,Un.laid old (MM hp) hfp,⟨_,hns₁,fun i x v h1 h2 h3=>?_⟩,fun x c e=>?_,?_,fun x c e=>?_,fun q hq=>(nomatch hq),I.hok.laid old (MM hp) ⟨Ks _,[],0,.nil,hnew⟩,hlen⟩
  ·obtain⟨u,r,l⟩:=locs h₁ (fun y c o _ ho=>⟨o.slots,old c o ho⟩) i x v h1 h2
   exact⟨u,r,l _⟩
  ·rcases jv e with⟨_,e⟩|⟨_,e⟩
   ·rw[e]
    exact⟨none,cel⟩
   ·obtain⟨v,o,ho,hd⟩:=I.cell x c (ci e)
    exact⟨v,o,old c o ho,hd⟩
  ·show upd H p _ C=none
   rw[aR (Lg pC)];exact hfC
  ·rcases jv e with⟨_,e⟩|⟨_,e⟩
   ·rw[e,aR (show C+1≠p by omega)]
    exact hfO
   have e':=ci e;obtain⟨v,o,ho,hd⟩:=I.cell x c e';rw[aR (kj (JL ho) (MM hp))];exact I.freeC x c e'
 have back:∀{pl:List (Addr×Obj)} {σ':St} {H':Hp} {s':Shared},Inv (bX X N scope own C s H fp) pl σ' H' s'->Inv (bX X N scope own C s H fp) pl (sub ix σ) H' s':=fun{pl σ' H' s'} J=>by
  obtain⟨m,hn,_⟩:=J.loc;refine⟨J.ok,J.os,J.bare,J.base,⟨m,hn,fun i x v h1 h2 h3=>?_⟩,J.cell,J.free,J.freeC,J.pin,J.hok,hlen⟩;obtain⟨u,r,l⟩:=locs s'.heap (fun y c o hc' ho=>J.base.any ho (I.freeC y c hc') fun hb=>(hf c hb).2.2.2.2.1 y c hc' rfl) i x v h1 h2;exact⟨u,r,l _⟩
 obtain⟨W,⟨m0,w0⟩,turn⟩:=hq p hfp;have st1:tn 0 h₁:=T.keep 0 _ _ st fun b _ o e=>old b o e;have fp1:∀{H':Hp},(∀b∈fp,H' b=none)->∀b∈fp,ip (bX X N scope own C s H fp) [] H' b:=fun{H'} hn b hb=>
  ⟨hn b hb,(hok.exf b hb).1,hok.exfs b hb,.inl hb,(hok.exf b hb).2,fun q hq=>(nomatch hq)⟩
 have loop:codeAny (model X.prog X.w) X.A (.compLoop (.ListComp elt [⟨tg,iter,ifs,0⟩] scope pos) 0 (.ref it) (.ref p) (N5 scope ((own,C+1)::cR X.env scope.names []) C X.env)) (RR (.ref p) C) { s with heap:=h₁ }:=by
  refine vP (fun n s'=>∃i acc H',Inv (bX X N scope own C s H fp) [] (sub ix σ) H' s'/\tn i s'.heap/\(∀b∈fp,H' b=none)/\W i n acc H') ?_ m0
   ⟨0,[],_,I1,st1,fun b hb=>by rw[aR (kj (lt b hb) (JF _))];exact(hf b hb).1,w0⟩
  rintro n s3 ⟨i,acc,H3,I3,st3,fr3,w3⟩;obtain⟨hacc,w4⟩:=turn C s H fp i n acc H3 w3;rcases w4 with⟨stop,qn⟩|⟨go,hln,N',hN',step⟩
  ·refine thn (T.done (bX X N scope own C s H fp) rfl rfl rfl hc i [] s3 _ H3 (fun _ _=>False) I3 (fp1 fr3) st3 stop) fun r s4 ⟨hr,I4⟩=>?_
   subst hr;obtain⟨m,hn,_⟩:=I4.loc;refine hR p C s4 H3 m (by omega) (by omega) hn I4.free qn ?_;exact I.call' I4.os I4.base I4.hok I4.bare fun b hb=>⟨(hf b hb).2.2.2.1,(hf b hb).2.1,(hf b hb).2.2.2.2.1,(hf b hb).2.2.2.2.2⟩
  ·refine thn (T.item (bX X N scope own C s H fp) rfl rfl rfl hc i [] s3 _ H3 (fun _ _=>False) I3 (fp1 fr3) st3 go) fun r s4 ⟨u,hr,h4⟩=>?_
   subst hr;refine thn h4 fun _ s5 ⟨x,H5,I5,r5,y5,st5,fr5⟩=>?_;have I5':=I5.pinned (fp1 fr5) (T.obj _ _ st5);refine thn (hg C s H fp _ s5 _ H5 x u _ I5' r5 (step x H5 y5)) fun _ s6 ⟨σ6,H6,I6,q6⟩=>?_;have later:∀{s7:Shared} {H7:Hp} {acc':List V} {σ7:St},Inv (bX X N scope own C s H fp) ([]++mO fp s5.heap) σ7 H7 s7->(∃m',m'<n/\W (i+1) m' acc' H7)->
     ∃m,m<n/\∃i acc H',Inv (bX X N scope own C s H fp) [] (sub ix σ) H' s7/\tn i s7.heap/\(∀b∈fp,H' b=none)/\W i m acc H':=fun{s7 H7 acc' σ7} I7 ⟨m',hm,w7⟩=>by
    refine⟨m',hm,i+1,acc',H7,back (I7.unpinned (pins:=[])),T.keep _ _ _ st5 fun b hb o e=>(I7.pin (b,o) (Kh _ (Kh _ (fN hb e)))).1,fun b hb=>?_,w7⟩;obtain⟨o,e,d⟩:=T.obj _ _ st5 b hb;exact(I7.pin (b,o) (Kh _ (Kh _ (fN hb e)))).2.1
   refine thn (ht C s H fp _ s6 σ6 H6 _ I6 q6) fun ok s7 ⟨H7,I7,q7⟩=>?_;cases ok with
   |false=>exact later I7 (hN' _ _ q7)
   |true=>
    refine thn (he C s H fp _ s7 σ6 H7 _ I7 q7) fun y s8 ⟨v8,H8,I8,r8,hacc8,w8⟩=>?_;refine thn (cW (X:=bX X N scope own C s H fp) _ s8 σ6 H8 (.ref p) [v8] (.ref p) [y] (fun _ H9=>H9=upd H8 p (.lst (acc++[v8]))) I8 rfl (.cons r8 .nil) ⟨p,acc,v8,rfl,rfl,hacc8,hln,rfl⟩) fun _ s9 ⟨_,H9,I9,_,e9⟩=>?_;subst e9;exact later I9 (hN' _ _ w8)
 exact Qd loop (T.self _ 0 _ _ _ st1 loop)
theorem Fp(hc:X.calm=true)(S:nV sc scope NX N ix own)(hi:PI X tg iter wi)
  (hg:∀C s H fp,PG (bX X N scope own C s H fp) tg (g C s H fp)) (ht:∀C s H fp,PTL (bX X N scope own C s H fp) ifs (tt C s H fp)) (he:∀C s H fp,PE (bX X N scope own C s H fp) elt (te C s H fp))
  (hsc:X.env.scope=sc:=by rfl) (hNX:X.N=NX:=by rfl) (hs:∀x,Nf iter X.env x=pure x:=by intro _;rfl):
  PE X (.ListComp elt [⟨tg,iter,ifs,0⟩] scope pos) (bo wi g tt te ix):=by
 intro pins s σ H Q I h;rw[eval_ListComp];have hcells:Ol scope X.env=pure (cR X.env scope.names []):=kF fun y hy hk=>by
  refine I.ok.has y.1 ?_;show X.env.scope.names.lookup y.1=some .cell\/X.env.scope.names.lookup y.1=some .free;rw[hsc];exact(S.free y hy hk).2
 refine MP (use:=none) rfl hs hcells S.kind S.names (thn (hi pins s σ H _ I h) fun v s1 h1=>thn h1 fun itv s2 h2=>?_);obtain⟨it,fp,tn,J,H2,e,I2,T,st2,f2,hq⟩:=h2;subst e;refine qU (Q:=Q) (RR:=fun acc C=>RS (model X.prog X.w) X.A X.xe none (EP X pins σ Q) acc C) hc hsc hNX S hg ht he I2 T st2 f2 hq ?_;intro p C s' H' m hp hC hn hfree q I';exact⟨m,hn,fun h'' hs''=>⟨.ref p,H',I'.gone I2 hC hfree hs'',rfl,q⟩⟩
theorem zF{i:Nat}{y:Str}{py spos:Pos}(hN:X.N.Nodup)(hy:X.N[i]?=some y)(hl:X.env.scope.names.lookup y=some .local)(hc:X.calm=true)(S:nV sc scope NX N ix own)(hi:PI X tg iter wi)
  (hg:∀C s H fp,PG (bX X N scope own C s H fp) tg (g C s H fp)) (ht:∀C s H fp,PTL (bX X N scope own C s H fp) ifs (tt C s H fp)) (he:∀C s H fp,PE (bX X N scope own C s H fp) elt (te C s H fp))
  (hsw:OM (.ListComp elt [⟨tg,iter,ifs,0⟩] scope pos) (some (.Name y py)) spos.line X.env=pure true:=by rfl)
  (hsc:X.env.scope=sc:=by rfl) (hNX:X.N=NX:=by rfl) (hs:∀x,Nf iter X.env x=pure x:=by intro _;rfl):
  PS X (.Assign [.Name y py] (.ListComp elt [⟨tg,iter,ifs,0⟩] scope pos) spos) (aA (bo wi g tt te ix) (ag i)):=by
 intro pins s σ H D I h;rw[Qm _ _ _ _ hsw];have hcells:Ol scope X.env=pure (cR X.env scope.names []):=kF fun z hz hk=>by
  refine I.ok.has z.1 ?_;show X.env.scope.names.lookup z.1=some .cell\/X.env.scope.names.lookup z.1=some .free;rw[hsc];exact(S.free z hz hk).2
 refine Jz (OZ (Jz ?_));show wpAny _ X.A (do let _ <-comprehension (.ListComp elt [⟨tg,iter,ifs,0⟩] scope pos) scope X.env _ (newList []) false (eval iter X.env) (some (assign (.Name y py) X.env))) _ _ s;refine Jz (thn (MP (use:=some (assign (.Name y py) X.env)) (Q:=fun _ s'=>SP X pins D .next s') rfl hs hcells S.kind S.names (thn (hi pins s σ H _ I h) fun v s1 h1=>thn h1 fun itv s2 h2=>?_)) fun _ s' q=>JC (JC q));obtain⟨it,fp,tn,J,H2,e,I2,T,st2,f2,hq⟩:=h2;subst e;refine qU (Q:=fun x H1=>ag i x σ H1 D.nx) (RR:=fun acc C=>RS (model X.prog X.w) X.A X.xe (some (assign (.Name y py) X.env)) (fun _ s'=>SP X pins D .next s') acc C) hc hsc hNX S hg ht he I2 T st2 f2 hq ?_;intro p C s' H' m hp hC hn hfree q I';refine Pc (oE (v:=.ref p) I' hN hy (.inl hl) rfl (fun s'' I'' ⟨a,hsb,ha⟩=>?_) (.inr hl));have ne:C≠a:=by
  rcases ha with rfl|ha
  ·exact LA (J2 I2.lt hC)
  ·obtain⟨v,o,ho,_⟩:=I2.cell y a ha
   exact LA (J2 (JL ho) hC)
 exact⟨m,hn.sameBut hsb ne,fun h'' hs''=>⟨_,H',I''.gone I2 hC hfree hs'',q⟩⟩
end
end
section
open PySem.Spec
noncomputable def vwD(v:List Nat):PyData:=.list (v.map fun(k:Nat)=>.int (k:Int))
theorem wl:∀v w:List Nat,Pa (v.map fun(k:Nat)=>NM (k:Int)) (w.map fun(k:Nat)=>NM (k:Int))=decide (v=w)
 | [],[]=>rfl
 | [],_::_=>rfl
 |_::_,[]=>rfl
 |a::v,b::w=>by
  rw[JZ,JZ,Pa,wl v w,NL,MY,K5,decide_eq_true_iff,decide_eq_true_iff,P0,beq_iff_eq,Int.ofNat_inj]
theorem tV:∀v w:List (List Nat),Pa (v.map vwD) (w.map vwD)=decide (v=w)
 | [],[]=>rfl
 | [],_::_=>rfl
 |_::_,[]=>rfl
 |a::v,b::w=>by
  rw[JZ,JZ,Pa,tV v w];have:NL (vwD a) (vwD b)=decide (a=b):=by
   unfold vwD;rw[NL];exact wl a b
  rw[this,MY,K5,decide_eq_true_iff,decide_eq_true_iff,decide_eq_true_iff,P0]
theorem wm:∀w:List Nat,LZ (w.map fun(k:Nat)=>NM (k:Int))=true
 | []=>rfl
 |k::g=>by show(true&&LZ _)=true;rw[wm g];rfl
theorem tW:∀w:List (List Nat),LZ (w.map vwD)=true
 | []=>rfl
 |k::g=>by show(LZ (k.map fun(k:Nat)=>NM (k:Int))&&LZ _)=true;rw[wm k,tW g];rfl
theorem tX:∀g:List Nat,Mj (g.map fun(k:Nat)=>NM (k:Int))=0
 | []=>rfl
 |k::g=>by show max 0 (Mj _)=0;rw[tX g];rfl
theorem qV:∀g:List (List Nat),Mj (g.map vwD)<=1
 | []=>Ks _
 |k::g=>by
  show max (Mj (k.map fun(k:Nat)=>NM (k:Int))+1) (Mj _)<=1;rw[tX k];have:=qV g;omega
theorem ow(g:List (List Nat)):MR (.list (g.map vwD))=true:=by
 unfold MR;rw[show PyData.canLay0 (.list (g.map vwD))=LZ (g.map vwD)from rfl,tW g,decide_eq_true ?_]
 ·rfl
 ·show Mj (g.map vwD)+1<=64
  have:=qV g;omega
theorem wn{K:Fg}{H:Hp}:∀v:List Nat,iZ K H (ar v) (v.map fun(k:Nat)=>NM (k:Int))
 | []=>.nil
 |k::v=>.cons (.int _) (wn v)
theorem tY{K:Fg}{H:Hp}{rs:List Addr}{vs:List (List Nat)}(h:Paired (fun(r:Addr)(v:List Nat)=>H r=some (.lst (ar v))) rs vs):iZ K H (rs.map V.ref) (vs.map vwD):=by
 induction h with
 |nil=>exact .nil
 |cons r _ ih=>exact .cons (.lst (SqL.of r) (wn _)) ih
theorem DL{X:Cx}(hu:X.A.units+64<cLine):OpR X (Lk .Eq) A7:=by
 intro pins s σ H x y v u Q I rx ry h;obtain⟨a,b,vs,ws,rfl,rfl,⟨rs,e1,p1⟩,⟨ts,e2,p2⟩,q⟩:=h;refine IC hu pins s σ H _ _ v u Q I rx ry ⟨_,_,.lst (SqL.of e1) (tY p1),.lst (SqL.of e2) (tY p2),ow vs,ow ws,?_⟩;show Q (.bl (NL (.list (vs.map vwD)) (.list (ws.map vwD)))) H;rw[NL,tV];exact q
end
end L2
section
namespace L2
open PySem
end L2
end
namespace L2
open PySem PyProof.Rows
section
open PySem.Spec PySem.Calls
section
variable{X:Cx}
end
end
end L2
section
namespace L2
open PySem PySem.Spec PySem.W PyProof.Rows
noncomputable def FnA(K:Frag)(x q:Str)(st:Stmt)(f:Addr):Prop:=∃(oc:Value)(od:Option Addr)(kV doc pm:Value)(an:Option Addr)(cd ct:Value)(sl:Array (Option Value)),K.lookup f=some ⟨oc,od,.func (fnOf x q (jn st) (d9 st) (aj st) .none kV doc pm an cd ct),sl⟩/\codeIn K cd q=true/\keepIn K (.ref f)=true
noncomputable def DfA(K:Frag)(x:Str)(st:Stmt):Prop:=∃f,nsIn K Kb x=some (some (.ref f))/\FnA K x x st f
noncomputable def MtA(K:Frag)(C:Addr)(m q:Str)(st:Stmt):Prop:=∃f,findIn K (.ref C) m=some (some (.ref f))/\isFn K (.ref f)=true/\FnA K m q st f
theorem FnA.fn{K:Frag}{x q:Str}{st:Stmt}{f:Addr}(h:FnA K x q st f):∃fd,Fun K x q st f fd:=let⟨_,_,_,_,_,_,_,_,_,l,c,k⟩:=h;⟨_,Cw l c k⟩
noncomputable abbrev BdA(x q:Str)(st:Stmt)(ps:List Str):Prop:=∀(kV doc pm:Value)(an:Option Addr)(cdv ct:Value)(us:List Value),us.length=ps.length->bindArgs (fnOf x q (jn st) (d9 st) (aj st) .none kV doc pm an cdv ct) ⟨us,[]⟩=pure (ps.zip us)
theorem DfA.df{K:Frag}{mg:Str->Option Value}{h:Heap}{x:Str}{st:Stmt}{ps:List Str}(X:K.In h)(G:h.Ns Kb mg)(q:DfA K x st)(b:BdA x x st ps):∃f fd,Def K mg x st ps f fd:=
 let⟨f,a,l⟩:=q;let⟨fd,F⟩:=l.fn;⟨f,fd,F,mg_of X G a,F.binds b⟩
theorem MtA.df{K:Frag}{C:Addr}{m q:Str}{st:Stmt}{ps:List Str}(h:MtA K C m q st)(b:BdA m q st ps):∃f fd,fA K C m q st ps f fd:=
 let⟨f,a,i,l⟩:=h;let⟨fd,F⟩:=l.fn;⟨f,fd,F,⟨a,i,F.kp⟩,F.binds b⟩
theorem MtA.di{K:Frag}{C:Addr}{q:Str}{st:Stmt}{ps:List Str}(h:MtA K C "__init__" q st)(mk:makesIn K C=true)(kc:keepIn K (.ref C)=true)(b:BdA "__init__" q st ps):∃f fd,yp K C q st ps f fd:=
 let⟨f,a,i,l⟩:=h;let⟨fd,F⟩:=l.fn;⟨f,fd,F,⟨mk,a,i,kc⟩,F.binds b⟩
theorem DfA.law{K:Frag}{mg:Str->Option Value}{h:Heap}{x p:Str}{st:Stmt}{fa:Addr}(X:K.In h)(G:h.Ns Kb mg)(q:DfA K x st)(b:BdA x x st [p])(hf:mg x=some (.ref fa))
  (bb:∀(kV doc pm:Value)(an:Option Addr)(cdv ct:Value)(s:Shared)(v:Value),BindsTo s (fnOf x x (jn st) (d9 st) (aj st) .none kV doc pm an cdv ct) ⟨[v],[]⟩ [(p,v)]):∃fd,Def K mg x st [p] fa fd/\∀(s:Shared)(v:Value),BindsTo s fd ⟨[v],[]⟩ [(p,v)]:=by
 obtain⟨f,a,_,_,kV,doc,pm,an,cdv,ct,_,l,c,k⟩:=q;have e:=hf.symm.trans (mg_of X G a);cases e;have F:=Cw l c k;exact⟨_,⟨F,mg_of X G a,F.binds b⟩,bb kV doc pm an cdv ct⟩
end L2
end
namespace Kc_k40
open PySem L2 PyProof.Rows
local macro_rules | `(tactic| walk_at "v")=>`(tactic| exact ⟨rfl,by first | exact Ql rfl | exact Ms (Ql rfl) | exact Ms (Ms rfl),by decide,by decide⟩)
local macro_rules | `(tactic| walk_at "w")=>`(tactic| exact ⟨rfl,rfl,rfl,by decide +kernel,rfl,by decide +kernel,by decide +kernel⟩)
local macro_rules | `(tactic| walk_at "l")=>`(tactic| (intro _ _ _ _ h; first | (obtain ⟨_,e,_⟩:=h; subst e; rfl) | (obtain ⟨_,_,e,_⟩:=h; subst e; rfl) | (obtain ⟨_,_,_,e,_⟩:=h; subst e; rfl) | (obtain ⟨_,_,_,_,e,_⟩:=h; subst e; rfl) | (obtain ⟨_,_,_,_,_,e,_⟩:=h; subst e; rfl) | (obtain ⟨_,_,_,_,_,_,e,_⟩:=h; subst e; rfl) | (obtain ⟨_,_,_,_,_,_,_,e,_⟩:=h; subst e; rfl) | (obtain ⟨_,_,_,_,_,_,_,_,e,_⟩:=h; subst e; rfl) | (obtain ⟨_,_,_,_,_,_,_,_,_,e,_⟩:=h; subst e; rfl) | (obtain ⟨_,_,_,_,_,_,_,_,_,_,e,_⟩:=h; subst e; rfl) | (obtain ⟨_,_,_,_,_,_,_,_,_,_,_,e,_⟩:=h; subst e; rfl) | (obtain ⟨_,_,_,_,_,_,_,_,_,_,_,_,e,_⟩:=h; subst e; rfl) | (obtain ⟨_,_,_,_,_,_,_,_,_,_,_,_,_,e,_⟩:=h; subst e; rfl) | (obtain ⟨_,_,_,_,_,_,_,_,_,_,_,_,_,_,e,_⟩:=h; subst e; rfl) | (obtain ⟨_,_,_,_,_,_,_,_,_,_,_,_,_,_,_,e,_⟩:=h; subst e; rfl) | (obtain ⟨_,_,_,_,_,_,_,_,_,_,_,_,_,_,_,_,e,_⟩:=h; subst e; rfl)))
local macro_rules | `(tactic| walk_at "c")=>`(tactic| (refine ⟨rfl,?_,?_,?_,?_,rfl,?_⟩ <;> decide +kernel))
local macro_rules | `(tactic| walk_at "e")=>`(tactic| (refine ⟨rfl,?_,?_,?_,?_,rfl,?_⟩ <;> first | decide +kernel | exact DC (by decide +kernel)))
theorem psS{X:Cx}(i:Nat){N ps:List Str}{sc:Scope}{x:Str}{e:Expr}{te:TE}{pos' pos:Pos}(S:ax N ps sc)(he:PE X e te)(hN:X.N=N:=by exact rfl)(hi:X.N[i]?=some x:=by exact rfl)(hx:Loc X.env.scope x:=by exact Ql rfl)(hs:OM e (some (.Name x pos')) pos.line X.env=pure false:=by rfl)(hf:X.fn x=true\/X.env.scope.names.lookup x=some .local:=by first|exact .inl rfl|exact .inr rfl|assumption):PS X (.Assign [.Name x pos'] e pos) (aA te (ag i)):=gm (by rw[hN];exact S.nd) hi hx he hs hf
theorem pgS{X:Cx}(i:Nat){N ps:List Str}{sc:Scope}{x:Str}{pos:Pos}(S:ax N ps sc)(hN:X.N=N:=by exact rfl)(hi:X.N[i]?=some x:=by exact rfl)(hx:Loc X.env.scope x:=by exact Ql rfl)(hf:X.fn x=true\/X.env.scope.names.lookup x=some .local:=by first|exact .inl rfl|exact .inr rfl|assumption):PG X (.Name x pos) (ag i):=mN (by rw[hN];exact S.nd) hi hx hf
theorem pgC{X:Cx}(i:Nat)(N:List Str){x:Str}{pos:Pos}(hN:X.N=N:=by exact rfl)(nd:N.Nodup:=by decide+kernel)(hi:X.N[i]?=some x:=by exact rfl)(hx:Loc X.env.scope x:=by exact Ql rfl)(hf:X.fn x=true\/X.env.scope.names.lookup x=some .local:=by first|exact .inl rfl|exact .inr rfl|assumption):PG X (.Name x pos) (ag i):=mN (by rw[hN];exact nd) hi hx hf
theorem rmD{n k:Nat}{A:Around}(h:cc k A)(e:n<=k:=by decide):cc n A:=h.mono e
noncomputable abbrev Bl:List Str:=["_law_script","_law_cards","_law_sizes","_law_hands","_law_deals","_law_table","_law_k","_law_sayings","_law_turns","_law_views","_law_due_here","_law_stand_here","_law_handed","_law_found"]
noncomputable abbrev mK:List Str:=["_law_script","_law_at","_law_cards","_law_hands"]
noncomputable abbrev mL:List Str:=["_law_views","_law_group_here","_law_truths"]
noncomputable abbrev i3:List Str:=["_law_found","_law_due_here"]
noncomputable abbrev yP:List Str:=["_law_script","_law_at","_law_cards","_law_hands","_law_most"]
noncomputable abbrev fD:List Str:=["cards","sizes"]
noncomputable abbrev yQ:List Str:=["_law_deals","_law_views","_law_sayings","_law_turns"]
noncomputable abbrev yR:List Str:=["_law_deals","_law_views","_law_saying_here","_law_below","_law_ahead"]
noncomputable abbrev mM:List Str:=["cards","hands","thing"]
noncomputable abbrev rL:List Str:=["_law_table","_law_hands","_law_many"]
noncomputable abbrev fg:List Str:=["ones","others"]
noncomputable abbrev qj:List Str:=["_law_deals","_law_views","_law_saying_here"]
noncomputable abbrev gS:List Str:=["_law_one","_law_other"]
noncomputable abbrev Bm:List Str:=["_law_deals","_law_view","_law_pile","_law_piles","_law_lacks","_law_place","_law_least_here"]
noncomputable abbrev nW:List Str:=["_law_number","_law_hands"]
noncomputable abbrev qk:List Str:=["cards","hands","place","part"]
noncomputable abbrev tZ:List Str:=["_law_deals","_law_view","_law_pile"]
noncomputable abbrev t0:List Str:=["_law_script","_law_k"]
noncomputable abbrev t9:List Str:=["_law_script","_law_at","_law_most"]
noncomputable abbrev ql:List Str:=["thing","least","most"]
noncomputable abbrev jS:List Str:=["self","cards","sizes"]
noncomputable abbrev qm:List Str:=["_law_table","_law_deed_here"]
noncomputable abbrev nX:List Str:=["deal","holder","rising"]
noncomputable abbrev uf:List Str:=["deals","views","S","word","inner","some"]
noncomputable abbrev ug:List Str:=["self","hand","holder","some"]
noncomputable abbrev FR:List Str:=["_law_deals","_law_views","_law_sayings","_law_turns","_law_found","_law_still","_law_truths","_law_finer"]
noncomputable abbrev Bn:List Str:=["_law_views","_law_group_here","_law_truths","_law_found","_law_hand"]
noncomputable abbrev uh:List Str:=["_law_view","_law_truths"]
noncomputable abbrev qo:List Str:=["thing","bound"]
noncomputable abbrev nY:List Str:=["self","hand","deal"]
noncomputable abbrev ui:List Str:=["self","hands","values"]
noncomputable abbrev uj:List Str:=["table","sayings","turns"]
noncomputable abbrev qp:List Str:=["self","hands","S"]
noncomputable abbrev uk:List Str:=["_law_cards","_law_sizes"]
noncomputable abbrev qq:List Str:=["fit","reason"]
noncomputable abbrev ul:List Str:=["points","one","other"]
noncomputable abbrev FS:List Str:=["_law_script","_law_at","_law_cards","_law_hands","_law_cell_here","_law_some"]
noncomputable abbrev nZ:List Str:=["deal","who"]
noncomputable abbrev um:List Str:=["view","truths"]
noncomputable abbrev n9:List Str:=["thing","cards"]
noncomputable abbrev qr:List Str:=["deals","views","S"]
noncomputable abbrev og:List Str:=["deals","hand"]
noncomputable abbrev oh:List Str:=["piles","view"]
noncomputable abbrev uo:List Str:=["points","thing"]
noncomputable abbrev FT:List Str:=["_law_views","_law_group_here","_law_truths","_law_found","_law_more"]
noncomputable abbrev uq:List Str:=["thing","hands"]
noncomputable abbrev qt:List Str:=["view","values"]
noncomputable abbrev qu:List Str:=["self","hand"]
noncomputable abbrev qw:List Str:=["_law_saying_here"]
noncomputable abbrev FU:List Str:=["_law_view","_law_truths","_law_lacks","_law_place","_law_truth"]
noncomputable abbrev ur:List Str:=["views","truths"]
noncomputable abbrev xg:List Str:=["_law_least_here","_law_lacks"]
noncomputable abbrev Bo:List Str:=["_law_view","_law_truths","_law_deals"]
noncomputable abbrev Bp:List Str:=["_law_hand","_law_table","_law_many"]
noncomputable abbrev ut:List Str:=["many","taken"]
noncomputable abbrev uu:List Str:=["begun","room"]
noncomputable abbrev uv:List Str:=["many","views"]
noncomputable abbrev Bq:List Str:=["_law_card","_law_who","_law_pile"]
noncomputable abbrev FV:List Str:=["many","views","points","view","thing","least"]
noncomputable abbrev FW:List Str:=["_law_k","_law_script","_law_cards","_law_hands"]
noncomputable abbrev Br:List Str:=["place","part","cards","hands"]
noncomputable abbrev Bs:List Str:=["hands","values","deal","hand"]
noncomputable abbrev qx:List Str:=["self","S"]
noncomputable abbrev FX:List Str:=["_law_k","_law_cards","_law_script","_law_at"]
noncomputable abbrev uw:List Str:=["_law_signs"]
noncomputable abbrev qy:List Str:=["one","other"]
noncomputable abbrev ux:List Str:=["_law_many"]
noncomputable abbrev FY:List Str:=["cards","hands","thing","words","level"]
noncomputable abbrev qz:List Str:=["_law_script"]
noncomputable abbrev FZ:List Str:=["view","truths","sure","least","truth"]
noncomputable abbrev F0:List Str:=["self","hand","holder","some","rising"]
noncomputable abbrev qA:List Str:=["_law_truth"]
noncomputable abbrev F1:List Str:=["_law_place","_law_view","_law_truths"]
noncomputable abbrev F2:List Str:=["_law_k","_law_found","_law_due_here"]
noncomputable abbrev qB:List Str:=["thing"]
noncomputable abbrev F3:List Str:=["_law_deal","_law_hand","_law_table"]
noncomputable abbrev Bt:List Str:=["pile","least","piles"]
noncomputable abbrev Bu:List Str:=["_law_deal","_law_pile"]
noncomputable abbrev uy:List Str:=["sayings"]
noncomputable abbrev Bv:List Str:=["card","holder","who"]
noncomputable abbrev uz:List Str:=["saying"]
section
variable(P:Program)(w:World)(K:Fg)(mg:Str->Option Value)(base:Heap)
noncomputable abbrev Fq(G:GF)(k:Nat):Prop:=FnB P w K mg base k "play" uj (qe K G)
noncomputable abbrev Bw(k:Nat):Prop:=FnB P w K mg base k "is_whole" qB (gu K)
noncomputable abbrev yS(k:Nat):Prop:=FnB P w K mg base k "is_within" ql (dz K)
noncomputable abbrev rM(k:Nat):Prop:=FnB P w K mg base k "is_below" qo (cq K)
noncomputable abbrev Bx(k:Nat):Prop:=FnB P w K mg base k "are_hands" uq (iI K)
noncomputable abbrev Fr(k:Nat):Prop:=FnB P w K mg base k "is_pack" fD (nC K)
noncomputable abbrev Fs(k:Nat):Prop:=FnB P w K mg base k "choices" ut (nD K)
noncomputable abbrev Ft(k:Nat):Prop:=FnB P w K mg base k "how_many" fD (mD K)
noncomputable abbrev Fu(k:Nat):Prop:=FnB P w K mg base k "with_one_more" uu (g0 K)
noncomputable abbrev By(k:Nat):Prop:=FnB P w K mg base k "deals_of" fD (jD K)
noncomputable abbrev uA(k:Nat):Prop:=FnB P w K mg base k "cards_of" nZ (gx K)
noncomputable abbrev Bz(k:Nat):Prop:=FnB P w K mg base k "is_word" mM (nO K)
noncomputable abbrev BA(k:Nat):Prop:=FnB P w K mg base k "parts_of_all" uy (iK K)
noncomputable abbrev BB(k:Nat):Prop:=FnB P w K mg base k "is_saying" mM (lw K)
noncomputable abbrev BC(k:Nat):Prop:=FnB P w K mg base k "fits" qk (vf K)
noncomputable abbrev BD(k:Nat):Prop:=FnB P w K mg base k "parts_of" uz (mE K)
noncomputable abbrev xh(k:Nat):Prop:=FnB P w K mg base k "least_with_same" ["marks"] (dO K)
noncomputable abbrev BE(k:Nat):Prop:=FnB P w K mg base k "first_view" og (ko K)
noncomputable abbrev BF(k:Nat):Prop:=FnB P w K mg base k "split" qt (rB K)
noncomputable abbrev xi(k:Nat):Prop:=FnB P w K mg base k "end_of" uo (j7 K)
noncomputable abbrev BG(k:Nat):Prop:=FnB P w K mg base k "link" ul (vd K)
noncomputable abbrev BH(k:Nat):Prop:=FnB P w K mg base k "joined" uv (pc K)
noncomputable abbrev xj(k:Nat):Prop:=FnB P w K mg base k "both" fg (p9 K)
noncomputable abbrev BI(k:Nat):Prop:=FnB P w K mg base k "either" fg (pi K)
noncomputable abbrev uB(k:Nat):Prop:=FnB P w K mg base k "known" um (jr K)
noncomputable abbrev BJ(k:Nat):Prop:=FnB P w K mg base k "known_to_all" ur (iH K)
noncomputable abbrev BK(k:Nat):Prop:=FnB P w K mg base k "seen" oh (ve K)
noncomputable abbrev qC(k:Nat):Prop:=FnB P w K mg base k "refuse_unless" qq (bR K)
noncomputable abbrev BL(k:Nat):Prop:=FnB P w K mg base k "are_cards" n9 (lA K)
noncomputable abbrev BM(k:Nat):Prop:=FnB P w K mg base k "least_held" nX (ku K)
noncomputable abbrev oj(k:Nat):Prop:=FnB P w K mg base k "_law_cell" t0 (bj K)
noncomputable abbrev BN(k:Nat):Prop:=FnB P w K mg base k "_law_product" ux (fb K)
noncomputable abbrev BO(k:Nat):Prop:=FnB P w K mg base k "_law_count" uk (gJ K)
noncomputable abbrev BP(k:Nat):Prop:=FnB P w K mg base k "_law_pack" t9 (li K)
noncomputable abbrev BQ(k:Nat):Prop:=FnB P w K mg base k "_law_least" uw (kn K)
noncomputable abbrev BR(k:Nat):Prop:=FnB P w K mg base k "_law_truths_told" i3 (eY K)
noncomputable abbrev xk(k:Nat):Prop:=FnB P w K mg base k "_law_group" nW (dc K)
noncomputable abbrev BS(k:Nat):Prop:=FnB P w K mg base k "_law_pool" mK (lz K)
noncomputable abbrev F4(k:Nat):Prop:=FnB P w K mg base k "_law_words" qw (dM K 70)
noncomputable abbrev xl(k:Nat):Prop:=FnB P w K mg base k "_law_saying" yP (em K)
noncomputable abbrev xm(k:Nat):Prop:=FnB P w K mg base k "_law_kept" uh (iV K)
noncomputable abbrev xn(k:Nat):Prop:=FnB P w K mg base k "_law_each" mL (iW K)
noncomputable abbrev BT(k:Nat):Prop:=FnB P w K mg base k "_law_shared" mL (ju K)
noncomputable abbrev BU(k:Nat):Prop:=FnB P w K mg base k "_law_sighted" tZ (iX K)
noncomputable abbrev BV(k:Nat):Prop:=FnB P w K mg base k "_law_deed" mK (lB K)
noncomputable abbrev BW(G:GF)(k:Nat):Prop:=FnB P w K mg base k "_law_done" qm (lC K G)
noncomputable abbrev F5(k:Nat):Prop:=FnB P w K mg base k "_law_read" qj (dD K 35)
noncomputable abbrev BX(k:Nat):Prop:=FnB P w K mg base k "_law_due" yQ (mH K)
noncomputable abbrev BY(k:Nat):Prop:=FnB P w K mg base k "_law_right" i3 (gR K)
noncomputable abbrev BZ(G:GF)(k:Nat):Prop:=FnB P w K mg base k "_law_stand" rL (dW K G)
noncomputable abbrev F6(k:Nat):Prop:=FnB P w K mg base k "truths_of" qr (cf K 35)
noncomputable abbrev Fv(G:GF)(k:Nat):Prop:=FnM P w K mg base k G.Table "again" ["self"] (js K G)
noncomputable abbrev B5(G:GF)(k:Nat):Prop:=FnM P w K mg base k G.Table "word" qp (gO K G)
noncomputable abbrev Fw(G:GF)(k:Nat):Prop:=FnM P w K mg base k G.Table "show" ug (kB K G)
noncomputable abbrev Fx(G:GF)(k:Nat):Prop:=FnM P w K mg base k G.Table "saw" nY (lE K G)
noncomputable abbrev B6(G:GF)(k:Nat):Prop:=FnM P w K mg base k G.Table "view" qu (gM K G)
noncomputable abbrev B7(G:GF)(k:Nat):Prop:=FnM P w K mg base k G.Table "learn" ui (fW K G)
noncomputable abbrev Fy(G:GF)(k:Nat):Prop:=FnM P w K mg base k G.Table "truths" qx (iR K G)
end
seal L2.PE L2.PA L2.PS L2.PSs L2.PT L2.PW L2.PI L2.PG L2.PGs L2.PO L2.PTL L2.OpR L2.UnR L2.cU L2.SlR L2.IxR L2.Ay
noncomputable def top(i:Nat):Stmt:=PySem.Challenge.pw_knowcards_k40_turns_told.main.body.getD i (.Pass ⟨0,0,0,0⟩)
noncomputable abbrev uC:Stmt:=top 1
theorem jw:ax ["table","sayings","turns","own","everyone","told","still","before"] uj (aj uC):=by walk_at "w"
noncomputable abbrev kO:Stmt:=top 9
theorem zG:ax qB qB (aj kO):=by walk_at "w"
noncomputable abbrev jT:Stmt:=top 10
theorem yT:ax ql ql (aj jT):=by walk_at "w"
noncomputable abbrev kP:Stmt:=top 11
theorem zH:ax qo qo (aj kP):=by walk_at "w"
noncomputable abbrev jU:Stmt:=top 12
theorem i4:ax ["thing","hands","least","hand"] uq (aj jU):=by walk_at "w"
noncomputable abbrev ke:Stmt:=top 17
theorem B8:ax fD fD (aj ke):=by walk_at "w"
noncomputable abbrev kQ:Stmt:=top 18
theorem eV:ax ["cards","sizes","many","left","size"] fD (aj kQ):=by walk_at "w"
noncomputable abbrev mj:Stmt:=top 19
theorem kR:ax ["many","taken","ways","step"] ut (aj mj):=by walk_at "w"
noncomputable abbrev kS:Stmt:=top 20
theorem gA:ax ["cards","sizes","room","begun","card"] fD (aj kS):=by walk_at "w"
noncomputable abbrev fh:Stmt:=top 21
theorem dE:ax ["begun","room","longer","deal","who","most"] uu (aj fh):=by walk_at "w"
noncomputable abbrev i5:Stmt:=top 22
theorem zI:ax nZ nZ (aj i5):=by walk_at "w"
noncomputable abbrev gB:Stmt:=top 26
theorem fE:ax FY mM (aj gB):=by walk_at "w"
noncomputable abbrev kf:Stmt:=top 27
theorem uD:ax ["cards","hands","thing","form"] mM (aj kf):=by walk_at "w"
noncomputable abbrev uE:Stmt:=top 28
theorem Hc:ax qk qk (aj uE):=by walk_at "w"
noncomputable abbrev i6:Stmt:=top 29
theorem qW:ax ["saying","form"] uz (aj i6):=by walk_at "w"
noncomputable abbrev ga:Stmt:=top 30
theorem i7:ax ["sayings","parts","saying"] uy (aj ga):=by walk_at "w"
noncomputable abbrev fF:Stmt:=top 32
theorem wG:ax og og (aj fF):=by walk_at "w"
noncomputable abbrev qD:Stmt:=top 33
theorem Fz:ax qt qt (aj qD):=by walk_at "w"
noncomputable abbrev dj:Stmt:=top 34
theorem dX:ax ["marks","firsts","thing","mark"] ["marks"] (aj dj):=by walk_at "w"
noncomputable abbrev lI:Stmt:=top 35
theorem kg:ax FV uv (aj lI):=by walk_at "w"
noncomputable abbrev uF:Stmt:=top 36
theorem vB:ax ["points","one","other","first","second"] ul (aj uF):=by walk_at "w"
noncomputable abbrev ol:Stmt:=top 37
theorem pK:ax ["points","thing","end"] uo (aj ol):=by walk_at "w"
noncomputable abbrev du:Stmt:=top 39
theorem fG:ax uf qr (aj du):=by walk_at "w"
noncomputable abbrev pL:Stmt:=top 40
theorem Hd:ax fg fg (aj pL):=by walk_at "w"
noncomputable abbrev lJ:Stmt:=top 41
theorem DM:ax fg fg (aj lJ):=by walk_at "w"
noncomputable abbrev mZ:Stmt:=top 42
theorem om:ax FZ um (aj mZ):=by walk_at "w"
noncomputable abbrev gb:Stmt:=top 43
theorem fi:ax ["views","truths","answers","view"] ur (aj gb):=by walk_at "w"
noncomputable abbrev pM:Stmt:=top 44
theorem He:ax oh oh (aj pM):=by walk_at "w"
noncomputable abbrev fj:Stmt:=top 47
theorem rN:ax qq qq (aj fj):=by walk_at "w"
noncomputable abbrev gC:Stmt:=top 48
theorem yU:ax n9 n9 (aj gC):=by walk_at "w"
noncomputable abbrev i8:Stmt:=top 49
theorem ox:ax ["deal","holder","rising","card"] nX (aj i8):=by walk_at "w"
noncomputable abbrev jV:Stmt:=top 51
theorem i9:ax ["_law_script","_law_k","_law_number"] t0 (aj jV):=by walk_at "w"
noncomputable abbrev gc:Stmt:=top 52
theorem fk:ax ["_law_many","_law_found","_law_k"] ux (aj gc):=by walk_at "w"
noncomputable abbrev ja:Stmt:=top 53
theorem gT:ax ["_law_cards","_law_sizes","_law_found","_law_many"] uk (aj ja):=by walk_at "w"
noncomputable abbrev jW:Stmt:=top 54
theorem eD:ax ["_law_script","_law_at","_law_most","_law_cards","_law_sizes","_law_k"] t9 (aj jW):=by walk_at "w"
noncomputable abbrev jb:Stmt:=top 55
theorem eQ:ax ["_law_signs","_law_first","_law_found","_law_place","_law_sign"] uw (aj jb):=by walk_at "w"
noncomputable abbrev cY:Stmt:=top 57
theorem oB:ax i3 i3 (aj cY):=by walk_at "w"
noncomputable abbrev jc:Stmt:=top 58
theorem eR:ax ["_law_saying_here","_law_found","_law_part"] qw (aj jc):=by walk_at "w"
noncomputable abbrev fH:Stmt:=top 59
theorem wH:ax nW nW (aj fH):=by walk_at "w"
noncomputable abbrev jX:Stmt:=top 60
theorem jd:ax ["_law_script","_law_at","_law_cards","_law_hands","_law_pool_here","_law_k","_law_cell_here"] mK (aj jX):=by walk_at "w"
noncomputable abbrev gU:Stmt:=top 61
theorem bO:ax ["_law_script","_law_at","_law_cards","_law_hands","_law_most","_law_pool_here","_law_k","_law_cell_here","_law_one","_law_other","_law_some"] yP (aj gU):=by walk_at "w"
noncomputable abbrev gD:Stmt:=top 62
theorem je:ax FU uh (aj gD):=by walk_at "w"
noncomputable abbrev eW:Stmt:=top 63
theorem jf:ax Bn mL (aj eW):=by walk_at "w"
noncomputable abbrev eS:Stmt:=top 64
theorem gd:ax FT mL (aj eS):=by walk_at "w"
noncomputable abbrev dw:Stmt:=top 65
theorem dY:ax Bm tZ (aj dw):=by walk_at "w"
noncomputable abbrev dv:Stmt:=top 66
theorem jg:ax yR qj (aj dv):=by walk_at "w"
noncomputable abbrev gE:Stmt:=top 67
theorem lK:ax FS mK (aj gE):=by walk_at "w"
noncomputable abbrev jY:Stmt:=top 69
theorem yV:ax qm qm (aj jY):=by walk_at "w"
noncomputable abbrev jh:Stmt:=top 70
theorem d3:ax FR yQ (aj jh):=by walk_at "w"
noncomputable abbrev fI:Stmt:=top 71
theorem wI:ax i3 i3 (aj fI):=by walk_at "w"
noncomputable abbrev fJ:Stmt:=top 72
theorem wJ:ax rL rL (aj fJ):=by walk_at "w"
noncomputable abbrev on:Stmt:=top 73
theorem dF:ax Bl qz (aj on):=by walk_at "w"
noncomputable abbrev fK:Stmt:=h9 (top 46) 0
theorem wK:ax jS jS (aj fK):=by walk_at "w"
noncomputable abbrev ji:Stmt:=h9 (top 46) 2
theorem wL:ax qu qu (aj ji):=by walk_at "w"
noncomputable abbrev jj:Stmt:=h9 (top 46) 3
theorem wM:ax qp qp (aj jj):=by walk_at "w"
noncomputable abbrev fL:Stmt:=h9 (top 46) 4
theorem oy:ax F0 ug (aj fL):=by walk_at "w"
noncomputable abbrev gf:Stmt:=h9 (top 46) 5
theorem uG:ax qx qx (aj gf):=by walk_at "w"
noncomputable abbrev gF:Stmt:=h9 (top 46) 6
theorem yW:ax nY nY (aj gF):=by walk_at "w"
noncomputable abbrev gW:Stmt:=h9 (top 46) 7
theorem m5:ax ["self","other"] ["self"] (aj gW):=by walk_at "w"
noncomputable abbrev gX:Stmt:=h9 (top 46) 8
theorem m6:ax ["self","hands","values","hand"] ui (aj gX):=by walk_at "w"
section
variable{P:Program}{w:World}{K:Fg}{mg:Str->Option Value}{base:Heap}{f:Addr}{fd:JV}
theorem Hf(D:Def K mg "play" uC uj f fd)(B:Blt mg){G:GF}(T:dq P w K mg G)(U10:Fv P w K mg base G 8)(U24:B5 P w K mg base G 41):Fq P w K mg base G 42:=by
 refine D.ok jw (by walk_at "l") fun _ _ _ _ _ _ _ _ hr h=>?_;have hux:=hr.units64;exact⟨tI K G,(ae (psS 3 jw (Dj U10 (rmD hr) T.cl_Table (pv 0)))
  (ae (psS 4 jw (bK (DJ rfl) rfl B.tuple NN (aP (bK wg rfl B.range Sf (bm (bL (pv 3) rfl) ad)) ad)))
  (ae (psS 5 jw (cg ad))
  (ae (psS 6 jw ak)
  (ae (jm J6 (PW.pt (rQ (aG pR (aw aD rfl B.len KA (ac (pv 5) ad)) (pv 2) (aJ _)) (uO (aG pR (pv 6) (aw aD rfl B.len KA (ac (pv 1) ad)) (aJ _))))) (ae (psS 7 jw (bK fU rfl B.list L6 (bm (bL (pv 3) rfl) ad)))
  (ae (bV (iq Kw KZ K0 cW (pv 5) (aP (eO U24 (rmD hr) T.cl_Table (pv 3) (ac (pv 4) (ay (aH bg (pv 1) (au bw (aw aD rfl B.len KA (ac (pv 5) ad)) (aw aD rfl B.len KA (ac (pv 1) ad))) (fun _ _=>rfl)) ad))) ad)))
  (ah (psS 6 jw (DS (aG (DL hux) (bL (pv 3) rfl) (pv 7) (aJ _)) (au bt (pv 6) ak) ak))))))
  (ah (av (pv 5)))))))),GP T.ct h⟩
theorem zJ(D:Def K mg "is_whole" kO qB f fd)(B:Blt mg):Bw P w K mg base 1:=by
 refine D.ok zG (by walk_at "l") fun _ _ _ _ _ _ _ _ hr h=>?_;exact⟨sF K,(ah (av (ij (aw da rfl B.isinstance Lo (ac (pv 0) (ac (dJ (v:=.ty "int") rfl B.int boot_int rfl) ad))) (fm (xq (aw da rfl B.isinstance Lo (ac (pv 0) (ac (dJ (v:=.ty "bool") rfl B.bool boot_bool rfl) ad)))))))),zo h⟩
theorem yX(D:Def K mg "is_within" jT ql f fd)(B:Blt mg)(U43:Bw P w K mg base 1):yS P w K mg base 2:=by
 refine D.ok yT (by walk_at "l") fun _ _ _ _ _ _ _ _ hr h=>?_;exact⟨qP K,(ah (av (ij (ai U43 (rmD hr) (ac (pv 0) ad)) (fm (DX wZ wZ (pv 1) (pv 0) (pv 2)))))),xZ h⟩
theorem zK(D:Def K mg "is_below" kP qo f fd)(B:Blt mg)(U35:yS P w K mg base 2):rM P w K mg base 3:=by
 refine D.ok zH (by walk_at "l") fun _ _ _ _ _ _ _ _ hr h=>?_;exact⟨kI K,(ah (av (ai U35 (rmD hr) (ac (pv 0) (aq ak (aK (au gn (pv 1) ak) ad)))))),zx h⟩
theorem yY(D:Def K mg "are_hands" jU uq f fd)(B:Blt mg)(U35:yS P w K mg base 2):Bx P w K mg base 3:=by
 refine D.ok i4 (by walk_at "l") fun _ _ _ _ _ _ _ _ hr h=>?_;exact⟨jG K,(ae (bf (cv (cb (aw da rfl B.isinstance Lo (ac (pv 0) (ac (dJ (v:=.ty "tuple") rfl B.tuple NN rfl) ad))))) (ah (av cN)) aM)
  (ae (psS 2 i4 ak)
  (ae (bS J6 rfl (oJ (pv 0)) (pgS 3 i4) (ae (bf (cv (cb (ai U35 (rmD hr) (ac (pv 3) (ac (pv 2) (aK (au gn (pv 1) ak) ad)))))) (ah (av cN)) aM)
  (ah (psS 2 i4 (au bt (pv 3) ak)))))
  (ah (av cN))))),yi h⟩
theorem B9(D:Def K mg "is_pack" ke fD f fd)(B:Blt mg){t_MOST_CARDS:Tok}(m_MOST_CARDS:mg "MOST_CARDS"=some (.int 12 t_MOST_CARDS)){t_MOST_HANDS:Tok}(m_MOST_HANDS:mg "MOST_HANDS"=some (.int 5 t_MOST_HANDS))(U35:yS P w K mg base 2):Fr P w K mg base 3:=by
 refine D.ok B8 (by walk_at "l") fun _ _ _ _ _ _ _ _ hr h=>?_;exact⟨vY K,(ae (bf (cv (cb (ai U35 (rmD hr) (ac (pv 0) (aq ak (ac (jl (v:=(.int 12)) rfl m_MOST_CARDS ⟨_,rfl⟩) ad)))))) (ah (av cN)) aM)
  (ae (bf (PW.pt (jx (cv (cb (aw da rfl B.isinstance Lo (ac (pv 1) (ac (dJ (v:=.ty "list") rfl B.list L6 rfl) ad))))) (ii (cv (cb (ai U35 (rmD hr) (aP (aw aD rfl B.len KA (ac (pv 1) ad)) (aq ak (ac (jl (v:=(.int 5)) rfl m_MOST_HANDS ⟨_,rfl⟩) ad))))))))) (ah (av cN)) aM)
  (ah (av (ij (aw (lO rfl) rfl B.all Sa (bN (bp (sc:=(aj ke)) (NX:=fD) (N:=["size","cards"]) (ix:=[none,some 0]) rfl (by walk_at "c") (bB (pv 1)) (by intros;exact(pgC 0 ["size","cards"])) (by intros;exact bi) (by intros;exact(ai U35 (rmD hr) (ac (pv 0) (aq ak (ac (pv 1) ad)))))) ad)) (fm (d7 wZ (aw (j3 rfl) rfl B.sum QM (ac (pv 1) ad)) (pv 0) (aJ _)))))))),AX h⟩
theorem zL(D:Def K mg "how_many" kQ fD f fd)(B:Blt mg)(U46:Fs P w K mg base 1)(U47:Fr P w K mg base 3):Ft P w K mg base 4:=by
 refine D.ok eV (by walk_at "l") fun _ _ _ _ _ _ _ _ hr h=>?_;exact⟨sK K,(ae (bf (cv (cb (ai U47 (rmD hr) (ac (pv 0) (ac (pv 1) ad))))) (ah m8) aM)
  (ae (psS 2 eV ak)
  (ae (psS 3 eV (pv 0))
  (ae (bS J6 rfl (bB (pv 1)) (pgS 4 eV) (ae (psS 2 eV (au dL (pv 2) (ai U46 (rmD hr) (ac (pv 3) (ac (pv 4) ad)))))
  (ah (psS 3 eV (au gn (pv 3) (pv 4))))))
  (ah (av (pv 2))))))),zp h⟩
theorem Ca(D:Def K mg "choices" mj ut f fd)(B:Blt mg):Fs P w K mg base 1:=by
 refine D.ok kR (by walk_at "l") fun _ _ _ _ _ _ _ _ hr h=>?_;exact⟨vZ K,(ae (psS 2 kR ak)
  (ae (bS J6 rfl (bJ rfl B.range (ac (pv 1) ad)) (pgS 3 kR) (ah (psS 2 kR (au b7 (au dL (pv 2) (au gn (pv 0) (pv 3))) (au bt (pv 3) ak)))))
  (ah (av (pv 2))))),AY h⟩
theorem zM(D:Def K mg "deals_of" kS fD f fd)(B:Blt mg){t_MOST_DEALS:Tok}(m_MOST_DEALS:mg "MOST_DEALS"=some (.int 2000 t_MOST_DEALS))(U41:Ft P w K mg base 4)(U3:Fu P w K mg base 1):By P w K mg base 5:=by
 refine D.ok gA (by walk_at "l") fun _ _ _ _ _ _ _ _ hr h=>?_;exact⟨sL K,(ae (bf (aG kD (ai U41 (rmD hr) (ac (pv 0) (ac (pv 1) ad))) (jl (v:=(.int 2000)) rfl m_MOST_DEALS ⟨_,rfl⟩) (aJ _)) (ah m8) aM)
  (ae (psS 2 gA (au Ct (pv 1) (xv (aK (au gn (pv 0) (aw (j3 rfl) rfl B.sum QM (ac (pv 1) ad))) ad))))
  (ae (psS 3 gA (xv (bC (Cn ad) ad)))
  (ae (bS J6 rfl (bJ rfl B.range (ac (pv 0) ad)) (pgS 4 gA) (ah (psS 3 gA (ai U3 (rmD hr) (ac (pv 3) (ac (pv 2) ad))))))
  (ah (av (pv 3))))))),zq h⟩
theorem rO(D:Def K mg "with_one_more" fh uu f fd)(B:Blt mg):Fu P w K mg base 1:=by
 refine D.ok dE (by walk_at "l") fun _ _ _ _ _ _ _ _ hr h=>?_;exact⟨lU K,(ae (psS 2 dE (xv ad))
  (ae (bS J6 rfl (bB (pv 0)) (pgS 3 dE) (ah (bS J6 rfl (ib aV rfl B.enumerate (by decide) (ac (pv 1) ad)) (cx rfl (aQ (pgS 4 dE) (aQ (pgS 5 dE) bZ))) (ah (bf (aG pR (II PySem.F.plainAttrs_tuple PC PySem.F.type_tuple_count CG (pv 3) (ac (pv 4) ad)) (pv 5) (aJ _)) (ah (bV (iq Kw KZ K0 cW (pv 2) (aK (au Gn (pv 3) (Cn (ac (pv 4) ad))) ad)))) aM)))))
  (ah (av (pv 2))))),rq h⟩
theorem zN(D:Def K mg "cards_of" i5 nZ f fd)(B:Blt mg):uA P w K mg base 1:=by
 refine D.ok zI (by walk_at "l") fun _ _ _ _ _ _ _ _ hr h=>?_;exact⟨sN K,(ah (av (bK oo rfl B.tuple NN (bN (bp (sc:=(aj i5)) (NX:=nZ) (N:=Bv) (ix:=[none,none,some 1]) rfl (by walk_at "c") (ib ee rfl B.enumerate (by decide) (ac (pv 0) ad)) (by intros;exact(cx rfl (aQ (pgC 0 Bv) (aQ (pgC 1 Bv) bZ)))) (by intros;exact(jo (aG bU (pv 1) (pv 2) (aJ _)))) (by intros;exact(pv 0))) ad)))),zr h⟩
theorem yZ(D:Def K mg "is_saying" gB mM f fd)(B:Blt mg){t_MOST_WORDS:Tok}(m_MOST_WORDS:mg "MOST_WORDS"=some (.int 30 t_MOST_WORDS))(U43:Bw P w K mg base 1)(U48:Bz P w K mg base 5)(U4:BA P w K mg base 2):BB P w K mg base 6:=by
 refine D.ok fE (by walk_at "l") fun _ _ _ _ _ _ _ _ hr h=>?_;exact⟨jH K,(ae (bf (PW.pt (jx (cv (cb (ai U43 (rmD hr) (ac (pv 0) ad)))) (ii (cv (cb (ai U43 (rmD hr) (ac (pv 1) ad))))))) (ah (av cN)) aM)
  (ae (psS 3 fE ak)
  (ae (psS 4 fE (cg (ac (pv 2) ad)))
  (ae (jm J6 (aG kD (aw aD rfl B.len KA (ac (pv 4) ad)) ak (aJ _)) (ae (psS 3 fE (au bt (pv 3) (aw aD rfl B.len KA (ac (pv 4) ad))))
  (ae (bf (PW.pt (jx (aG kD (pv 3) (jl (v:=(.int 30)) rfl m_MOST_WORDS ⟨_,rfl⟩) (aJ _)) (ii (cv (cb (aw (lO rfl) rfl B.all Sa (bN (bp (sc:=(aj gB)) (NX:=FY) (N:=["one","cards","hands"]) (ix:=[none,some 0,some 1]) rfl (by walk_at "c") (bB (pv 4)) (by intros;exact(pgC 0 ["one","cards","hands"])) (by intros;exact bi) (by intros;exact(ai U48 (rmD hr) (ac (pv 1) (ac (pv 2) (ac (pv 0) ad)))))) ad))))))) (ah (av cN)) aM)
  (ah (psS 4 fE (ai U4 (rmD hr) (ac (pv 4) ad)))))))
  (ah (av cN)))))),yk h⟩
theorem Cb(D:Def K mg "is_word" kf mM f fd)(B:Blt mg){G:GF}(T:dq P w K mg G)(U56:BC P w K mg base 4):Bz P w K mg base 5:=by
 refine D.ok uD (by walk_at "l") fun _ _ _ _ _ _ _ _ hr h=>?_;have m_FORMS:=T.tb.mf;have d_FORMS:=T.tb.df;exact⟨lY K G.toGlo,(ae (bf (PW.pt (jx (cv (cb (aw da rfl B.isinstance Lo (ac (pv 2) (ac (dJ (v:=.ty "tuple") rfl B.tuple NN rfl) ad))))) (ii (aG bU (aw aD rfl B.len KA (ac (pv 2) ad)) ak (aJ _))))) (ah (av cN)) aM)
  (ae (bf (PW.pt (jx (cv (cb (aw da rfl B.isinstance Lo (ay (aH bh (pv 2) ak (fun _ _=>rfl)) (ac (dJ (v:=.ty "str") rfl B.str boot_str rfl) ad))))) (ii (aG (yo d_FORMS) (aH bh (pv 2) ak (fun _ _=>rfl)) (jl (v:=(.ref G.forms)) rfl m_FORMS rfl) rfl)))) (ah (av cN)) aM)
  (ae (psS 3 uD (Di d_FORMS (jl (v:=(.ref G.forms)) rfl m_FORMS rfl) (aH bh (pv 2) ak (fun _ _=>rfl)) (fun _ _=>rfl)))
  (ae (bf (aG AD (aw aD rfl B.len KA (ac (pv 2) ad)) (au bt ak (aw aD rfl B.len KA (ac (pv 3) ad))) (aJ _)) (ah (av cN)) aM)
  (ah (av (aw (lO rfl) rfl B.all Sa (bN (bp (sc:=(aj kf)) (NX:=["cards","hands","thing","form"]) (N:=Br) (ix:=[none,none,some 0,some 1]) rfl (by walk_at "c") (gp ee ee rfl B.zip (ac (pv 3) (ay (rf yn (pv 2) (uR ak) uQ) ad))) (by intros;exact(cx rfl (aQ (pgC 0 Br) (aQ (pgC 1 Br) bZ)))) (by intros;exact bi) (by intros;exact(ai U56 (rmD hr) (ac (pv 2) (ac (pv 3) (ac (pv 0) (ac (pv 1) ad))))))) ad)))))))),A6 T.tb.ok h⟩
theorem Hg(D:Def K mg "fits" uE qk f fd)(B:Blt mg)(U38:Bx P w K mg base 3)(U39:rM P w K mg base 3):BC P w K mg base 4:=by
 refine D.ok Hc (by walk_at "l") fun _ _ _ _ _ _ _ _ hr h=>?_;exact⟨tm K,(ae (bf (aG bU (pv 2) aX (aJ _)) (ah (av (ai U39 (rmD hr) (ac (pv 3) (aK (au bt (pv 1) ak) ad))))) aM)
  (ae (bf (aG bU (pv 2) aX (aJ _)) (ah (av (ai U39 (rmD hr) (ac (pv 3) (ac (pv 0) ad))))) aM)
  (ae (bf (aG bU (pv 2) aX (aJ _)) (ah (av (ai U39 (rmD hr) (ac (pv 3) (ac (pv 1) ad))))) aM)
  (ae (bf (aG bU (pv 2) aX (aJ _)) (ah (av (ai U38 (rmD hr) (ac (pv 3) (ac (pv 1) ad))))) aM)
  (ah (av cN)))))),GL h⟩
theorem zO(D:Def K mg "parts_of" i6 uz f fd)(B:Blt mg){G:GF}(T:dq P w K mg G):BD P w K mg base 1:=by
 refine D.ok qW (by walk_at "l") fun _ _ _ _ _ _ _ _ hr h=>?_;have m_FORMS:=T.tb.mf;have d_FORMS:=T.tb.df;exact⟨kJ K G.toGlo,(ae (psS 1 qW (Di d_FORMS (jl (v:=(.ref G.forms)) rfl m_FORMS rfl) (aH bh (pv 0) ak (fun _ _=>rfl)) (fun _ _=>rfl)))
  (ah (av (bp (sc:=(aj i6)) (NX:=["saying","form"]) (N:=["place","part"]) (ix:=[none,none]) rfl (by walk_at "c") (gp ee ee rfl B.zip (ac (pv 1) (ay (rf yn (pv 0) (uR ak) uQ) ad))) (by intros;exact(cx rfl (aQ (pgC 0 ["place","part"]) (aQ (pgC 1 ["place","part"]) bZ)))) (by intros;exact(jo (aG bU (pv 0) aX (aJ _)))) (by intros;exact(pv 1)))))),zy T.tb.ok h⟩
theorem uH(D:Def K mg "parts_of_all" ga uy f fd)(B:Blt mg)(U40:BD P w K mg base 1):BA P w K mg base 2:=by
 refine D.ok i7 (by walk_at "l") fun _ _ _ _ _ _ _ _ hr h=>?_;exact⟨fT K,(ae (psS 1 i7 (cg ad))
  (ae (bS J6 rfl (bB (pv 0)) (pgS 2 i7) (ah (bV (iq Kw PySem.F.slot_list_extend PySem.F.type_list_extend Cs (pv 1) (aP (ai U40 (rmD hr) (ac (pv 2) ad)) ad)))))
  (ah (av (pv 1))))),tq h⟩
theorem wN(D:Def K mg "first_view" fF og f fd)(B:Blt mg)(U44:uA P w K mg base 1)(U1:xh P w K mg base 1):BE P w K mg base 2:=by
 refine D.ok wG (by walk_at "l") fun _ _ _ _ _ _ _ _ hr h=>?_;exact⟨iG K,(ah (av (ai U1 (rmD hr) (bN (bp (sc:=(aj fF)) (NX:=og) (N:=["deal","hand"]) (ix:=[none,some 1]) rfl (by walk_at "c") (bB (pv 0)) (by intros;exact(pgC 0 ["deal","hand"])) (by intros;exact bi) (by intros;exact(ai U44 (rmD hr) (ac (pv 0) (ac (pv 1) ad))))) ad)))),wt h⟩
theorem FA(D:Def K mg "split" qD qt f fd)(B:Blt mg)(U1:xh P w K mg base 1):BF P w K mg base 2:=by
 refine D.ok Fz (by walk_at "l") fun _ _ _ _ _ _ _ _ hr h=>?_;exact⟨qb K,(ah (av (ai U1 (rmD hr) (aP (Ha aV aV rfl rfl B.list rfl B.zip (ac (pv 0) (ac (pv 1) ad))) ad)))),EJ h⟩
theorem pN(D:Def K mg "least_with_same" dj ["marks"] f fd)(B:Blt mg):xh P w K mg base 1:=by
 refine D.ok dX (by walk_at "l") fun _ _ _ _ _ _ _ _ hr h=>?_;have hux:=hr.units64;exact⟨d5 K,(ae (gm (i:=1) dX.nd rfl (Ms rfl) nP)
  (ae (bS J6 rfl (ib aV rfl B.enumerate (by decide) (ac (pv 0) ad)) (cx rfl (aQ (pgS 2 dX) (aQ (pgS 3 dX) bZ))) (ah (bV (Jh OH PySem.F.type_dict_setdefault (vv hux) (pv 1) (ac (pv 3) (ac (pv 2) ad))))))
  (ah (av (bp (sc:=(aj dj)) (NX:=["marks","firsts","thing","mark"]) (N:=["mark","firsts"]) (ix:=[none,some 1]) rfl (by walk_at "c") (bB (pv 0)) (by intros;exact(pgC 0 ["mark","firsts"])) (by intros;exact bi) (by intros;exact(Aq hux (pv 1) (pv 0) (fun _ _=>rfl)))))))),oZ h⟩
theorem DN(D:Def K mg "joined" lI uv f fd)(B:Blt mg)(U50:xi P w K mg base 1)(U57:BG P w K mg base 2):BH P w K mg base 3:=by
 refine D.ok kg (by walk_at "l") fun _ _ _ _ _ _ _ _ hr h=>?_;exact⟨nK K,(ae (gm (i:=2) kg.nd rfl (Ms rfl) (bK (DH rfl) rfl B.list L6 (aP (bK wg rfl B.range Sf (ac (pv 0) ad)) ad)))
  (ae (bS J6 rfl (bB (pv 1)) (pgS 3 kg) (ah (bS J6 rfl (ib aV rfl B.enumerate (by decide) (ac (pv 3) ad)) (cx rfl (aQ (pgS 4 kg) (aQ (pgS 5 kg) bZ))) (ah (bV (ai U57 (rmD hr) (ac (pv 2) (ac (pv 4) (ac (pv 5) ad)))))))))
  (ah (av (bp (sc:=(aj lI)) (NX:=FV) (N:=["thing","points"]) (ix:=[none,some 2]) rfl (by walk_at "c") (bJ rfl B.range (ac (pv 0) ad)) (by intros;exact(pgC 0 ["thing","points"])) (by intros;exact bi) (by intros;exact(ai U50 (rmD hr) (ac (pv 1) (ac (pv 0) ad))))))))),C5 h⟩
theorem Hh(D:Def K mg "link" uF ul f fd)(B:Blt mg)(U50:xi P w K mg base 1):BG P w K mg base 2:=by
 refine D.ok vB (by walk_at "l") fun _ _ _ _ _ _ _ _ hr h=>?_;exact⟨sR K,(ae (psS 3 vB (ai U50 (rmD hr) (ac (pv 0) (ac (pv 1) ad))))
  (ae (psS 4 vB (ai U50 (rmD hr) (ac (pv 0) (ac (pv 2) ad))))
  (ah (ik (aw (vH rfl) rfl B.min boot_min (ac (pv 3) (ac (pv 4) ad))) (jZ (pv 0) (aw (Cj rfl) rfl B.max Sb (ac (pv 3) (ac (pv 4) ad))) kY))))),GB h⟩
theorem DO(D:Def K mg "end_of" ol uo f fd)(B:Blt mg):xi P w K mg base 1:=by
 refine D.ok pK (by walk_at "l") fun _ _ _ _ _ _ _ _ hr h=>?_;exact⟨nJ K,(ae (psS 2 pK (pv 1))
  (ae (jm J6 (aG AD (aH bg (pv 0) (pv 2) (fun _ _=>rfl)) (pv 2) (aJ _)) (ae (ik (aH bg (pv 0) (aH bg (pv 0) (pv 2) (fun _ _=>rfl)) (fun _ _=>rfl)) (jZ (pv 0) (pv 2) kY))
  (ah (psS 2 pK (aH bg (pv 0) (pv 2) (fun _ _=>rfl))))))
  (ah (av (pv 2))))),C4 h⟩
theorem pO(D:Def K mg "truths_of" du qr f fd)(B:Blt mg)(U54:xj P w K mg base 1)(U44:uA P w K mg base 1)(U51:BI P w K mg base 1)(U49:BH P w K mg base 3)(U52:uB P w K mg base 1)(U7:BJ P w K mg base 2)(U58:BK P w K mg base 2):∀n,FnB P w K mg base (4+n) "truths_of" qr (cf K n)
 |0=>D.ok (k:=3) fG (fun vs H Q E h=>(pj h).elim) (fun cdv A outer s H vs Q E hr h=>(pj h).elim)
 |n+1=>by
  have U34:=pO D B U54 U44 U51 U49 U52 U7 U58 n;refine D.ok (k:=4+n) fG (by walk_at "l") fun _ _ _ _ _ _ _ _ hr h=>?_;exact⟨jF K n,(ae (psS 3 fG (aH bh (pv 2) ak (fun _ _=>rfl)))
  (ae (bf (aG bU (pv 3) aX (aJ _)) (ah (av (bp (sc:=(aj du)) (NX:=uf) (N:=["deal","S"]) (ix:=[none,some 2]) rfl (by walk_at "c") (bB (pv 0)) (by intros;exact(pgC 0 ["deal","S"])) (by intros;exact bi) (by intros;exact(d7 bU (aH bh (pv 0) (aH bh (pv 1) ak (fun _ _=>rfl)) (fun _ _=>rfl)) (aH bh (pv 1) ak (fun _ _=>rfl)) (aJ _)))))) aM)
  (ae (bf (aG bU (pv 3) aX (aJ _)) (ah (av (ai U58 (hr.mono (by omega)) (bN (bp (sc:=(aj du)) (NX:=uf) (N:=["deal","views"]) (ix:=[none,some 1]) rfl (by walk_at "c") (bB (pv 0)) (by intros;exact(pgC 0 ["deal","views"])) (by intros;exact bi) (by intros;exact(ai U44 (hr.mono (by omega)) (ac (pv 0) (aP (aw aD rfl B.len KA (ac (pv 1) ad)) ad))))) (ay (aH bg (pv 1) (aH bh (pv 2) ak (fun _ _=>rfl)) (fun _ _=>rfl)) ad))))) aM)
  (ae (bf (aG bU (pv 3) aX (aJ _)) (ah (av (bp (sc:=(aj du)) (NX:=uf) (N:=["truth"]) (ix:=[none]) rfl (by walk_at "c") (bB (ai U34 (hr.mono (by omega)) (ac (pv 0) (ac (pv 1) (ay (aH bh (pv 2) ak (fun _ _=>rfl)) ad))))) (by intros;exact(pgC 0 ["truth"])) (by intros;exact bi) (by intros;exact(xq (pv 0)))))) aM)
  (ae (bf (aG bU (pv 3) aX (aJ _)) (ah (av (ai U54 (hr.mono (by omega)) (aP (ai U34 (hr.mono (by omega)) (ac (pv 0) (ac (pv 1) (ay (aH bh (pv 2) ak (fun _ _=>rfl)) ad)))) (aP (ai U34 (hr.mono (by omega)) (ac (pv 0) (ac (pv 1) (ay (aH bh (pv 2) ak (fun _ _=>rfl)) ad)))) ad))))) aM)
  (ae (bf (aG bU (pv 3) aX (aJ _)) (ah (av (ai U51 (hr.mono (by omega)) (aP (ai U34 (hr.mono (by omega)) (ac (pv 0) (ac (pv 1) (ay (aH bh (pv 2) ak (fun _ _=>rfl)) ad)))) (aP (ai U34 (hr.mono (by omega)) (ac (pv 0) (ac (pv 1) (ay (aH bh (pv 2) ak (fun _ _=>rfl)) ad)))) ad))))) aM)
  (ae (psS 4 fG (ai U34 (hr.mono (by omega)) (ac (pv 0) (ac (pv 1) (ay (aH bh (pv 2) ak (fun _ _=>rfl)) ad)))))
  (ae (bf (aG bU (pv 3) aX (aJ _)) (ah (av (ai U52 (hr.mono (by omega)) (ay (aH bg (pv 1) (aH bh (pv 2) ak (fun _ _=>rfl)) (fun _ _=>rfl)) (ac (pv 4) ad))))) aM)
  (ae (dn (i:=5) fG.nd rfl rfl (sc:=(aj du)) (NX:=uf) (N:=["hand","views"]) (ix:=[none,some 1]) rfl (by walk_at "c") (oJ (aH bh (pv 2) ak (fun _ _=>rfl))) (by intros;exact(pgC 0 ["hand","views"])) (by intros;exact bi) (by intros;exact(aH bg (pv 1) (pv 0) (fun _ _=>rfl))))
  (ae (bf (aG bU (pv 3) aX (aJ _)) (ah (av (ai U7 (hr.mono (by omega)) (ac (pv 5) (ac (pv 4) ad))))) aM)
  (ah (av (ai U52 (hr.mono (by omega)) (aP (ai U49 (hr.mono (by omega)) (aP (aw aD rfl B.len KA (ac (pv 0) ad)) (ac (pv 5) ad))) (ac (pv 4) ad))))))))))))))),yg h⟩
theorem Hi(D:Def K mg "both" pL fg f fd)(B:Blt mg):xj P w K mg base 1:=by
 refine D.ok Hd (by walk_at "l") fun _ _ _ _ _ _ _ _ hr h=>?_;exact⟨sT K,(ah (av (bp (sc:=(aj pL)) (NX:=fg) (N:=qy) (ix:=[none,none]) rfl (by walk_at "c") (gp aV aV rfl B.zip (ac (pv 0) (ac (pv 1) ad))) (by intros;exact(cx rfl (aQ (pgC 0 qy) (aQ (pgC 1 qy) bZ)))) (by intros;exact bi) (by intros;exact(ij (pv 0) (fm (pv 1))))))),GG h⟩
theorem DP(D:Def K mg "either" lJ fg f fd)(B:Blt mg):BI P w K mg base 1:=by
 refine D.ok DM (by walk_at "l") fun _ _ _ _ _ _ _ _ hr h=>?_;exact⟨nL K,(ah (av (bp (sc:=(aj lJ)) (NX:=fg) (N:=qy) (ix:=[none,none]) rfl (by walk_at "c") (gp aV aV rfl B.zip (ac (pv 0) (ac (pv 1) ad))) (by intros;exact(cx rfl (aQ (pgC 0 qy) (aQ (pgC 1 qy) bZ)))) (by intros;exact bi) (by intros;exact(FC (pv 0) (fm (pv 1))))))),C9 h⟩
theorem FB(D:Def K mg "known" mZ um f fd)(B:Blt mg):uB P w K mg base 1:=by
 refine D.ok om (by walk_at "l") fun _ _ _ _ _ _ _ _ hr h=>?_;exact⟨qa K,(ae (gm (i:=2) om.nd rfl (Ms rfl) (au Dh (cg (aq cN ad)) (aw aD rfl B.len KA (ac (pv 0) ad))))
  (ae (bS J6 rfl (gp aV aV rfl B.zip (ac (pv 0) (ac (pv 1) ad))) (cx rfl (aQ (pgS 3 om) (aQ (pgS 4 om) bZ))) (ah (bf (cv (cb (pv 4))) (ah (ik cN (jZ (pv 2) (pv 3) kY))) aM)))
  (ah (av (bp (sc:=(aj mZ)) (NX:=FZ) (N:=["least","sure"]) (ix:=[none,some 2]) rfl (by walk_at "c") (bB (pv 0)) (by intros;exact(pgC 0 ["least","sure"])) (by intros;exact bi) (by intros;exact(aH bg (pv 1) (pv 0) (fun _ _=>rfl)))))))),EH h⟩
theorem uI(D:Def K mg "known_to_all" gb ur f fd)(B:Blt mg)(U54:xj P w K mg base 1)(U52:uB P w K mg base 1):BJ P w K mg base 2:=by
 refine D.ok fi (by walk_at "l") fun _ _ _ _ _ _ _ _ hr h=>?_;exact⟨fS K,(ae (psS 2 fi (au Dh (cg (aq cN ad)) (aw aD rfl B.len KA (ac (pv 1) ad))))
  (ae (bS J6 rfl (bB (pv 0)) (pgS 3 fi) (ah (psS 2 fi (ai U54 (rmD hr) (ac (pv 2) (aP (ai U52 (rmD hr) (ac (pv 3) (ac (pv 1) ad))) ad))))))
  (ah (av (pv 2))))),sU h⟩
theorem Hj(D:Def K mg "seen" pM oh f fd)(B:Blt mg)(U52:uB P w K mg base 1):BK P w K mg base 2:=by
 refine D.ok He (by walk_at "l") fun _ _ _ _ _ _ _ _ hr h=>?_;have hu:=hr.units0;exact⟨sV K,(ah (av (ai U52 (rmD hr) (ac (pv 1) (bN (bp (sc:=(aj pM)) (NX:=oh) (N:=Bt) (ix:=[none,none,some 0]) rfl (by walk_at "c") (gp aV aV rfl B.zip (ac (pv 0) (ac (pv 1) ad))) (by intros;exact(cx rfl (aQ (pgC 0 Bt) (aQ (pgC 1 Bt) bZ)))) (by intros;exact bi) (by intros;exact(d7 (HM hu) (pv 0) (aH bg (pv 2) (pv 1) (fun _ _=>rfl)) (aJ _)))) ad))))),GH h⟩
theorem rP(D:Def K mg "refuse_unless" fj qq f fd)(B:Blt mg):qC P w K mg base 1:=by
 refine D.ok rN (by walk_at "l") fun _ _ _ _ _ _ _ _ hr h=>?_;exact⟨ff K,(ah (bf (cv (cb (pv 0))) (ah m8) aM)),rE h⟩
theorem y6(D:Def K mg "are_cards" gC n9 f fd)(B:Blt mg)(U39:rM P w K mg base 3):BL P w K mg base 4:=by
 refine D.ok yU (by walk_at "l") fun _ _ _ _ _ _ _ _ hr h=>?_;exact⟨jK K,(ah (av (ij (aw da rfl B.isinstance Lo (ac (pv 0) (ac (dJ (v:=.ty "list") rfl B.list L6 rfl) ad))) (fm (aw (lO rfl) rfl B.all Sa (bN (bp (sc:=(aj gC)) (NX:=n9) (N:=["card","cards"]) (ix:=[none,some 1]) rfl (by walk_at "c") (bB (pv 0)) (by intros;exact(pgC 0 ["card","cards"])) (by intros;exact bi) (by intros;exact(ai U39 (rmD hr) (ac (pv 0) (ac (pv 1) ad))))) ad)))))),yv h⟩
theorem wO(D:Def K mg "least_held" i8 nX f fd)(B:Blt mg):BM P w K mg base 1:=by
 refine D.ok ox (by walk_at "l") fun _ _ _ _ _ _ _ _ hr h=>?_;exact⟨iN K,(ae (bS J6 rfl (bB (pv 2)) (pgS 3 ox) (ah (bf (aG bU (aH bh (pv 0) (pv 3) (fun _ _=>rfl)) (pv 1) (aJ _)) (ah (av (pv 3))) aM)))
  (ah (av Hr))),ww h⟩
theorem y7(D:Def K mg "_law_cell" jV t0 f fd)(B:Blt mg):oj P w K mg base 1:=by
 refine D.ok i9 (by walk_at "l") fun _ _ _ _ _ _ _ _ hr h=>?_;exact⟨jE K,(ae (bf (aG pR (pv 1) (aw aD rfl B.len KA (ac (pv 0) ad)) (aJ _)) (ah (av (aH bg (pv 0) (pv 1) (fun _ _=>rfl)))) aM)
  (ae (psS 2 i9 (au bt (au dL (pv 1) ak) ak))
  (ae (bf (aG kD (aw aD rfl B.len KA (ac (pv 0) ad)) ak (aJ _)) (ah (psS 2 i9 (au bt (au dL (aH bg (pv 0) (au bw (au dL (pv 1) ak) (aw aD rfl B.len KA (ac (pv 0) ad))) (fun _ _=>rfl)) ak) (au dL (pv 1) ak)))) aM)
  (ae (psS 2 i9 (au bw (au dL (pv 2) (pv 2)) ak))
  (ah (av (au bw (au dL (au bt (pv 2) (pv 1)) (au bt (pv 2) ak)) ak))))))),yb h⟩
theorem uJ(D:Def K mg "_law_product" gc ux f fd)(B:Blt mg):BN P w K mg base 1:=by
 refine D.ok fk (by walk_at "l") fun _ _ _ _ _ _ _ _ hr h=>?_;exact⟨fQ K,(ae (psS 1 fk ak)
  (ae (bS J6 rfl (bJ rfl B.range (ac (pv 0) ad)) (pgS 2 fk) (ah (psS 1 fk (au dL (pv 1) (au bt (pv 2) ak)))))
  (ah (av (pv 1))))),sO h⟩
theorem wP(D:Def K mg "_law_count" ja uk f fd)(B:Blt mg)(U6:BN P w K mg base 1):BO P w K mg base 2:=by
 refine D.ok gT (by walk_at "l") fun _ _ _ _ _ _ _ _ hr h=>?_;exact⟨iE K,(ae (psS 2 gT (ai U6 (rmD hr) (ac (pv 0) ad)))
  (ae (bS J6 rfl (bB (au mX (pv 1) (cg (aK (au gn (pv 0) (aw (j3 rfl) rfl B.sum QM (ac (pv 1) ad))) ad)))) (pgS 3 gT) (ah (psS 2 gT (au b7 (pv 2) (ai U6 (rmD hr) (ac (pv 3) ad))))))
  (ah (av (pv 2))))),wp h⟩
theorem y8(D:Def K mg "_law_pack" jW t9 f fd)(B:Blt mg)(U33:oj P w K mg base 1)(U19:BO P w K mg base 2):BP P w K mg base 3:=by
 refine D.ok eD (by walk_at "l") fun _ _ _ _ _ _ _ _ hr h=>?_;exact⟨jI K,(ae (psS 3 eD (au bw (ai U33 (rmD hr) (ac (pv 0) (ac (pv 1) ad))) ak))
  (ae (bf (aG bU (au bw (au b7 (ai U33 (rmD hr) (ac (pv 0) (ac (pv 1) ad))) ak) ak) ak (aJ _)) (ah (psS 3 eD (au bt ak (au bw (au b7 (ai U33 (rmD hr) (ac (pv 0) (ac (pv 1) ad))) ak) ak)))) aM)
  (ae (psS 4 eD (cg ad))
  (ae (bS J6 rfl (bJ rfl B.range (aK (au bt ak (au bw (ai U33 (rmD hr) (ac (pv 0) (aK (au bt (pv 1) ak) ad))) ak)) ad)) (pgS 5 eD) (ah (bV (iq Kw KZ K0 cW (pv 4) (aK (au bw (ai U33 (rmD hr) (ac (pv 0) (aK (au bt (au bt (pv 1) ak) (pv 5)) ad))) (au bt (aw (vH rfl) rfl B.min boot_min (aq ak (aK (au gn (pv 3) (aw (j3 rfl) rfl B.sum QM (ac (pv 4) ad))) ad))) ak)) ad)))))
  (ae (jm J6 (aG kD (ai U19 (rmD hr) (ac (pv 3) (ac (pv 4) ad))) (pv 2) (aJ _)) (ae (bf (aG kD (aw (oT rfl) rfl B.max Sb (ac (pv 4) ad)) (au gn (pv 3) (aw (j3 rfl) rfl B.sum QM (ac (pv 4) ad))) (aJ _)) (ah (ik (au gn (aw (oT rfl) rfl B.max Sb (ac (pv 4) ad)) ak) (jZ (pv 4) (iq Kw PL PySem.F.type_list_index Ek (pv 4) (aP (aw (oT rfl) rfl B.max Sb (ac (pv 4) ad)) ad)) kY))) aM)
  (ah (psS 3 eD (au gn (pv 3) ak)))))
  (ah (av (bQ (ac (pv 3) (ac (pv 4) ad)))))))))),yl h⟩
theorem wQ(D:Def K mg "_law_least" jb uw f fd)(B:Blt mg):BQ P w K mg base 1:=by
 refine D.ok eQ (by walk_at "l") fun _ _ _ _ _ _ _ _ hr h=>?_;have hux:=hr.units64;exact⟨iF K,(ae (psS 1 eQ nP)
  (ae (psS 2 eQ (cg ad))
  (ae (bS J6 rfl (ib aV rfl B.enumerate (by decide) (ac (pv 0) ad)) (cx rfl (aQ (pgS 3 eQ) (aQ (pgS 4 eQ) bZ))) (ae (bf (aG (pI hux) (pv 4) (pv 1) rfl) (ah (ik (pv 3) (jZ (pv 1) (pv 4) (Bb hux)))) aM)
  (ah (bV (iq Kw KZ K0 cW (pv 2) (ay (Aq hux (pv 1) (pv 4) (fun _ _=>rfl)) ad))))))
  (ah (av (pv 2)))))),wq h⟩
theorem oC(D:Def K mg "_law_truths_told" cY i3 f fd)(B:Blt mg):BR P w K mg base 1:=by
 refine D.ok oB (by walk_at "l") fun _ _ _ _ _ _ _ _ hr h=>?_;have hu:=hr.units0;have hux:=hr.units64;exact⟨dS K,(ae (bf (PW.pt (jx (cv (cb (aw da rfl B.isinstance Lo (ac (pv 0) (ac (dJ (v:=.ty "list") rfl B.list L6 rfl) ad))))) (ii (aG (rG hux) (pv 0) (pv 1) (aJ _))))) (ah (av cN)) aM)
  (ah (av (d7 (xF hu) (bp (sc:=(aj cY)) (NX:=i3) (N:=qA) (ix:=[none]) rfl (by walk_at "c") (bB (pv 0)) (by intros;exact(pgC 0 qA)) (by intros;exact(jo (cv (cb (aw da rfl B.isinstance Lo (ac (pv 0) (ac (dJ (v:=.ty "bool") rfl B.bool boot_bool rfl) ad))))))) (by intros;exact(pv 0))) (cg ad) (aJ _))))),oA h⟩
theorem oz(D:Def K mg "_law_words" jc qw f fd)(B:Blt mg):∀n,FnB P w K mg base (1+n) "_law_words" qw (dM K n)
 |0=>D.ok (k:=0) eR (fun vs H Q E h=>(ou h).elim) (fun cdv A outer s H vs Q E hr h=>(ou h).elim)
 |n+1=>by
  have U14:=oz D B n;refine D.ok (k:=1+n) eR (by walk_at "l") fun _ _ _ _ _ _ _ _ hr h=>?_;have hu:=hr.units0;exact⟨iM K n,(ae (psS 1 eR ak)
  (ae (bS J6 rfl (oJ (rf yn (pv 0) (uR ak) uQ)) (pgS 2 eR) (ah (bf (PW.pt (rQ (cb (aw da rfl B.isinstance Lo (ac (pv 2) (ac (dJ (v:=.ty "tuple") rfl B.tuple NN rfl) ad)))) (rQ (aG (CB hu) (pv 2) (bQ ad) (aJ _)) (uO (cb (aw da rfl B.isinstance Lo (ay (aH bh (pv 2) ak (fun _ _=>rfl)) (ac (dJ (v:=.ty "str") rfl B.str boot_str rfl) ad)))))))) (ah (psS 1 eR (au bt (pv 1) (ai U14 (hr.mono (by omega)) (ac (pv 2) ad))))) aM)))
  (ah (av (pv 1))))),wv h⟩
theorem wR(D:Def K mg "_law_group" fH nW f fd)(B:Blt mg):xk P w K mg base 1:=by
 refine D.ok wH (by walk_at "l") fun _ _ _ _ _ _ _ _ hr h=>?_;exact⟨iL K,(ah (av (bK ym rfl B.tuple NN (bN (bp (sc:=(aj fH)) (NX:=nW) (N:=["_law_hand","_law_number"]) (ix:=[none,some 0]) rfl (by walk_at "c") (bJ rfl B.range (ac (pv 1) ad)) (by intros;exact(pgC 0 ["_law_hand","_law_number"])) (by intros;exact(jo (aG bU (au bw (au b7 (pv 1) (aH bg (cg (aq ak (aq ak (aq ak (aq ak (aq ak ad)))))) (pv 0) (fun _ _=>rfl))) ak) ak (aJ _)))) (by intros;exact(pv 0))) ad)))),wu h⟩
theorem y9(D:Def K mg "_law_pool" jX mK f fd)(B:Blt mg)(U33:oj P w K mg base 1):BS P w K mg base 2:=by
 refine D.ok jd (by walk_at "l") fun _ _ _ _ _ _ _ _ hr h=>?_;exact⟨jJ K,(ae (psS 4 jd (cg (bC (bQ (aq aX (aK (au bw (ai U33 (rmD hr) (ac (pv 0) (ac (pv 1) ad))) (pv 3)) ad))) ad)))
  (ae (bS J6 rfl (bJ rfl B.range (aK (au dL ak (bK vJ rfl B.int boot_int (qS (d7 kD (pv 2) ak (aJ _)) ad))) ad)) (pgS 5 jd) (ae (psS 6 jd (ai U33 (rmD hr) (ac (pv 0) (aK (au bt (au bt (pv 1) ak) (pv 5)) ad))))
  (ah (bV (iq Kw KZ K0 cW (pv 4) (bC (bQ (aq aX (aK (au bw (pv 6) (au bt (pv 3) ak)) (aK (au bw (au b7 (pv 6) ak) (pv 2)) ad)))) ad))))))
  (ah (av (pv 4))))),yu h⟩
theorem vC(D:Def K mg "_law_saying" gU yP f fd)(B:Blt mg)(U33:oj P w K mg base 1)(U13:xk P w K mg base 1)(U27:BS P w K mg base 2)(U14:F4 P w K mg base 71):xl P w K mg base 72:=by
 refine D.ok bO (by walk_at "l") fun _ _ _ _ _ _ _ _ hr h=>?_;exact⟨gL K,(ae (psS 5 bO (ai U27 (rmD hr) (ac (pv 0) (ac (pv 1) (ac (pv 2) (ac (pv 3) ad))))))
  (ae (bS J6 rfl (bJ rfl B.range (aK (au bw (ai U33 (rmD hr) (ac (pv 0) (aK (au bt (pv 1) ak) ad))) ak) ad)) (pgS 6 bO) (ae (psS 7 bO (ai U33 (rmD hr) (ac (pv 0) (aK (au bt (au bt (pv 1) ak) (pv 6)) ad))))
  (ae (psS 8 bO (aH bg (pv 5) (AC xt ak) (fun _ _=>rfl)))
  (ae (psS 9 bO (aH bg (pv 5) (au bw (au b7 (pv 7) ak) (aw aD rfl B.len KA (ac (pv 5) ad))) (fun _ _=>rfl)))
  (ae (psS 10 bO (cg (bC (bQ (aq aX (ac (pv 8) ad))) (bC (bQ (aq aX (ac (pv 8) (ac (pv 9) ad)))) (bC (bQ (aq aX (ac (pv 9) (ac (pv 8) ad)))) (bC (bQ (aq aX (ac (pv 9) ad))) ad))))))
  (ae (psS 10 bO (au mX (pv 10) (cg (bC (bQ (aq aX (aK (au bw (au b7 (pv 7) ak) (pv 3)) (ac (pv 8) ad)))) (bC (bQ (aq aX (aK (au bw (au b7 (pv 7) ak) (pv 3)) (bC (bQ (aq aX (ac (pv 8) ad))) ad)))) ad)))))
  (ae (psS 10 bO (au mX (pv 10) (cg (bC (bQ (aq aX (aP (ai U13 (rmD hr) (aK (au b7 (pv 7) ak) (ac (pv 3) ad))) (ac (pv 8) ad)))) (bC (bQ (aq aX (aP (ai U13 (rmD hr) (aK (au b7 (pv 7) ak) (ac (pv 3) ad))) (ac (pv 9) ad)))) ad)))))
  (ae (psS 10 bO (au mX (pv 10) (cg (bC (bQ (aq aX (aP (ai U13 (rmD hr) (aK (au b7 (pv 7) ak) (ac (pv 3) ad))) (ac (pv 8) ad)))) (bC (bQ (aq aX (aK (au bw (au b7 (pv 7) ak) (pv 3)) (ac (pv 9) ad)))) ad)))))
  (ae (psS 10 bO (au mX (pv 10) (cg (bC (bQ (aq aX (ac (pv 9) (bC (bQ (aq aX (ac (pv 8) ad))) ad)))) (bC (bQ (aq aX (ac (pv 8) (bC (bQ (aq aX (aK (au bw (au b7 (pv 7) ak) (pv 3)) (ac (pv 9) ad)))) ad)))) ad)))))
  (ah (bf (aG wZ (ai U14 (rmD hr) (ay (aH bg (pv 10) (au bw (pv 7) ak) (fun _ _=>rfl)) ad)) (pv 4) (aJ _)) (ah (bV (iq Kw KZ K0 cW (pv 5) (ay (aH bg (pv 10) (au bw (pv 7) ak) (fun _ _=>rfl)) ad)))) aM)))))))))))
  (ah (av (aH bg (pv 5) (AC xt ak) (fun _ _=>rfl)))))),vg h⟩
theorem za(D:Def K mg "_law_kept" gD uh f fd)(B:Blt mg):xm P w K mg base 1:=by
 refine D.ok je (by walk_at "l") fun _ _ _ _ _ _ _ _ hr h=>?_;have hux:=hr.units64;exact⟨jM K,(ae (gm (i:=2) je.nd rfl (Ms rfl) nP)
  (ae (bS J6 rfl (ib aV rfl B.enumerate (by decide) (ac (pv 1) ad)) (cx rfl (aQ (pgS 3 je) (aQ (pgS 4 je) bZ))) (ah (bf (cv (cb (pv 4))) (ah (ik cN (jZ (pv 2) (aH bg (pv 0) (pv 3) (fun _ _=>rfl)) (Bb hux)))) aM)))
  (ah (av (bp (sc:=(aj gD)) (NX:=FU) (N:=xg) (ix:=[none,some 2]) rfl (by walk_at "c") (bB (pv 0)) (by intros;exact(pgC 0 xg)) (by intros;exact bi) (by intros;exact(d7 (pI hux) (pv 0) (pv 1) rfl))))))),yE h⟩
theorem zb(D:Def K mg "_law_each" eW mL f fd)(B:Blt mg)(U29:xm P w K mg base 1):xn P w K mg base 2:=by
 refine D.ok jf (by walk_at "l") fun _ _ _ _ _ _ _ _ hr h=>?_;exact⟨jN K,(ae (dn (i:=3) jf.nd rfl rfl (sc:=(aj eW)) (NX:=Bn) (N:=qA) (ix:=[none]) rfl (by walk_at "c") (bB (pv 2)) (by intros;exact(pgC 0 qA)) (by intros;exact bi) (by intros;exact cN))
  (ae (bS J6 rfl (oJ (pv 1)) (pgS 4 jf) (ah (dn (i:=3) jf.nd rfl rfl (sc:=(aj eW)) (NX:=Bn) (N:=gS) (ix:=[none,none]) rfl (by walk_at "c") (gp aV aV rfl B.zip (ac (pv 3) (aP (ai U29 (rmD hr) (ay (aH bg (pv 0) (pv 4) (fun _ _=>rfl)) (ac (pv 2) ad))) ad))) (by intros;exact(cx rfl (aQ (pgC 0 gS) (aQ (pgC 1 gS) bZ)))) (by intros;exact bi) (by intros;exact(ij (pv 0) (fm (pv 1)))))))
  (ah (av (pv 3))))),yF h⟩
theorem vE(D:Def K mg "_law_shared" eS mL f fd)(B:Blt mg)(U36:xn P w K mg base 2):BT P w K mg base 3:=by
 refine D.ok gd (by walk_at "l") fun _ _ _ _ _ _ _ _ hr h=>?_;have hu:=hr.units0;exact⟨gQ K,(ae (psS 3 gd (bK fU rfl B.list L6 (ac (pv 2) ad)))
  (ah (jm J6 (cb cN) (ae (dn (i:=4) gd.nd rfl rfl (sc:=(aj eS)) (NX:=FT) (N:=gS) (ix:=[none,none]) rfl (by walk_at "c") (gp aV aV rfl B.zip (ac (pv 3) (aP (ai U36 (rmD hr) (ac (pv 0) (ac (pv 1) (ac (pv 3) ad)))) ad))) (by intros;exact(cx rfl (aQ (pgC 0 gS) (aQ (pgC 1 gS) bZ)))) (by intros;exact bi) (by intros;exact(ij (pv 0) (fm (pv 1)))))
  (ae (bf (aG (xF hu) (pv 4) (pv 3) (aJ _)) (ah (av (pv 3))) aM)
  (ah (psS 3 gd (pv 4)))))))),vo h⟩
theorem uK(D:Def K mg "_law_sighted" dw tZ f fd)(B:Blt mg):BU P w K mg base 1:=by
 refine D.ok dY (by walk_at "l") fun _ _ _ _ _ _ _ _ hr h=>?_;have hu:=hr.units0;have hux:=hr.units64;exact⟨fY K,(ae (dn (i:=3) dY.nd rfl rfl (sc:=(aj dw)) (NX:=Bm) (N:=Bu) (ix:=[none,some 2]) rfl (by walk_at "c") (bB (pv 0)) (by intros;exact(pgC 0 Bu)) (by intros;exact bi) (by intros;exact(bK ym rfl B.tuple NN (bN (bp (sc:=_) (hsc:=rfl) (NX:=Bu) (N:=Bq) (ix:=[none,none,some 1]) rfl (by walk_at "e") (ib ee rfl B.enumerate (by decide) (ac (pv 0) ad)) (by intros;exact(cx rfl (aQ (pgC 0 Bq) (aQ (pgC 1 Bq) bZ)))) (by intros;exact(jo (aG bU (pv 1) (pv 2) (aJ _)))) (by intros;exact(pv 0))) ad))))
  (ae (gm (i:=4) dY.nd rfl (Ms rfl) nP)
  (ae (bS J6 rfl (ib aV rfl B.enumerate (by decide) (ac (pv 1) ad)) (cx rfl (aQ (pgS 5 dY) (aQ (pgS 6 dY) bZ))) (ah (bf (aG (CB hu) (aH bg (pv 3) (pv 5) (fun _ _=>rfl)) (aH bg (pv 3) (pv 6) (fun _ _=>rfl)) (aJ _)) (ah (ik cN (jZ (pv 4) (pv 6) (Bb hux)))) aM)))
  (ah (av (bp (sc:=(aj dw)) (NX:=Bm) (N:=xg) (ix:=[none,some 4]) rfl (by walk_at "c") (bB (pv 1)) (by intros;exact(pgC 0 xg)) (by intros;exact bi) (by intros;exact(d7 (pI hux) (pv 0) (pv 1) rfl)))))))),tL h⟩
theorem pP(D:Def K mg "_law_read" dv qj f fd)(B:Blt mg)(U36:xn P w K mg base 2)(U29:xm P w K mg base 1)(U9:BT P w K mg base 3)(U5:BU P w K mg base 1):∀n,FnB P w K mg base (4+n) "_law_read" qj (dD K n)
 |0=>D.ok (k:=3) jg (fun vs H Q E h=>(pH h).elim) (fun cdv A outer s H vs Q E hr h=>(pH h).elim)
 |n+1=>by
  have U25:=pP D B U36 U29 U9 U5 n;refine D.ok (k:=4+n) jg (by walk_at "l") fun _ _ _ _ _ _ _ _ hr h=>?_;exact⟨jO K n,(ae (bf (aG bU (aH bh (pv 2) ak (fun _ _=>rfl)) aX (aJ _)) (ah (av (bp (sc:=(aj dv)) (NX:=yR) (N:=["_law_deal","_law_saying_here"]) (ix:=[none,some 2]) rfl (by walk_at "c") (bB (pv 0)) (by intros;exact(pgC 0 ["_law_deal","_law_saying_here"])) (by intros;exact bi) (by intros;exact(d7 bU (aH bh (pv 0) (aH bh (pv 1) ak (fun _ _=>rfl)) (fun _ _=>rfl)) (aH bh (pv 1) ak (fun _ _=>rfl)) (aJ _)))))) aM)
  (ae (bf (aG bU (aH bh (pv 2) ak (fun _ _=>rfl)) aX (aJ _)) (ah (av (ai U5 (hr.mono (by omega)) (ac (pv 0) (ay (aH bg (pv 1) (aH bh (pv 2) ak (fun _ _=>rfl)) (fun _ _=>rfl)) (aP (aw aD rfl B.len KA (ac (pv 1) ad)) ad)))))) aM)
  (ae (psS 3 jg (ai U25 (hr.mono (by omega)) (ac (pv 0) (ac (pv 1) (ay (aH bh (pv 2) (AC xt ak) (fun _ _=>rfl)) ad)))))
  (ae (bf (aG bU (aH bh (pv 2) ak (fun _ _=>rfl)) aX (aJ _)) (ah (av (bp (sc:=(aj dv)) (NX:=yR) (N:=qA) (ix:=[none]) rfl (by walk_at "c") (bB (pv 3)) (by intros;exact(pgC 0 qA)) (by intros;exact bi) (by intros;exact(xq (pv 0)))))) aM)
  (ae (bf (aG bU (aH bh (pv 2) ak (fun _ _=>rfl)) aX (aJ _)) (ah (av (ai U29 (hr.mono (by omega)) (ay (aH bg (pv 1) (aH bh (pv 2) ak (fun _ _=>rfl)) (fun _ _=>rfl)) (ac (pv 3) ad))))) aM)
  (ae (bf (aG bU (aH bh (pv 2) ak (fun _ _=>rfl)) aX (aJ _)) (ah (av (ai U36 (hr.mono (by omega)) (ac (pv 1) (ay (aH bh (pv 2) ak (fun _ _=>rfl)) (ac (pv 3) ad)))))) aM)
  (ae (bf (aG bU (aH bh (pv 2) ak (fun _ _=>rfl)) aX (aJ _)) (ah (av (ai U9 (hr.mono (by omega)) (ac (pv 1) (ay (aH bh (pv 2) ak (fun _ _=>rfl)) (ac (pv 3) ad)))))) aM)
  (ae (psS 4 jg (ai U25 (hr.mono (by omega)) (ac (pv 0) (ac (pv 1) (ay (aH bh (pv 2) ak (fun _ _=>rfl)) ad)))))
  (ae (bf (aG bU (aH bh (pv 2) ak (fun _ _=>rfl)) aX (aJ _)) (ah (av (bp (sc:=(aj dv)) (NX:=yR) (N:=gS) (ix:=[none,none]) rfl (by walk_at "c") (gp aV aV rfl B.zip (ac (pv 4) (ac (pv 3) ad))) (by intros;exact(cx rfl (aQ (pgC 0 gS) (aQ (pgC 1 gS) bZ)))) (by intros;exact bi) (by intros;exact(ij (pv 0) (fm (pv 1))))))) aM)
  (ah (av (bp (sc:=(aj dv)) (NX:=yR) (N:=gS) (ix:=[none,none]) rfl (by walk_at "c") (gp aV aV rfl B.zip (ac (pv 4) (ac (pv 3) ad))) (by intros;exact(cx rfl (aQ (pgC 0 gS) (aQ (pgC 1 gS) bZ)))) (by intros;exact bi) (by intros;exact(FC (pv 0) (fm (pv 1)))))))))))))))),yH h⟩
theorem zc(D:Def K mg "_law_deed" gE mK f fd)(B:Blt mg)(U33:oj P w K mg base 1)(U13:xk P w K mg base 1)(U11:xl P w K mg base 72):BV P w K mg base 73:=by
 refine D.ok lK (by walk_at "l") fun _ _ _ _ _ _ _ _ hr h=>?_;exact⟨jP K,(ae (psS 4 lK (ai U33 (rmD hr) (ac (pv 0) (ac (pv 1) ad))))
  (ae (bf (PW.pt (jx (aG kD (au bw (pv 4) ak) ak (aJ _)) (ii (aG bU (pv 2) ak (aJ _))))) (ah (av (bQ (aq aX (aP (ai U13 (rmD hr) (aK (au b7 (pv 4) ak) (ac (pv 3) ad))) (aP (ai U11 (rmD hr) (ac (pv 0) (aK (au bt (pv 1) ak) (ac (pv 2) (ac (pv 3) (aq ak ad)))))) ad)))))) aM)
  (ae (dn (i:=5) lK.nd rfl rfl (sc:=(aj gE)) (NX:=FS) (N:=FX) (ix:=[none,some 2,some 0,some 1]) rfl (by walk_at "c") (bJ rfl B.range (aK (au bw (ai U33 (rmD hr) (ac (pv 0) (aK (au bt (pv 1) ak) ad))) ak) ad)) (by intros;exact(pgC 0 FX)) (by intros;exact bi) (by intros;exact(au bw (ai U33 (rmD hr) (ac (pv 2) (aK (au bt (au bt (pv 3) ak) (pv 0)) ad))) (pv 1))))
  (ah (av (bQ (aq aX (aK (au bw (au b7 (pv 4) ak) (pv 3)) (aK (au bw (au b7 (pv 4) ak) (au bt (pv 3) ak)) (ac (pv 5) ad)))))))))),yI h⟩
theorem zd(D:Def K mg "_law_done" jY qm f fd)(B:Blt mg){G:GF}(T:dq P w K mg G)(U21:Fw P w K mg base G 5)(U24:B5 P w K mg base G 41):BW P w K mg base G 42:=by
 refine D.ok yV (by walk_at "l") fun _ _ _ _ _ _ _ _ hr h=>?_;exact⟨jQ K G,(ae (bf (aG bU (aH bh (pv 1) ak (fun _ _=>rfl)) aX (aJ _)) (ah (av (eO U24 (rmD hr) T.cl_Table (pv 0) (ay (aH bh (pv 1) ak (fun _ _=>rfl)) (ay (aH bh (pv 1) ak (fun _ _=>rfl)) ad))))) aM)
  (ah (av (eO U21 (rmD hr) T.cl_Table (pv 0) (ay (aH bh (pv 1) ak (fun _ _=>rfl)) (ay (aH bh (pv 1) ak (fun _ _=>rfl)) (aP (bK fU rfl B.list L6 (ay (aH bh (pv 1) ak (fun _ _=>rfl)) ad)) ad))))))),yJ h⟩
theorem zP(D:Def K mg "_law_due" jh yQ f fd)(B:Blt mg)(U15:BQ P w K mg base 1)(U25:F5 P w K mg base 39):BX P w K mg base 40:=by
 refine D.ok d3 (by walk_at "l") fun _ _ _ _ _ _ _ _ hr h=>?_;have hux:=hr.units64;exact⟨kL K,(ae (psS 4 d3 (cg ad))
  (ae (psS 5 d3 ak)
  (ae (jm J6 (PW.pt (rQ (aG pR (aw aD rfl B.len KA (ac (pv 4) ad)) (pv 3) (aJ _)) (uO (aG pR (pv 5) (aw aD rfl B.len KA (ac (pv 2) ad)) (aJ _))))) (ae (gm (i:=6) d3.nd rfl (Ms rfl) (ai U25 (rmD hr) (ac (pv 0) (ac (pv 1) (ay (aH bg (pv 2) (au bw (aw aD rfl B.len KA (ac (pv 4) ad)) (aw aD rfl B.len KA (ac (pv 2) ad))) (fun _ _=>rfl)) ad)))))
  (ae (bV (iq Kw KZ K0 cW (pv 4) (ac (pv 6) ad)))
  (ae (zF (i:=7) d3.nd rfl rfl (sc:=(aj jh)) (NX:=FR) (N:=Bo) (ix:=[none,some 6,some 0]) (own:="_law_view") rfl (by refine⟨rfl,?_,rfl,fun _ _=>rfl,fun _=>rfl,?_,?_,?_,rfl,?_⟩<;>decide+kernel) (bB (pv 1)) (by intros;exact(mN (i:=0) (show(Bo:List Str).Nodup by decide+kernel) rfl (Ms rfl) (hf:=.inl DK))) (by intros;exact bi) (by intros;exact(ai U15 (rmD hr) (bN (bp (sc:=_) (hsc:=rfl) (NX:=Bo) (N:=F1) (ix:=[none,some 0,some 1]) rfl (by walk_at "e") (bJ rfl B.range (aP (aw aD rfl B.len KA (ac (pv 2) ad)) ad)) (by intros;exact(pgC 0 F1)) (by intros;exact bi) (by intros;exact(bQ (ay (aH bg (pv 1) (pv 0) (fun _ _=>rfl)) (ay (aH bg (pv 2) (pv 0) (fun _ _=>rfl)) ad))))) ad))))
  (ae (psS 5 d3 (aH bg (cg (aq ak (aK (au bt (pv 5) ak) ad))) (bK vJ rfl B.int boot_int (qS (d7 (DL hux) (pv 7) (pv 1) (aJ _)) ad)) (fun _ _=>rfl)))
  (ah (psS 1 d3 (pv 7))))))))
  (ah (av (pv 4)))))),zC h⟩
theorem wS(D:Def K mg "_law_right" fI i3 f fd)(B:Blt mg)(U0:BR P w K mg base 1):BY P w K mg base 2:=by
 refine D.ok wI (by walk_at "l") fun _ _ _ _ _ _ _ _ hr h=>?_;have hu:=hr.units0;exact⟨iY K,(ae (bf (PW.pt (jx (cv (cb (aw da rfl B.isinstance Lo (ac (pv 0) (ac (dJ (v:=.ty "list") rfl B.list L6 rfl) ad))))) (ii (aG AD (aw aD rfl B.len KA (ac (pv 0) ad)) (aw aD rfl B.len KA (ac (pv 1) ad)) (aJ _))))) (ah (av cN)) aM)
  (ah (av (d7 (xF hu) (bp (sc:=(aj fI)) (NX:=i3) (N:=F2) (ix:=[none,some 0,some 1]) rfl (by walk_at "c") (bJ rfl B.range (aP (aw aD rfl B.len KA (ac (pv 1) ad)) ad)) (by intros;exact(pgC 0 F2)) (by intros;exact(jo (cv (cb (ai U0 (rmD hr) (ay (aH bg (pv 1) (pv 0) (fun _ _=>rfl)) (ay (aH bg (pv 2) (pv 0) (fun _ _=>rfl)) ad))))))) (by intros;exact(pv 0))) (cg ad) (aJ _))))),wE h⟩
theorem wT(D:Def K mg "_law_stand" fJ rL f fd)(B:Blt mg){G:GF}(T:dq P w K mg G)(U26:Fx P w K mg base G 4)(U18:B6 P w K mg base G 4):BZ P w K mg base G 5:=by
 refine D.ok wJ (by walk_at "l") fun _ _ _ _ _ _ _ _ hr h=>?_;exact⟨fZ K G,(ah (av (Fp (sc:=(aj fJ)) (NX:=rL) (N:=Bp) (ix:=[none,some 0,some 2]) (own:="_law_hand") rfl (by refine⟨rfl,?_,rfl,fun _ _=>rfl,fun _=>rfl,?_,?_,?_,rfl,?_⟩<;>decide+kernel) (bJ rfl B.range (ac (pv 1) ad)) (by intros;exact(mN (i:=0) (show(Bp:List Str).Nodup by decide+kernel) rfl (Ms rfl) (hf:=.inl DK))) (by intros;exact bi) (by intros;exact(bQ (aP (eO U18 (rmD hr) T.cl_Table (pv 1) (ac (pv 0) ad)) (bN (bp (sc:=_) (hsc:=rfl) (NX:=Bp) (N:=F3) (ix:=[none,some 0,some 1]) rfl (by walk_at "e") (bJ rfl B.range (ac (pv 2) ad)) (by intros;exact(pgC 0 F3)) (by intros;exact bi) (by intros;exact(eO U26 (rmD hr) T.cl_Table (pv 2) (ac (pv 1) (ac (pv 0) ad))))) ad))))))),tO h⟩
theorem IF(D:Def K mg "law" on qz f fd)(B:Blt mg){G:GF}(T:dq P w K mg G)(U20:FnI P w K mg base 6 G.Table jS (de K G))(U18:B6 P w K mg base G 4)(U33:oj P w K mg base 1)(U37:BV P w K mg base 73)(U32:BW P w K mg base G 42)(U45:BX P w K mg base 40)(U28:BP P w K mg base 3)(U22:BY P w K mg base 2)(U11:xl P w K mg base 72)(U23:BZ P w K mg base G 5)(U42:By P w K mg base 5)(U55:Fq P w K mg base G 42):gi P w K mg base CX0 74 f fd qz (sf K):=by
 refine D.fn.ok dF (by walk_at "l") fun _ _ _ _ _ _ _ _ hr h=>?_;have hux:=hr.units64;exact⟨xf K G,(ae (ik (ai U28 (rmD hr) (ac (pv 0) (aq ak (aq ak ad)))) (cx rfl (aQ (mN (i:=1) dF.nd rfl (Ms rfl)) (aQ (pgS 2 dF) bZ))))
  (ae (gm (i:=3) dF.nd rfl (Ms rfl) (aw aD rfl B.len KA (ac (pv 2) ad)))
  (ae (psS 4 dF (ai U42 (rmD hr) (ac (pv 1) (ac (pv 2) ad))))
  (ae (gm (i:=5) dF.nd rfl (Ms rfl) (yq U20 (rmD hr) T.m_Table (ac (pv 1) (ac (pv 2) ad))))
  (ae (bS J6 rfl (bJ rfl B.range (aK (au bw (ai U33 (rmD hr) (ac (pv 0) (aq ak ad))) ak) ad)) (pgS 6 dF) (ah (bV (ai U32 (rmD hr) (ac (pv 5) (aP (ai U37 (rmD hr) (ac (pv 0) (aK (au bt ak (au dL ak (pv 6))) (ac (pv 1) (ac (pv 3) ad))))) ad))))))
  (ae (dn (i:=7) dF.nd rfl rfl (sc:=(aj on)) (NX:=Bl) (N:=["_law_hand"]) (ix:=[none]) rfl (by walk_at "c") (bJ rfl B.range (ac (pv 3) ad)) (by intros;exact(pgC 0 ["_law_hand"])) (by intros;exact bi) (by intros;exact(bQ (aq aX (ac (pv 0) ad)))))
  (ae (bf (aG bU (au bw (ai U33 (rmD hr) (ac (pv 0) (aq ak ad))) ak) ak (aJ _)) (ah (dn (i:=7) dF.nd rfl rfl (sc:=(aj on)) (NX:=Bl) (N:=FW) (ix:=[none,some 0,some 1,some 3]) rfl (by walk_at "c") (bJ rfl B.range (aK (au bt ak (au bw (au b7 (ai U33 (rmD hr) (ac (pv 0) (aq ak ad))) ak) ak)) ad)) (by intros;exact(pgC 0 FW)) (by intros;exact bi) (by intros;exact(ai U11 (rmD hr) (ac (pv 1) (aK (au bt ak (au dL ak (pv 0))) (ac (pv 2) (ac (pv 3) (aq ak ad))))))))) aM)
  (ae (psS 8 dF (aH bg (cg (aK (au bw (au b7 (ai U33 (rmD hr) (ac (pv 0) (aq ak ad))) ak) ak) (aK (au bw (au b7 (ai U33 (rmD hr) (ac (pv 0) (aq ak ad))) ak) ak) ad))) (au bw (ai U33 (rmD hr) (ac (pv 0) (aq ak ad))) ak) (fun _ _=>rfl)))
  (ae (dn (i:=9) dF.nd rfl rfl (sc:=(aj on)) (NX:=Bl) (N:=["_law_hand","_law_table"]) (ix:=[none,some 5]) rfl (by walk_at "c") (bJ rfl B.range (ac (pv 3) ad)) (by intros;exact(pgC 0 ["_law_hand","_law_table"])) (by intros;exact bi) (by intros;exact(eO U18 (rmD hr) T.cl_Table (pv 1) (ac (pv 0) ad))))
  (ae (psS 10 dF (ai U45 (rmD hr) (ac (pv 4) (ac (pv 9) (ac (pv 7) (ac (pv 8) ad))))))
  (ae (psS 11 dF (ai U23 (rmD hr) (ac (pv 5) (ac (pv 3) (aP (aw aD rfl B.len KA (ac (pv 4) ad)) ad)))))
  (ae (psS 12 dF (bK fU rfl B.list L6 (ac (pv 7) ad)))
  (ae (psS 13 dF (ai U55 (rmD hr) (ac (pv 5) (ac (pv 12) (ac (pv 8) ad)))))
  (ae (bf (PW.pt (jx (cv (cb (ai U22 (rmD hr) (ac (pv 13) (ac (pv 10) ad))))) (jx (aG (rG hux) (pv 12) (pv 7) (aJ _)) (ii (aG (rG hux) (ai U23 (rmD hr) (ac (pv 5) (ac (pv 3) (aP (aw aD rfl B.len KA (ac (pv 4) ad)) ad)))) (pv 11) (aJ _)))))) (ah (av cN)) aM)
  (ae (bV (iq Kw KZ K0 cW (pv 13) (EQ (cg ad) ad)))
  (ae (bf (aG kD (aw aD rfl B.len KA (ac (pv 10) ad)) ak (aJ _)) (ah (bV (Hy Kw PySem.F.slot_list_clear PySem.F.type_list_clear Ee (aH bg (pv 13) ak (fun _ _=>rfl))))) aM)
  (ah (av (ij (ai U22 (rmD hr) (aP (ai U55 (rmD hr) (ac (pv 5) (ac (pv 12) (ac (pv 8) ad)))) (ac (pv 10) ad))) (fm (d7 (E8 hux) (ai U23 (rmD hr) (ac (pv 5) (ac (pv 3) (aP (aw aD rfl B.len KA (ac (pv 4) ad)) ad)))) (pv 11) (aJ _)))))))))))))))))))))),Iz h⟩
theorem wU{G:GF}(D:yp K G.Table "Table.__init__" fK jS f fd)(B:Blt mg)(T:dq P w K mg G)(U42:By P w K mg base 5)(U16:BE P w K mg base 2):FnI P w K mg base 6 G.Table jS (de K G):=by
 refine D.ok wK (by walk_at "l") fun _ _ _ _ _ _ _ _ hr h=>?_;exact⟨iP K G,(ae (j0 (pv 0) (ai U42 (rmD hr) (ac (pv 1) (ac (pv 2) ad))) rfl)
  (ae (j0 (pv 0) (pv 1) rfl)
  (ae (j0 (pv 0) (bK fU rfl B.list L6 (ac (pv 2) ad)) rfl)
  (ae (j0 (pv 0) (aw aD rfl B.len KA (ac (pv 2) ad)) rfl)
  (ae (j0 (pv 0) (bp (sc:=(aj fK)) (NX:=jS) (N:=["hand","self"]) (ix:=[none,some 0]) rfl (by walk_at "c") (bJ rfl B.range (bm (bL (pv 0) rfl) ad)) (by intros;exact(pgC 0 ["hand","self"])) (by intros;exact bi) (by intros;exact(ai U16 (rmD hr) (bm (bL (pv 1) rfl) (ac (pv 0) ad))))) rfl)
  (ah (j0 (pv 0) (cg ad) rfl))))))),wx T.ct h⟩
theorem wV{G:GF}(D:fA K G.Table "view" "Table.view" ji qu f fd)(B:Blt mg)(T:dq P w K mg G)(U39:rM P w K mg base 3)(U2:qC P w K mg base 1):B6 P w K mg base G 4:=by
 refine D.ok wL (by walk_at "l") fun _ _ _ _ _ _ _ _ hr h=>?_;exact⟨iQ K G,(ae (bV (ai U2 (rmD hr) (aP (ai U39 (rmD hr) (ac (pv 1) (bm (bL (pv 0) rfl) ad))) (aq aX ad))))
  (ah (av (bK fU rfl B.list L6 (ay (aH bg (bL (pv 0) rfl) (pv 1) (fun _ _=>rfl)) ad))))),wz T.ct h⟩
theorem wW{G:GF}(D:fA K G.Table "word" "Table.word" jj qp f fd)(B:Blt mg)(T:dq P w K mg G)(U12:B7 P w K mg base G 3)(U8:Fy P w K mg base G 40)(U38:Bx P w K mg base 3)(U2:qC P w K mg base 1):B5 P w K mg base G 41:=by
 refine D.ok wM (by walk_at "l") fun _ _ _ _ _ _ _ _ hr h=>?_;exact⟨iS K G,(ae (bV (ai U2 (rmD hr) (aP (ai U38 (rmD hr) (ac (pv 1) (bm (bL (pv 0) rfl) ad))) (aq aX ad))))
  (ah (av (eO U12 (rmD hr) T.cl_Table (pv 0) (ac (pv 1) (aP (eO U8 (rmD hr) T.cl_Table (pv 0) (ac (pv 2) ad)) ad)))))),wB T.ct h⟩
theorem wX{G:GF}(D:fA K G.Table "show" "Table.show" fL ug f fd)(B:Blt mg)(T:dq P w K mg G)(m_set:mg "set"=none)(U12:B7 P w K mg base G 3)(U30:BL P w K mg base 4)(U39:rM P w K mg base 3)(U17:BM P w K mg base 1)(U2:qC P w K mg base 1):Fw P w K mg base G 5:=by
 refine D.ok oy (by walk_at "l") fun _ _ _ _ _ _ _ _ hr h=>?_;exact⟨iU K G,(ae (bV (ai U2 (rmD hr) (aP (ai U39 (rmD hr) (ac (pv 1) (bm (bL (pv 0) rfl) ad))) (aq aX ad))))
  (ae (bV (ai U2 (rmD hr) (aP (ai U39 (rmD hr) (ac (pv 2) (aK (au bt (bL (pv 0) rfl) ak) ad))) (aq aX ad))))
  (ae (bV (ai U2 (rmD hr) (aP (ai U30 (rmD hr) (ac (pv 3) (bm (bL (pv 0) rfl) ad))) (aq aX ad))))
  (ae (gm (i:=4) oy.nd rfl (Ms rfl) (Bi rfl B.sorted m_set (ac (pv 3) ad)))
  (ah (av (eO U12 (rmD hr) T.cl_Table (pv 0) (bC (bQ (ac (pv 1) ad)) (bN (bp (sc:=(aj fL)) (NX:=F0) (N:=nX) (ix:=[none,some 2,some 4]) rfl (by walk_at "c") (bB (bL (pv 0) rfl)) (by intros;exact(pgC 0 nX)) (by intros;exact bi) (by intros;exact(ai U17 (rmD hr) (ac (pv 0) (ac (pv 1) (ac (pv 2) ad)))))) ad))))))))),wC T.ct h⟩
theorem uL{G:GF}(D:fA K G.Table "truths" "Table.truths" gf qx f fd)(B:Blt mg)(T:dq P w K mg G)(U31:BB P w K mg base 6)(U34:F6 P w K mg base 39):Fy P w K mg base G 40:=by
 refine D.ok uG (by walk_at "l") fun _ _ _ _ _ _ _ _ hr h=>?_;exact⟨fX K G,(ae (bf (cv (cb (ai U31 (rmD hr) (bm (bL (pv 0) rfl) (bm (bL (pv 0) rfl) (ac (pv 1) ad)))))) (ah m8) aM)
  (ah (av (ai U34 (rmD hr) (bm (bL (pv 0) rfl) (bm (bL (pv 0) rfl) (ac (pv 1) ad))))))),tF T.ct h⟩
theorem ze{G:GF}(D:fA K G.Table "saw" "Table.saw" gF nY f fd)(B:Blt mg)(T:dq P w K mg G)(U44:uA P w K mg base 1)(U39:rM P w K mg base 3)(U2:qC P w K mg base 1):Fx P w K mg base G 4:=by
 refine D.ok yW (by walk_at "l") fun _ _ _ _ _ _ _ _ hr h=>?_;exact⟨jR K G,(ae (bV (ai U2 (rmD hr) (aP (ai U39 (rmD hr) (ac (pv 1) (bm (bL (pv 0) rfl) ad))) (aq aX ad))))
  (ae (bV (ai U2 (rmD hr) (aP (ai U39 (rmD hr) (ac (pv 2) (aP (aw aD rfl B.len KA (bm (bL (pv 0) rfl) ad)) ad))) (aq aX ad))))
  (ah (av (au mX (cg (aP (ai U44 (rmD hr) (ay (aH bg (bL (pv 0) rfl) (pv 2) (fun _ _=>rfl)) (ac (pv 1) ad))) ad)) (bp (sc:=(aj gF)) (NX:=nY) (N:=Bs) (ix:=[none,none,some 2,some 1]) rfl (by walk_at "c") (bB (bL (pv 0) rfl)) (by intros;exact(cx rfl (aQ (pgC 0 Bs) (aQ (pgC 1 Bs) bZ)))) (by intros;exact(jo (aG Cq (pv 3) (pv 0) rfl))) (by intros;exact(aH bg (pv 1) (pv 2) (fun _ _=>rfl))))))))),yK T.ct h⟩
theorem vF{G:GF}(D:fA K G.Table "again" "Table.again" gW ["self"] f fd)(B:Blt mg)(T:dq P w K mg G)(U20:FnI P w K mg base 6 G.Table jS (de K G)):Fv P w K mg base G 8:=by
 refine D.ok m5 (by walk_at "l") fun _ _ _ _ _ _ _ _ hr h=>?_;exact⟨gP K G,(ae (psS 1 m5 (yq U20 (rmD hr) T.m_Table (bm (bL (pv 0) rfl) (bm (bL (pv 0) rfl) ad))))
  (ae (j0 (pv 1) (bK fU rfl B.list L6 (bm (bL (pv 0) rfl) ad)) rfl)
  (ae (j0 (pv 1) (bK fU rfl B.list L6 (bm (bL (pv 0) rfl) ad)) rfl)
  (ah (av (pv 1)))))),vk T.ct h⟩
theorem vG{G:GF}(D:fA K G.Table "learn" "Table.learn" gX ui f fd)(B:Blt mg)(T:dq P w K mg G)(U53:BF P w K mg base 2):B7 P w K mg base G 3:=by
 refine D.ok m6 (by walk_at "l") fun _ _ _ _ _ _ _ _ hr h=>?_;exact⟨gN K G,(ae (bS J6 rfl (oJ (pv 1)) (pgS 3 m6) (ah (ik (ai U53 (rmD hr) (ay (aH bg (bL (pv 0) rfl) (pv 3) (fun _ _=>rfl)) (ac (pv 2) ad))) (jZ (bL (pv 0) rfl) (pv 3) kY))))
  (ae (bV (iq Kw KZ K0 cW (bL (pv 0) rfl) (bC (bQ (ac (pv 1) (ac (pv 2) ad))) ad)))
  (ah (av (bK fU rfl B.list L6 (ac (pv 2) ad)))))),vh T.ct h⟩
theorem Ji(B:Blt mg){G:GF}{f1:Addr}{fd1:JV}(V114:Def K mg "play" uC uj f1 fd1){f2:Addr}{fd2:JV}(V102:Def K mg "is_whole" kO qB f2 fd2){f3:Addr}{fd3:JV}(V94:Def K mg "is_within" jT ql f3 fd3){f4:Addr}{fd4:JV}(V98:Def K mg "is_below" kP qo f4 fd4){f5:Addr}{fd5:JV}(V97:Def K mg "are_hands" jU uq f5 fd5){f6:Addr}{fd6:JV}(V106:Def K mg "is_pack" ke fD f6 fd6){f7:Addr}{fd7:JV}(V101:Def K mg "how_many" kQ fD f7 fd7){f8:Addr}{fd8:JV}(V105:Def K mg "choices" mj ut f8 fd8){f9:Addr}{fd9:JV}(V100:Def K mg "deals_of" kS fD f9 fd9){f10:Addr}{fd10:JV}(V62:Def K mg "with_one_more" fh uu f10 fd10){f11:Addr}{fd11:JV}(V103:Def K mg "cards_of" i5 nZ f11 fd11){f12:Addr}{fd12:JV}(V90:Def K mg "is_saying" gB mM f12 fd12){f13:Addr}{fd13:JV}(V107:Def K mg "is_word" kf mM f13 fd13){f14:Addr}{fd14:JV}(V115:Def K mg "fits" uE qk f14 fd14){f15:Addr}{fd15:JV}(V99:Def K mg "parts_of" i6 uz f15 fd15){f16:Addr}{fd16:JV}(V63:Def K mg "parts_of_all" ga uy f16 fd16){f17:Addr}{fd17:JV}(V75:Def K mg "first_view" fF og f17 fd17){f18:Addr}{fd18:JV}(V112:Def K mg "split" qD qt f18 fd18){f19:Addr}{fd19:JV}(V60:Def K mg "least_with_same" dj ["marks"] f19 fd19){f20:Addr}{fd20:JV}(V108:Def K mg "joined" lI uv f20 fd20){f21:Addr}{fd21:JV}(V116:Def K mg "link" uF ul f21 fd21){f22:Addr}{fd22:JV}(V109:Def K mg "end_of" ol uo f22 fd22){f23:Addr}{fd23:JV}(V93:Def K mg "truths_of" du qr f23 fd23){f24:Addr}{fd24:JV}(V113:Def K mg "both" pL fg f24 fd24){f25:Addr}{fd25:JV}(V110:Def K mg "either" lJ fg f25 fd25){f26:Addr}{fd26:JV}(V111:Def K mg "known" mZ um f26 fd26){f27:Addr}{fd27:JV}(V66:Def K mg "known_to_all" gb ur f27 fd27){f28:Addr}{fd28:JV}(V117:Def K mg "seen" pM oh f28 fd28){f29:Addr}{fd29:JV}(V61:Def K mg "refuse_unless" fj qq f29 fd29){f30:Addr}{fd30:JV}(V89:Def K mg "are_cards" gC n9 f30 fd30){f31:Addr}{fd31:JV}(V76:Def K mg "least_held" i8 nX f31 fd31){f32:Addr}{fd32:JV}(V92:Def K mg "_law_cell" jV t0 f32 fd32){f33:Addr}{fd33:JV}(V65:Def K mg "_law_product" gc ux f33 fd33){f34:Addr}{fd34:JV}(V78:Def K mg "_law_count" ja uk f34 fd34){f35:Addr}{fd35:JV}(V87:Def K mg "_law_pack" jW t9 f35 fd35){f36:Addr}{fd36:JV}(V74:Def K mg "_law_least" jb uw f36 fd36){f37:Addr}{fd37:JV}(V59:Def K mg "_law_truths_told" cY i3 f37 fd37){f38:Addr}{fd38:JV}(V73:Def K mg "_law_words" jc qw f38 fd38){f39:Addr}{fd39:JV}(V72:Def K mg "_law_group" fH nW f39 fd39){f40:Addr}{fd40:JV}(V86:Def K mg "_law_pool" jX mK f40 fd40){f41:Addr}{fd41:JV}(V70:Def K mg "_law_saying" gU yP f41 fd41){f42:Addr}{fd42:JV}(V88:Def K mg "_law_kept" gD uh f42 fd42){f43:Addr}{fd43:JV}(V95:Def K mg "_law_each" eW mL f43 fd43){f44:Addr}{fd44:JV}(V68:Def K mg "_law_shared" eS mL f44 fd44){f45:Addr}{fd45:JV}(V64:Def K mg "_law_sighted" dw tZ f45 fd45){f46:Addr}{fd46:JV}(V84:Def K mg "_law_read" dv qj f46 fd46){f47:Addr}{fd47:JV}(V96:Def K mg "_law_deed" gE mK f47 fd47){f48:Addr}{fd48:JV}(V91:Def K mg "_law_done" jY qm f48 fd48){f49:Addr}{fd49:JV}(V104:Def K mg "_law_due" jh yQ f49 fd49){f50:Addr}{fd50:JV}(V80:Def K mg "_law_right" fI i3 f50 fd50){f51:Addr}{fd51:JV}(V81:Def K mg "_law_stand" fJ rL f51 fd51){f52:Addr}{fd52:JV}(V118:Def K mg "law" on qz f52 fd52){f53:Addr}{fd53:JV}(V79:yp K G.Table "Table.__init__" fK jS f53 fd53){f54:Addr}{fd54:JV}(V77:fA K G.Table "view" "Table.view" ji qu f54 fd54){f55:Addr}{fd55:JV}(V83:fA K G.Table "word" "Table.word" jj qp f55 fd55){f56:Addr}{fd56:JV}(V82:fA K G.Table "show" "Table.show" fL ug f56 fd56){f57:Addr}{fd57:JV}(V67:fA K G.Table "truths" "Table.truths" gf qx f57 fd57){f58:Addr}{fd58:JV}(V85:fA K G.Table "saw" "Table.saw" gF nY f58 fd58){f59:Addr}{fd59:JV}(V69:fA K G.Table "again" "Table.again" gW ["self"] f59 fd59){f60:Addr}{fd60:JV}(V71:fA K G.Table "learn" "Table.learn" gX ui f60 fd60)(T:dq P w K mg G){t_MOST_CARDS:Tok}(m_MOST_CARDS:mg "MOST_CARDS"=some (.int 12 t_MOST_CARDS)){t_MOST_HANDS:Tok}(m_MOST_HANDS:mg "MOST_HANDS"=some (.int 5 t_MOST_HANDS)){t_MOST_DEALS:Tok}(m_MOST_DEALS:mg "MOST_DEALS"=some (.int 2000 t_MOST_DEALS)){t_MOST_WORDS:Tok}(m_MOST_WORDS:mg "MOST_WORDS"=some (.int 30 t_MOST_WORDS))(m_set:mg "set"=none):gi P w K mg base CX0 74 f52 fd52 qz (sf K):=by
 have U46:Fs P w K mg base 1:=Ca V105 B;have U43:Bw P w K mg base 1:=zJ V102 B;have U35:yS P w K mg base 2:=yX V94 B U43;have U47:Fr P w K mg base 3:=B9 V106 B m_MOST_CARDS m_MOST_HANDS U35;have U41:Ft P w K mg base 4:=zL V101 B U46 U47;have U3:Fu P w K mg base 1:=rO V62 B;have U42:By P w K mg base 5:=zM V100 B m_MOST_DEALS U41 U3;have U44:uA P w K mg base 1:=zN V103 B;have U1:xh P w K mg base 1:=pN V60 B;have U16:BE P w K mg base 2:=wN V75 B U44 U1;have U20:FnI P w K mg base 6 G.Table jS (de K G):=wU V79 B T U42 U16;have U39:rM P w K mg base 3:=zK V98 B U35;have U2:qC P w K mg base 1:=rP V61 B;have U18:B6 P w K mg base G 4:=wV V77 B T U39 U2;have U33:oj P w K mg base 1:=y7 V92 B;have U13:xk P w K mg base 1:=wR V72 B;have U27:BS P w K mg base 2:=y9 V86 B U33;have U14:F4 P w K mg base 71:=oz V73 B 70;have U11:xl P w K mg base 72:=vC V70 B U33 U13 U27 U14;have U37:BV P w K mg base 73:=zc V96 B U33 U13 U11;have U53:BF P w K mg base 2:=FA V112 B U1;have U12:B7 P w K mg base G 3:=vG V71 B T U53;have U30:BL P w K mg base 4:=y6 V89 B U39;have U17:BM P w K mg base 1:=wO V76 B;have U21:Fw P w K mg base G 5:=wX V82 B T m_set U12 U30 U39 U17 U2;have U38:Bx P w K mg base 3:=yY V97 B U35;have U56:BC P w K mg base 4:=Hg V115 B U38 U39;have U48:Bz P w K mg base 5:=Cb V107 B T U56;have U40:BD P w K mg base 1:=zO V99 B T;have U4:BA P w K mg base 2:=uH V63 B U40;have U31:BB P w K mg base 6:=yZ V90 B m_MOST_WORDS U43 U48 U4;have U54:xj P w K mg base 1:=Hi V113 B;have U51:BI P w K mg base 1:=DP V110 B;have U50:xi P w K mg base 1:=DO V109 B;have U57:BG P w K mg base 2:=Hh V116 B U50;have U49:BH P w K mg base 3:=DN V108 B U50 U57;have U52:uB P w K mg base 1:=FB V111 B;have U7:BJ P w K mg base 2:=uI V66 B U54 U52;have U58:BK P w K mg base 2:=Hj V117 B U52;have U34:F6 P w K mg base 39:=pO V93 B U54 U44 U51 U49 U52 U7 U58 35;have U8:Fy P w K mg base G 40:=uL V67 B T U31 U34;have U24:B5 P w K mg base G 41:=wW V83 B T U12 U8 U38 U2;have U32:BW P w K mg base G 42:=zd V91 B T U21 U24;have U15:BQ P w K mg base 1:=wQ V74 B;have U29:xm P w K mg base 1:=za V88 B;have U36:xn P w K mg base 2:=zb V95 B U29;have U9:BT P w K mg base 3:=vE V68 B U36;have U5:BU P w K mg base 1:=uK V64 B;have U25:F5 P w K mg base 39:=pP V84 B U36 U29 U9 U5 35;have U45:BX P w K mg base 40:=zP V104 B U15 U25;have U6:BN P w K mg base 1:=uJ V65 B;have U19:BO P w K mg base 2:=wP V78 B U6;have U28:BP P w K mg base 3:=y8 V87 B U33 U19;have U0:BR P w K mg base 1:=oC V59 B;have U22:BY P w K mg base 2:=wS V80 B U0;have U26:Fx P w K mg base G 4:=ze V85 B T U44 U39 U2;have U23:BZ P w K mg base G 5:=wT V81 B T U26 U18;have U10:Fv P w K mg base G 8:=vF V69 B T U20;have U55:Fq P w K mg base G 42:=Hf V114 B T U10 U24;exact IF V118 B T U20 U18 U33 U37 U32 U45 U28 U22 U11 U23 U42 U55
end
@[elab_as_elim] theorem ofLen1 {α:Type} {P:List α->Prop} (us:List α) (hl:us.length=1) (h:∀a0:α,P [a0]):P us:=match us,hl with | [a0],_=>h a0
@[elab_as_elim] theorem ofLen2 {α:Type} {P:List α->Prop} (us:List α) (hl:us.length=2) (h:∀a0 a1:α,P [a0,a1]):P us:=match us,hl with | [a0,a1],_=>h a0 a1
@[elab_as_elim] theorem ofLen3 {α:Type} {P:List α->Prop} (us:List α) (hl:us.length=3) (h:∀a0 a1 a2:α,P [a0,a1,a2]):P us:=match us,hl with | [a0,a1,a2],_=>h a0 a1 a2
@[elab_as_elim] theorem ofLen4 {α:Type} {P:List α->Prop} (us:List α) (hl:us.length=4) (h:∀a0 a1 a2 a3:α,P [a0,a1,a2,a3]):P us:=match us,hl with | [a0,a1,a2,a3],_=>h a0 a1 a2 a3
@[elab_as_elim] theorem ofLen5 {α:Type} {P:List α->Prop} (us:List α) (hl:us.length=5) (h:∀a0 a1 a2 a3 a4:α,P [a0,a1,a2,a3,a4]):P us:=match us,hl with | [a0,a1,a2,a3,a4],_=>h a0 a1 a2 a3 a4
local macro_rules | `(tactic| walk_at "b1")=>`(tactic| exact fun _ _ _ _ _ _ us hl=>ofLen1 us hl fun _=>rfl)
local macro_rules | `(tactic| walk_at "b2")=>`(tactic| exact fun _ _ _ _ _ _ us hl=>ofLen2 us hl fun _ _=>rfl)
local macro_rules | `(tactic| walk_at "b3")=>`(tactic| exact fun _ _ _ _ _ _ us hl=>ofLen3 us hl fun _ _ _=>rfl)
local macro_rules | `(tactic| walk_at "b4")=>`(tactic| exact fun _ _ _ _ _ _ us hl=>ofLen4 us hl fun _ _ _ _=>rfl)
local macro_rules | `(tactic| walk_at "b5")=>`(tactic| exact fun _ _ _ _ _ _ us hl=>ofLen5 us hl fun _ _ _ _ _=>rfl)
theorem all_mk{l:W.OpenLaw}{w:World}{K:Fg}{h:Heap}{mg:Str->Option Value}{fa:Addr}(X:K.In h)(G:h.Ns Kb mg)(hfa:mg "law"=some (.ref fa))
  {t_MOST_CARDS:Tok}  {t_MOST_HANDS:Tok}  {t_MOST_DEALS:Tok}  {t_MOST_WORDS:Tok}   {aF fm1 fm2 fm3 fm4 fm5 fm6 fm7 fm8:Addr} {tk1 tk2 tk3 tk4 tk5 tk6 tk7 tk8 tu1 tu2 tu3 tu4 tu5 tu6 tu7 tu8 tu9 tu10 tu11 tu12 tu13 tu14:Tok} {epF tn1 tn2 tn3 tn4 tn5 tn6 tn7 tn8:Nat} {to1 to2 to3 to4 to5 to6 to7 to8:Option Addr} {ts1 ts2 ts3 ts4 ts5 ts6 ts7 ts8:Array (Option Value)} {aT:Addr}
  (q1:DfA K "play" uC)
  (q2:DfA K "is_whole" kO)
  (q3:DfA K "is_within" jT)
  (q4:DfA K "is_below" kP)
  (q5:DfA K "are_hands" jU)
  (q6:DfA K "is_pack" ke)
  (q7:DfA K "how_many" kQ)
  (q8:DfA K "choices" mj)
  (q9:DfA K "deals_of" kS)
  (q10:DfA K "with_one_more" fh)
  (q11:DfA K "cards_of" i5)
  (q12:DfA K "is_saying" gB)
  (q13:DfA K "is_word" kf)
  (q14:DfA K "fits" uE)
  (q15:DfA K "parts_of" i6)
  (q16:DfA K "parts_of_all" ga)
  (q17:DfA K "first_view" fF)
  (q18:DfA K "split" qD)
  (q19:DfA K "least_with_same" dj)
  (q20:DfA K "joined" lI)
  (q21:DfA K "link" uF)
  (q22:DfA K "end_of" ol)
  (q23:DfA K "truths_of" du)
  (q24:DfA K "both" pL)
  (q25:DfA K "either" lJ)
  (q26:DfA K "known" mZ)
  (q27:DfA K "known_to_all" gb)
  (q28:DfA K "seen" pM)
  (q29:DfA K "refuse_unless" fj)
  (q30:DfA K "are_cards" gC)
  (q31:DfA K "least_held" i8)
  (q32:DfA K "_law_cell" jV)
  (q33:DfA K "_law_product" gc)
  (q34:DfA K "_law_count" ja)
  (q35:DfA K "_law_pack" jW)
  (q36:DfA K "_law_least" jb)
  (q37:DfA K "_law_truths_told" cY)
  (q38:DfA K "_law_words" jc)
  (q39:DfA K "_law_group" fH)
  (q40:DfA K "_law_pool" jX)
  (q41:DfA K "_law_saying" gU)
  (q42:DfA K "_law_kept" gD)
  (q43:DfA K "_law_each" eW)
  (q44:DfA K "_law_shared" eS)
  (q45:DfA K "_law_sighted" dw)
  (q46:DfA K "_law_read" dv)
  (q47:DfA K "_law_deed" gE)
  (q48:DfA K "_law_done" jY)
  (q49:DfA K "_law_due" jh)
  (q50:DfA K "_law_right" fI)
  (q51:DfA K "_law_stand" fJ)
  (q52:DfA K "law" on)
  (q53:MtA K aT "__init__" "Table.__init__" fK)
  (q54:MtA K aT "view" "Table.view" ji)
  (q55:MtA K aT "word" "Table.word" jj)
  (q56:MtA K aT "show" "Table.show" fL)
  (q57:MtA K aT "truths" "Table.truths" gf)
  (q58:MtA K aT "saw" "Table.saw" gF)
  (q59:MtA K aT "again" "Table.again" gW)
  (q60:MtA K aT "learn" "Table.learn" gX)
  (y1:LW K Kb "MOST_CARDS"=some (some (.int 12 t_MOST_CARDS)))
  (y2:LW K Kb "MOST_HANDS"=some (some (.int 5 t_MOST_HANDS)))
  (y3:LW K Kb "MOST_DEALS"=some (some (.int 2000 t_MOST_DEALS)))
  (y4:LW K Kb "MOST_WORDS"=some (some (.int 30 t_MOST_WORDS)))
  (y5:LW K Kb "set"=some none)
  (x1:LW K Kb "FORMS"=some (some (.ref aF)))
  (x2:K.lookup aF=some ⟨.type "dict",none,.dict #[⟨KS w.params "holds",.str "holds" tk1,.ref fm1⟩,⟨KS w.params "not",.str "not" tk2,.ref fm2⟩,⟨KS w.params "and",.str "and" tk3,.ref fm3⟩,⟨KS w.params "or",.str "or" tk4,.ref fm4⟩,⟨KS w.params "knows",.str "knows" tk5,.ref fm5⟩,⟨KS w.params "all",.str "all" tk6,.ref fm6⟩,⟨KS w.params "common",.str "common" tk7,.ref fm7⟩,⟨KS w.params "sees",.str "sees" tk8,.ref fm8⟩] epF,#[]⟩)
  (x3:K.lookup fm1=some ⟨.type "tuple",to1,.seq #[.str "holder" tu1,.str "card" tu2] tn1,ts1⟩)
  (x4:K.lookup fm2=some ⟨.type "tuple",to2,.seq #[.str "saying" tu3] tn2,ts2⟩)
  (x5:K.lookup fm3=some ⟨.type "tuple",to3,.seq #[.str "saying" tu4,.str "saying" tu5] tn3,ts3⟩)
  (x6:K.lookup fm4=some ⟨.type "tuple",to4,.seq #[.str "saying" tu6,.str "saying" tu7] tn4,ts4⟩)
  (x7:K.lookup fm5=some ⟨.type "tuple",to5,.seq #[.str "hand" tu8,.str "saying" tu9] tn5,ts5⟩)
  (x8:K.lookup fm6=some ⟨.type "tuple",to6,.seq #[.str "hands" tu10,.str "saying" tu11] tn6,ts6⟩)
  (x9:K.lookup fm7=some ⟨.type "tuple",to7,.seq #[.str "hands" tu12,.str "saying" tu13] tn7,ts7⟩)
  (x10:K.lookup fm8=some ⟨.type "tuple",to8,.seq #[.str "hand" tu14] tn8,ts8⟩)
  (x11:(aF==LF)=false)
  (x12:LW K Kb "Table"=some (some (.ref aT)))
  (x13:W.plainGet K aT SF=true)
  (x14:W.hasDictIn K aT=true)
  (x15:W.plainOver K aT=true)
  (x16:OK K (.ref aT) "__setattr__"=some (some (.builtin "object.__setattr__")))
  (x17:W.makesIn K aT=true)
  (x18:W.keepIn K (.ref aT)=true)
  (x19:OK K (.ref aT) "dealt"=some none)
  (x20:OK K (.ref aT) "cards"=some none)
  (x21:OK K (.ref aT) "sizes"=some none)
  (x22:OK K (.ref aT) "hands"=some none)
  (x23:OK K (.ref aT) "views"=some none)
  (x24:OK K (.ref aT) "deeds"=some none)
  (z1:LW K Kb "len"=some none) (z2:LW K Kb "range"=some none) (z3:LW K Kb "tuple"=some none) (z4:LW K Kb "list"=some none) (z5:LW K Kb "int"=some none) (z6:LW K Kb "bool"=some none) (z7:LW K Kb "str"=some none) (z8:LW K Kb "dict"=some none) (z9:LW K Kb "sum"=some none) (z10:LW K Kb "all"=some none) (z11:LW K Kb "min"=some none) (z12:LW K Kb "max"=some none) (z13:LW K Kb "sorted"=some none) (z14:LW K Kb "enumerate"=some none) (z15:LW K Kb "zip"=some none) (z16:LW K Kb "isinstance"=some none):
  ∃fd:JV,(∀(s:Shared)(v:Value),BindsTo s fd ⟨[v],[]⟩ [("_law_script",v)])/\∀base:Heap,K.In base->base.Ns Kb mg->gi l.prog w K mg base CX0 74 fa fd qz (sf K):=by
 have B:Blt mg:=⟨K7 X G z1,K7 X G z2,K7 X G z3,K7 X G z4,K7 X G z5,K7 X G z6,K7 X G z7,K7 X G z8,K7 X G z9,K7 X G z10,K7 X G z11,K7 X G z12,K7 X G z13,K7 X G z14,K7 X G z15,K7 X G z16⟩;obtain⟨_,_,D1⟩:=q1.df (ps:=uj) X G (by walk_at "b3");obtain⟨_,_,D2⟩:=q2.df (ps:=qB) X G (by walk_at "b1");obtain⟨_,_,D3⟩:=q3.df (ps:=ql) X G (by walk_at "b3");obtain⟨_,_,D4⟩:=q4.df (ps:=qo) X G (by walk_at "b2");obtain⟨_,_,D5⟩:=q5.df (ps:=uq) X G (by walk_at "b2");obtain⟨_,_,D6⟩:=q6.df (ps:=fD) X G (by walk_at "b2");obtain⟨_,_,D7⟩:=q7.df (ps:=fD) X G (by walk_at "b2");obtain⟨_,_,D8⟩:=q8.df (ps:=ut) X G (by walk_at "b2");obtain⟨_,_,D9⟩:=q9.df (ps:=fD) X G (by walk_at "b2");obtain⟨_,_,D10⟩:=q10.df (ps:=uu) X G (by walk_at "b2");obtain⟨_,_,D11⟩:=q11.df (ps:=nZ) X G (by walk_at "b2");obtain⟨_,_,D12⟩:=q12.df (ps:=mM) X G (by walk_at "b3");obtain⟨_,_,D13⟩:=q13.df (ps:=mM) X G (by walk_at "b3");obtain⟨_,_,D14⟩:=q14.df (ps:=qk) X G (by walk_at "b4");obtain⟨_,_,D15⟩:=q15.df (ps:=uz) X G (by walk_at "b1");obtain⟨_,_,D16⟩:=q16.df (ps:=uy) X G (by walk_at "b1");obtain⟨_,_,D17⟩:=q17.df (ps:=og) X G (by walk_at "b2");obtain⟨_,_,D18⟩:=q18.df (ps:=qt) X G (by walk_at "b2");obtain⟨_,_,D19⟩:=q19.df (ps:=["marks"]) X G (by walk_at "b1");obtain⟨_,_,D20⟩:=q20.df (ps:=uv) X G (by walk_at "b2");obtain⟨_,_,D21⟩:=q21.df (ps:=ul) X G (by walk_at "b3");obtain⟨_,_,D22⟩:=q22.df (ps:=uo) X G (by walk_at "b2");obtain⟨_,_,D23⟩:=q23.df (ps:=qr) X G (by walk_at "b3");obtain⟨_,_,D24⟩:=q24.df (ps:=fg) X G (by walk_at "b2");obtain⟨_,_,D25⟩:=q25.df (ps:=fg) X G (by walk_at "b2");obtain⟨_,_,D26⟩:=q26.df (ps:=um) X G (by walk_at "b2");obtain⟨_,_,D27⟩:=q27.df (ps:=ur) X G (by walk_at "b2");obtain⟨_,_,D28⟩:=q28.df (ps:=oh) X G (by walk_at "b2");obtain⟨_,_,D29⟩:=q29.df (ps:=qq) X G (by walk_at "b2");obtain⟨_,_,D30⟩:=q30.df (ps:=n9) X G (by walk_at "b2");obtain⟨_,_,D31⟩:=q31.df (ps:=nX) X G (by walk_at "b3");obtain⟨_,_,D32⟩:=q32.df (ps:=t0) X G (by walk_at "b2");obtain⟨_,_,D33⟩:=q33.df (ps:=ux) X G (by walk_at "b1");obtain⟨_,_,D34⟩:=q34.df (ps:=uk) X G (by walk_at "b2");obtain⟨_,_,D35⟩:=q35.df (ps:=t9) X G (by walk_at "b3");obtain⟨_,_,D36⟩:=q36.df (ps:=uw) X G (by walk_at "b1");obtain⟨_,_,D37⟩:=q37.df (ps:=i3) X G (by walk_at "b2");obtain⟨_,_,D38⟩:=q38.df (ps:=qw) X G (by walk_at "b1");obtain⟨_,_,D39⟩:=q39.df (ps:=nW) X G (by walk_at "b2");obtain⟨_,_,D40⟩:=q40.df (ps:=mK) X G (by walk_at "b4");obtain⟨_,_,D41⟩:=q41.df (ps:=yP) X G (by walk_at "b5");obtain⟨_,_,D42⟩:=q42.df (ps:=uh) X G (by walk_at "b2");obtain⟨_,_,D43⟩:=q43.df (ps:=mL) X G (by walk_at "b3");obtain⟨_,_,D44⟩:=q44.df (ps:=mL) X G (by walk_at "b3");obtain⟨_,_,D45⟩:=q45.df (ps:=tZ) X G (by walk_at "b3");obtain⟨_,_,D46⟩:=q46.df (ps:=qj) X G (by walk_at "b3");obtain⟨_,_,D47⟩:=q47.df (ps:=mK) X G (by walk_at "b4");obtain⟨_,_,D48⟩:=q48.df (ps:=qm) X G (by walk_at "b2");obtain⟨_,_,D49⟩:=q49.df (ps:=yQ) X G (by walk_at "b4");obtain⟨_,_,D50⟩:=q50.df (ps:=i3) X G (by walk_at "b2");obtain⟨_,_,D51⟩:=q51.df (ps:=rL) X G (by walk_at "b3");obtain⟨fd,D52,hb⟩:=q52.law X G (by walk_at "b1") hfa fun _ _ _ _ _ _ _ _=>.of_eq rfl;obtain⟨_,_,D53⟩:=q53.di (ps:=jS) x17 x18 (by walk_at "b3");obtain⟨_,_,D54⟩:=q54.df (ps:=qu) (by walk_at "b2");obtain⟨_,_,D55⟩:=q55.df (ps:=qp) (by walk_at "b3");obtain⟨_,_,D56⟩:=q56.df (ps:=ug) (by walk_at "b4");obtain⟨_,_,D57⟩:=q57.df (ps:=qx) (by walk_at "b2");obtain⟨_,_,D58⟩:=q58.df (ps:=nY) (by walk_at "b3");obtain⟨_,_,D59⟩:=q59.df (ps:=["self"]) (by walk_at "b1");obtain⟨_,_,D60⟩:=q60.df (ps:=ui) (by walk_at "b3");refine⟨fd,hb,fun base _ _=>?_⟩;have T:dq l.prog w K mg _:=ES (GN (aC:=0) x11 (Qx X G x1) x2 x3 x4 x5 x6 x7 x8 x9 x10) (Qx X G x12) x13 x14 x15 x16 x19 x20 x21 x22 x23 x24;exact Ji B D1 D2 D3 D4 D5 D6 D7 D8 D9 D10 D11 D12 D13 D14 D15 D16 D17 D18 D19 D20 D21 D22 D23 D24 D25 D26 D27 D28 D29 D30 D31 D32 D33 D34 D35 D36 D37 D38 D39 D40 D41 D42 D43 D44 D45 D46 D47 D48 D49 D50 D51 D52 D53 D54 D55 D56 D57 D58 D59 D60 T (Qx X G y1) (Qx X G y2) (Qx X G y3) (Qx X G y4) (K7 X G y5)
end Kc_k40
local macro_rules | `(tactic| walk_at "q1")=>`(tactic| exact ⟨_,by k_is,_,_,_,_,_,_,_,_,_,by k_is,by k_is,by k_is⟩)
local macro_rules | `(tactic| walk_at "q2")=>`(tactic| exact ⟨_,by k_is,by k_is,_,_,_,_,_,_,_,_,_,by k_is,by k_is,by k_is⟩)
noncomputable def PySem.W.Fast.tw12411702456869348073 : PySem.Program := PySem.Challenge.pw_knowcards_k40_turns_told
theorem PySem.W.Fast.te12411702456869348073 : PySem.Challenge.pw_knowcards_k40_turns_told = PySem.W.Fast.tw12411702456869348073 := rfl
noncomputable def PySem.W.Fast.tw1644025339130964078 : PySem.Params → PySem.W.Frag := fun _ => []
theorem PySem.W.Fast.te1644025339130964078 : (fun _ => [] : PySem.Params → PySem.W.Frag) = PySem.W.Fast.tw1644025339130964078 := rfl
namespace PySem.W.Fast
noncomputable def tw12140418814132982547:Program:=PySem.Challenge.pw_knowcards_k40_turns_told
theorem te12140418814132982547:PySem.Challenge.pw_knowcards_k40_turns_told=tw12140418814132982547:=rfl
noncomputable def tw16949504663173514301:Params->Obj:=fun _=>default
theorem te16949504663173514301:(fun _=>default:Params->Obj)=tw16949504663173514301:=rfl
noncomputable def tw15169595886475884614:Params->Obj:=fun _=>default
theorem te15169595886475884614:(fun _=>default:Params->Obj)=tw15169595886475884614:=rfl
noncomputable def tw16757158520195478118:Params->Obj:=fun _=>default
theorem te16757158520195478118:(fun _=>default:Params->Obj)=tw16757158520195478118:=rfl
noncomputable def tw4867915126773607333:Params->Obj:=fun _=>default
theorem te4867915126773607333:(fun _=>default:Params->Obj)=tw4867915126773607333:=rfl
noncomputable def tw12248450678600339401:Params->Obj:=fun _=>default
theorem te12248450678600339401:(fun _=>default:Params->Obj)=tw12248450678600339401:=rfl
noncomputable def tw6483463850336447473:Params->Obj:=fun _=>default
theorem te6483463850336447473:(fun _=>default:Params->Obj)=tw6483463850336447473:=rfl
noncomputable def tw1335540865820632669:Params->Obj:=fun _=>default
theorem te1335540865820632669:(fun _=>default:Params->Obj)=tw1335540865820632669:=rfl
noncomputable def tw15278394770044697628:Params->Obj:=fun _=>default
theorem te15278394770044697628:(fun _=>default:Params->Obj)=tw15278394770044697628:=rfl
noncomputable def tw4075719196457919902:Params->Obj:=fun _=>default
theorem te4075719196457919902:(fun _=>default:Params->Obj)=tw4075719196457919902:=rfl
noncomputable def tw9580274786361255299:Params->Obj:=fun _=>default
theorem te9580274786361255299:(fun _=>default:Params->Obj)=tw9580274786361255299:=rfl
noncomputable def tw6912520538837157589:Params->Obj:=fun _=>default
theorem te6912520538837157589:(fun _=>default:Params->Obj)=tw6912520538837157589:=rfl
noncomputable def tw1357115827735295954:Params->Obj:=fun _=>default
theorem te1357115827735295954:(fun _=>default:Params->Obj)=tw1357115827735295954:=rfl
noncomputable def tw14126149281648816226:Params->Obj:=fun _=>default
theorem te14126149281648816226:(fun _=>default:Params->Obj)=tw14126149281648816226:=rfl
noncomputable def tw16563846921812060107:Params->Obj:=fun _=>default
theorem te16563846921812060107:(fun _=>default:Params->Obj)=tw16563846921812060107:=rfl
noncomputable def tw6624775869518795131:Params->Obj:=fun _=>default
theorem te6624775869518795131:(fun _=>default:Params->Obj)=tw6624775869518795131:=rfl
noncomputable def tw6798347177217700605:Params->Obj:=fun _=>default
theorem te6798347177217700605:(fun _=>default:Params->Obj)=tw6798347177217700605:=rfl
noncomputable def tw11740521192374584650:Params->Obj:=fun _=>default
theorem te11740521192374584650:(fun _=>default:Params->Obj)=tw11740521192374584650:=rfl
noncomputable def tw1904021984487686948:Params->Obj:=fun _=>default
theorem te1904021984487686948:(fun _=>default:Params->Obj)=tw1904021984487686948:=rfl
noncomputable def tw8447636713384932721:Params->Obj:=fun _=>default
theorem te8447636713384932721:(fun _=>default:Params->Obj)=tw8447636713384932721:=rfl
noncomputable def tw15887318451790985740:Params->Obj:=fun _=>default
theorem te15887318451790985740:(fun _=>default:Params->Obj)=tw15887318451790985740:=rfl
noncomputable def tw13598251831135519726:Params->Obj:=fun _=>default
theorem te13598251831135519726:(fun _=>default:Params->Obj)=tw13598251831135519726:=rfl
noncomputable def tw5663476340870204699:Params->Obj:=fun _=>default
theorem te5663476340870204699:(fun _=>default:Params->Obj)=tw5663476340870204699:=rfl
noncomputable def tw3814037688658591956:Params->Obj:=fun _=>default
theorem te3814037688658591956:(fun _=>default:Params->Obj)=tw3814037688658591956:=rfl
noncomputable def tw2639153243924914139:Params->Obj:=fun _=>default
theorem te2639153243924914139:(fun _=>default:Params->Obj)=tw2639153243924914139:=rfl
noncomputable def tw4805796755769511254:Params->Obj:=fun _=>default
theorem te4805796755769511254:(fun _=>default:Params->Obj)=tw4805796755769511254:=rfl
noncomputable def tw11155095958799718163:Params->Obj:=fun _=>default
theorem te11155095958799718163:(fun _=>default:Params->Obj)=tw11155095958799718163:=rfl
noncomputable def tw11933279073544825861:Params->Obj:=fun _=>default
theorem te11933279073544825861:(fun _=>default:Params->Obj)=tw11933279073544825861:=rfl
noncomputable def tw12646043617133111581:Params->Obj:=fun _=>default
theorem te12646043617133111581:(fun _=>default:Params->Obj)=tw12646043617133111581:=rfl
noncomputable def tw12443087016593915271:Params->Obj:=fun _=>default
theorem te12443087016593915271:(fun _=>default:Params->Obj)=tw12443087016593915271:=rfl
noncomputable def tw2188792010349849602:Params->Obj:=fun _=>default
theorem te2188792010349849602:(fun _=>default:Params->Obj)=tw2188792010349849602:=rfl
noncomputable def tw10804849610319562059:Params->Obj:=fun _=>default
theorem te10804849610319562059:(fun _=>default:Params->Obj)=tw10804849610319562059:=rfl
noncomputable def tw2898855583083586641:Params->Obj:=fun _=>default
theorem te2898855583083586641:(fun _=>default:Params->Obj)=tw2898855583083586641:=rfl
noncomputable def tw4897829123985236092:Params->Obj:=fun _=>default
theorem te4897829123985236092:(fun _=>default:Params->Obj)=tw4897829123985236092:=rfl
noncomputable def tw8505966291311214517:Params->Obj:=fun _=>default
theorem te8505966291311214517:(fun _=>default:Params->Obj)=tw8505966291311214517:=rfl
noncomputable def tw15118009143397221834:Params->Obj:=fun _=>default
theorem te15118009143397221834:(fun _=>default:Params->Obj)=tw15118009143397221834:=rfl
noncomputable def tw783896933774498078:Params->Obj:=fun _=>default
theorem te783896933774498078:(fun _=>default:Params->Obj)=tw783896933774498078:=rfl
noncomputable def tw18321435838011929205:Params->Obj:=fun _=>default
theorem te18321435838011929205:(fun _=>default:Params->Obj)=tw18321435838011929205:=rfl
noncomputable def tw13472918249477137236:Params->Obj:=fun _=>default
theorem te13472918249477137236:(fun _=>default:Params->Obj)=tw13472918249477137236:=rfl
noncomputable def tw545751937285675496:Params->Obj:=fun _=>default
theorem te545751937285675496:(fun _=>default:Params->Obj)=tw545751937285675496:=rfl
noncomputable def tw15030811429018844313:Params->Obj:=fun _=>default
theorem te15030811429018844313:(fun _=>default:Params->Obj)=tw15030811429018844313:=rfl
noncomputable def tw9883122139372842592:Params->Obj:=fun _=>default
theorem te9883122139372842592:(fun _=>default:Params->Obj)=tw9883122139372842592:=rfl
noncomputable def tw3200561006508429316:Params->Obj:=fun _=>default
theorem te3200561006508429316:(fun _=>default:Params->Obj)=tw3200561006508429316:=rfl
noncomputable def tw18208771636558337248:Params->Obj:=fun _=>default
theorem te18208771636558337248:(fun _=>default:Params->Obj)=tw18208771636558337248:=rfl
noncomputable def tw15529304237349576170:Params->Obj:=fun _=>default
theorem te15529304237349576170:(fun _=>default:Params->Obj)=tw15529304237349576170:=rfl
noncomputable def tw5760690267621489200:Params->Obj:=fun _=>default
theorem te5760690267621489200:(fun _=>default:Params->Obj)=tw5760690267621489200:=rfl
noncomputable def tw17280362335737213027:Params->Obj:=fun _=>default
theorem te17280362335737213027:(fun _=>default:Params->Obj)=tw17280362335737213027:=rfl
noncomputable def tw6587303053266641967:Params->Obj:=fun _=>default
theorem te6587303053266641967:(fun _=>default:Params->Obj)=tw6587303053266641967:=rfl
noncomputable def tw1625884802266955265:Params->Obj:=fun _=>default
theorem te1625884802266955265:(fun _=>default:Params->Obj)=tw1625884802266955265:=rfl
noncomputable def tw7418465509232297212:Params->Obj:=fun _=>default
theorem te7418465509232297212:(fun _=>default:Params->Obj)=tw7418465509232297212:=rfl
noncomputable def tw18057342926341552166:Params->Obj:=fun _=>default
theorem te18057342926341552166:(fun _=>default:Params->Obj)=tw18057342926341552166:=rfl
noncomputable def tw10915383149988118951:Params->Obj:=fun _=>default
theorem te10915383149988118951:(fun _=>default:Params->Obj)=tw10915383149988118951:=rfl
noncomputable def tw1557020777579401813:Params->Obj:=fun _=>default
theorem te1557020777579401813:(fun _=>default:Params->Obj)=tw1557020777579401813:=rfl
noncomputable def tw1643521526614600813:Params->Obj:=fun _=>default
theorem te1643521526614600813:(fun _=>default:Params->Obj)=tw1643521526614600813:=rfl
noncomputable def tw8408875626169892465:Params->Obj:=fun _=>default
theorem te8408875626169892465:(fun _=>default:Params->Obj)=tw8408875626169892465:=rfl
noncomputable def tw5110990335970360847:Params->Obj:=fun _=>default
theorem te5110990335970360847:(fun _=>default:Params->Obj)=tw5110990335970360847:=rfl
noncomputable def tw11449280075967431426:Params->Obj:=fun _=>default
theorem te11449280075967431426:(fun _=>default:Params->Obj)=tw11449280075967431426:=rfl
noncomputable def tw6388100175642664327:Params->Obj:=fun _=>default
theorem te6388100175642664327:(fun _=>default:Params->Obj)=tw6388100175642664327:=rfl
noncomputable def tw7485509685576316036:Params->Obj:=fun _=>default
theorem te7485509685576316036:(fun _=>default:Params->Obj)=tw7485509685576316036:=rfl
noncomputable def tw16837536079397454324:Params->Obj:=fun _=>default
theorem te16837536079397454324:(fun _=>default:Params->Obj)=tw16837536079397454324:=rfl
noncomputable def tw13466930231567074799:Params->Obj:=fun _=>default
theorem te13466930231567074799:(fun _=>default:Params->Obj)=tw13466930231567074799:=rfl
noncomputable def tw8680515992525331096:Params->Obj:=fun _=>default
theorem te8680515992525331096:(fun _=>default:Params->Obj)=tw8680515992525331096:=rfl
noncomputable def tw665253899592835888:Params->Obj:=fun _=>default
theorem te665253899592835888:(fun _=>default:Params->Obj)=tw665253899592835888:=rfl
noncomputable def tw9808308229254964952:Params->Obj:=fun _=>default
theorem te9808308229254964952:(fun _=>default:Params->Obj)=tw9808308229254964952:=rfl
noncomputable def tw15163881806330791560:Params->Obj:=fun _=>default
theorem te15163881806330791560:(fun _=>default:Params->Obj)=tw15163881806330791560:=rfl
noncomputable def tw3944382048857311386:Params->Obj:=fun _=>default
theorem te3944382048857311386:(fun _=>default:Params->Obj)=tw3944382048857311386:=rfl
noncomputable def tw7110645649272541611:Params->Obj:=fun _=>default
theorem te7110645649272541611:(fun _=>default:Params->Obj)=tw7110645649272541611:=rfl
noncomputable def tw11872101368921857589:Params->Obj:=fun _=>default
theorem te11872101368921857589:(fun _=>default:Params->Obj)=tw11872101368921857589:=rfl
end PySem.W.Fast
open PySem PySem.W PyProof.Rows
set_option maxRecDepth 100000 in
set_option maxHeartbeats 0 in
theorem PySem.Challenge.cw_knowcards_k40_turns_told_holds : PySem.Challenge.rw_knowcards_k40_turns_told.Holds := by
 w_on;o_law;k_head;(case hw=>w_witness2)
 k_fill
 refine L2.Ei (l:=PySem.Challenge.rw_knowcards_k40_turns_told) (k:=74) (x:="_law_script") rfl rfl ⟨rfl,by decide,by decide⟩ (fun w h Y=>PySem.W.kIn_of Y) ?F
 case F=>
  intro w mg fa h KX G hmg;refine' Kc_k40.all_mk KX G hmg ?q1 ?q2 ?q3 ?q4 ?q5 ?q6 ?q7 ?q8 ?q9 ?q10 ?q11 ?q12 ?q13 ?q14 ?q15 ?q16 ?q17 ?q18 ?q19 ?q20 ?q21 ?q22 ?q23 ?q24 ?q25 ?q26 ?q27 ?q28 ?q29 ?q30 ?q31 ?q32 ?q33 ?q34 ?q35 ?q36 ?q37 ?q38 ?q39 ?q40 ?q41 ?q42 ?q43 ?q44 ?q45 ?q46 ?q47 ?q48 ?q49 ?q50 ?q51 ?q52 ?q53 ?q54 ?q55 ?q56 ?q57 ?q58 ?q59 ?q60 ?y1 ?y2 ?y3 ?y4 ?y5 ?x1 ?x2 ?x3 ?x4 ?x5 ?x6 ?x7 ?x8 ?x9 ?x10 ?x11 ?x12 ?x13 ?x14 ?x15 ?x16 ?x17 ?x18 ?x19 ?x20 ?x21 ?x22 ?x23 ?x24 ?z1 ?z2 ?z3 ?z4 ?z5 ?z6 ?z7 ?z8 ?z9 ?z10 ?z11 ?z12 ?z13 ?z14 ?z15 ?z16
  (case q1=>walk_at "q1")
  (case q2=>walk_at "q1")
  (case q3=>walk_at "q1")
  (case q4=>walk_at "q1")
  (case q5=>walk_at "q1")
  (case q6=>walk_at "q1")
  (case q7=>walk_at "q1")
  (case q8=>walk_at "q1")
  (case q9=>walk_at "q1")
  (case q10=>walk_at "q1")
  (case q11=>walk_at "q1")
  (case q12=>walk_at "q1")
  (case q13=>walk_at "q1")
  (case q14=>walk_at "q1")
  (case q15=>walk_at "q1")
  (case q16=>walk_at "q1")
  (case q17=>walk_at "q1")
  (case q18=>walk_at "q1")
  (case q19=>walk_at "q1")
  (case q20=>walk_at "q1")
  (case q21=>walk_at "q1")
  (case q22=>walk_at "q1")
  (case q23=>walk_at "q1")
  (case q24=>walk_at "q1")
  (case q25=>walk_at "q1")
  (case q26=>walk_at "q1")
  (case q27=>walk_at "q1")
  (case q28=>walk_at "q1")
  (case q29=>walk_at "q1")
  (case q30=>walk_at "q1")
  (case q31=>walk_at "q1")
  (case q32=>walk_at "q1")
  (case q33=>walk_at "q1")
  (case q34=>walk_at "q1")
  (case q35=>walk_at "q1")
  (case q36=>walk_at "q1")
  (case q37=>walk_at "q1")
  (case q38=>walk_at "q1")
  (case q39=>walk_at "q1")
  (case q40=>walk_at "q1")
  (case q41=>walk_at "q1")
  (case q42=>walk_at "q1")
  (case q43=>walk_at "q1")
  (case q44=>walk_at "q1")
  (case q45=>walk_at "q1")
  (case q46=>walk_at "q1")
  (case q47=>walk_at "q1")
  (case q48=>walk_at "q1")
  (case q49=>walk_at "q1")
  (case q50=>walk_at "q1")
  (case q51=>walk_at "q1")
  (case q52=>walk_at "q1")
  (case y1=>k_is)
  (case y2=>k_is)
  (case y3=>k_is)
  (case y4=>k_is)
  (case y5=>k_is)
  (case x1=>k_is)
  (case x2=>k_is)
  (case x3=>k_is)
  (case x4=>k_is)
  (case x5=>k_is)
  (case x6=>k_is)
  (case x7=>k_is)
  (case x8=>k_is)
  (case x9=>k_is)
  (case x10=>k_is)
  (case x11=>rfl)
  (case x12=>k_is)
  (case x13=>k_is)
  (case x14=>k_is)
  (case x15=>k_is)
  (case x16=>k_is)
  (case x17=>k_is)
  (case x18=>k_is)
  (case x19=>k_is)
  (case x20=>k_is)
  (case x21=>k_is)
  (case x22=>k_is)
  (case x23=>k_is)
  (case x24=>k_is)
  (case q53=>walk_at "q2")
  (case q54=>walk_at "q2")
  (case q55=>walk_at "q2")
  (case q56=>walk_at "q2")
  (case q57=>walk_at "q2")
  (case q58=>walk_at "q2")
  (case q59=>walk_at "q2")
  (case q60=>walk_at "q2")
  (case z1=>k_is);(case z2=>k_is);(case z3=>k_is);(case z4=>k_is);(case z5=>k_is);(case z6=>k_is);(case z7=>k_is);(case z8=>k_is);(case z9=>k_is);(case z10=>k_is);(case z11=>k_is);(case z12=>k_is);(case z13=>k_is);(case z14=>k_is);(case z15=>k_is);(case z16=>k_is)
