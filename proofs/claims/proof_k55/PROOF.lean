import PyProof.Rows.All
import Wide.All
import OpenK.AllK
import Wide.FinOn
import Lean
import PyProof.EqAt
import PyProof.EqKinds
import PyProof.TupleCall
import PyProof.NeKinds
import PyProof.SumWalkG
import PyProof.ConsumeWalk
import KE.IntBitsLaws
import PyProof.ZipIter
import KE.KTryMore
import PyProof.ExcArgsOwn
import KE.KDictLaws
import PyProof.SetScanFacts
import PyProof.SetKind
import PyProof.TupleKey
import PyProof.DictKinds
import PyProof.Rows.SetFrom
import KE.KDictSum
import PyProof.Rows.SortRuns
import KE.KSortTup
import PyProof.ListMulRoad
import PyProof.Rows.CallKwBuiltin
import PyProof.Rows.SeqMore
import PyProof.WalkInts
import KE.KMinBuiltin
import PyProof.Rows.EqDataRows
import KE.KRevSl
import PyProof.Rows.SortShell
import PyProof.ListRange
import KE.KItemsList
import KE.KEqDict
import PyProof.DictWalks
import PySem.Challenge.RW_knowcards_k55_the_first_that_fails
set_option Elab.async false
set_option linter.all false
set_option maxRecDepth 100000
set_option maxHeartbeats 4000000
set_option compiler.extract_closed false
open Array renaming append_assoc → KS, forIn_toList → Hg, getD → Kv, getElem?_eq_getElem → F0, getElem?_eq_none → J4, getElem?_eq_some_iff → Lm, getElem?_setIfInBounds → Hx, getElem?_toList → Fq, length_toList → E9, perm_iff_toList_perm → Jj, replicate → Ju, toList_map → LY, toList_push → Lx
open Bool renaming and_eq_true → Gr, and_false → MC, beq_eq_decide_eq → Ke, eq_false_iff → NZ, eq_iff_iff → HN, false_and → KC, false_eq_true → Fe, false_ne_true → EU, not_false → MI, not_true → GZ, true_and → Ip
open Classical renaming byContradiction → Gd
open False renaming elim → G9
open ForInStep renaming yield → Ir
open Int renaming emod_lt_of_pos → GX, emod_nonneg → Hk, natCast_mul → ON, toNat_natCast → IF, zero_add → NC
open List renaming Perm → Gi, all_cons → Jg, all_eq_true → IZ, all_map → IP, all_toArray → OA, any_cons → Nb, append_assoc → IG, append_nil → Gw, cons_append → LN, countP_cons → Ou, count_append → JV, count_cons → Mq, drop_sublist → N3, ext_getElem? → G2, filterMap_cons → Ij, filter_append → HJ, filter_congr → JW, filter_cons → Ja, filter_cons_of_neg → Il, filter_cons_of_pos → JO, filter_nil → OP, find?_cons → FO, findIdx?_eq_some_iff_getElem → Ia, flatMap_append → Jo, flatMap_cons → NV, flatten_append → Nr, flatten_cons → Ly, forIn_cons → Jt, forIn_nil → KI, getD_eq_getElem?_getD → ER, getElem?_append_left → Gb, getElem?_append_right → FN, getElem?_cons_succ → JN, getElem?_drop → JF, getElem?_eq_getElem → EG, getElem?_eq_none → FI, getElem?_eq_some_iff → EK, getElem?_inj → NW, getElem?_map → EO, getElem?_of_mem → Kx, getElem?_range → Gp, getElem?_replicate → Md, getElem?_set → NU, getElem?_set_ne → IX, getElem?_set_self → Iw, getElem?_take → Lb, getElem?_take_of_lt → Hi, getElem?_toArray → MQ, getElem?_zip_eq_some → HW, getElem_idxOf → K8, getElem_mem → GK, getElem_range → HK, idxOf_append → NS, idxOf_cons → OK, idxOf_lt_length_iff → LS, idxOf_lt_length_of_mem → K4, length_append → EX, length_cons → Fu, length_drop → Gz, length_eq_zero_iff → JP, length_eraseIdx_of_lt → Ji, length_erase_of_mem → JE, length_filter_le → IS, length_map → EI, length_nil → Jr, length_pos_of_mem → IB, length_range → Fw, length_singleton → Kc, length_take → Fo, length_zip → Iu, lookup_cons → GJ, map → Ov, mapM_toArray → N7, map_append → ET, map_congr_left → Hu, map_cons → E6, map_drop → Nc, map_map → G6, map_nil → HG, map_take → Nd, mem_append → FC, mem_append_left → F6, mem_append_right → FY, mem_cons → EV, mem_cons_of_mem → E3, mem_cons_self → EW, mem_erase_of_ne → Ks, mem_filter → Gv, mem_filterMap → HF, mem_flatMap → Ow, mem_iff_getElem → M6, mem_map → FB, mem_of_getElem? → E2, mem_range → Ff, mem_singleton → E5, nodup_append → NY, nodup_cons → GT, nodup_range → LW, not_mem_nil → FJ, of_mem_zip → Ml, pairwise_append → Kw, pairwise_iff_getElem → HX, pairwise_map → JY, perm_append_comm → MS, perm_middle → LU, range → EY, range_succ → GI, replicate → KG, size_toArray → E7, sum_append → Gc, sum_cons → Fv, sum_nil → IR, take_add_one → HS, take_append_drop → FZ, take_length → FT, take_of_length_le → Hy, take_sublist → Ls, zipIdx_cons → Os, zipIdx_nil → OH, zip_cons_cons → Iq, zip_nil_left → NP, zip_nil_right → KZ
open List.Pairwise renaming imp_of_mem → LX, nil → Lv
open List.Perm renaming append_left → MP, trans → OS
open List.cons renaming injEq → OM
open Nat renaming add_assoc → Jh, add_le_add_right → Ko, add_mul → Oh, add_right_comm → K9, add_zero → LQ, div_eq_of_lt → Oy, eq_of_mul_eq_mul_right → Ll, eq_zero_or_pos → K7, le_add_right → GB, le_of_eq → Jx, le_of_lt → Gs, le_of_lt_succ → Hq, le_refl → EM, le_succ → Jl, le_succ_of_le → N9, le_trans → Fz, lt_irrefl → FM, lt_of_le_of_lt → JB, lt_of_lt_of_le → E8, lt_or_eq_of_le → NG, lt_or_ge → NJ, lt_succ_iff_lt_or_eq → FK, lt_succ_of_le → N1, lt_succ_of_lt → FS, lt_succ_self → Gq, lt_trichotomy → GG, min_eq_left → Iv, mod_lt → Jb, mul_assoc → Hb, mul_comm → G7, mul_left_comm → Hn, mul_pos → Oe, ne_of_gt → G5, ne_of_lt → Fi, not_le → Kz, not_lt → Lz, not_lt_zero → Gm, one_mul → Og, pos_of_ne_zero → Lc, pow_succ → LR, strongRecOn → OO, sub_self → HI, sub_zero → LP, succ_le_succ → LJ, succ_pos → Hm, testBit_lt_two_pow → My, zero_add → IQ, zero_le → Fy
open Ne renaming symm → Ge
open Option renaming getD_none → Oo, isSome_iff_exists → LG, isSome_map → N0, map_eq_some_iff → J3, map_some → Kp, some → Ft
open Option.some renaming inj → Fd
open Or renaming inl → MD, inr → Ht
open PyProof.Rows renaming SortKind → Jd, Subscript_ → OF, boot_isinstance → GV, boot_list → Ms, boot_range → OE, boot_sum → L5, boot_tuple → OT, callWith_builtin1 → Kk, callWith_type1 → Gh, failedOf → Ka, getElem?_mirror_all → GS, joinParts_cons → IW, listUpdate_at → Ni, pairsOf_size → NL, pairsOf_toList → KO, pendingOf → GY, seqEpoch_at → Oj, setPending → LB, slot_tuple_getitem → Ik, subscriptTail → M9, subscriptTail_builtinR → Mx, wpS_bind → Fp, wpS_forRange → IV, wpS_lift → Oz, wpS_modify → M7, wpS_mono → L4, wpS_pure → FL
open PyProof.Rows.F renaming entry_set_update_loop → Mg, plain_set_update_loop → JQ
open PySem renaming DictEntry → Nx, FuncData → Fk, GenState → KB, IntMulOk → Hv, IsTupleKey → JK, NameKind → FP, PassesOwn → F9, SetTable → E4, assignEach → Ki, atKey_none_of_get → JX, attributeBase → Lk, backToKw → LF, behindInMarks → Lh, beq_builtin_none → LO, binaryOp → Ie, bootBuiltins → IJ, boot_len → GL, builtinLookup_eq_fast → IU, builtinsNs → OB, callSpecialIfBoundUnlessNone? → ID, callType_new → NB, call_meets → Km, cellsFrom → OV, checkBuiltinCall → LV, closureFor → MY, codeAny_builtin → Gy, codeAny_call_builtin → Ku, codeAny_mono → IM, codeAny_of_tree → OR, compEnvC → MZ, compareOp → GE, concat_meets → Nz, dictSetDefault → KL, eqBool → NF, eqIsQuiet → Mp, eqIsQuiet_byValue → NT, fastBuiltinMro → ME, foldedSetIterable → Lq, intBits_le_64 → Lg, intBits_le_64 → Nq, intItems → KP, isInstance → M1, isSubtype_stop → JJ, isSubtype_tuple_tuple → Kf, isSubtype_type → MO, keywordEach → JZ, letOwnedTupleGo → Kj, mainGlobals → Fj, mem_of_lookup → Gn, newTuple → Oq, noFill_tuple_add → LH, ofAClassStatement → Lw, pickOrder → JG, plainId_quiet → GQ, putSet_of → NK, reduceHash → OL, scanBound → La, searchCouldBeSeen → N2, seqIndex? → NA, seqItems? → K1, seq_tuple_add → M8, setEntries → LA, sizeLine → E1, sizeLine_eq → EL, sliceBounds → Jk, slot_list_getitem → NQ, starEach → Fc, storedH_new → Oi, subscripted → Mw, swapsWith → Nw, sysModules → G8, typeLookup → MU, typeLookup_type → Ky, unbindBehindTheSuite → M3, updateSeq → JH, wpAny_Call_Name_kw → He, wpAny_Call_method_late → J1, wpAny_Dict_empty → Ox, wpAny_List_spliced → Ny, wpAny_Name → OC, wpAny_Tuple_spliced → Nk, wpAny_askSetting → L3, wpAny_assign_Name → NM, wpAny_attempt → Hs, wpAny_bind → EF, wpAny_callSpecial?_slot → FX, wpAny_callSpecialIfBoundUnlessNone?_slot → Hl, wpAny_call_entry → FD, wpAny_comprehension_free → LK, wpAny_eqBool_int → Om, wpAny_eqBool_tuple → K5, wpAny_eqIsQuiet_tuple → MJ, wpAny_execs_cons → LD, wpAny_execs_nil → Mj, wpAny_field → Ga, wpAny_fieldsOf → KN, wpAny_forIn_list → Hc, wpAny_handled → Na, wpAny_holding → FV, wpAny_isInstance → GW, wpAny_ite_split → Mr, wpAny_letGo → Iy, wpAny_load → OD, wpAny_loadPart' → Mm, wpAny_loadPart_at → IH, wpAny_mono → F7, wpAny_newObj_type → F8, wpAny_newTuple → KJ, wpAny_of_eq → HZ, wpAny_onRaise → J7, wpAny_passesOwn → Jq, wpAny_pure → EJ, wpAny_pyHash_int → Ol, wpAny_pyHash_tuple → ND, wpAny_pyIter_enum → NR, wpAny_pyIter_list → IE, wpAny_pyIter_slot → N6, wpAny_pyIter_tuple → Jw, wpAny_pyIter_zip → LM, wpAny_ret_mkInt → Kq, wpAny_rule → Ha, wpAny_seqItems → FG, wpAny_setField → Hw, wpAny_setField_rec → Hf, wpAny_setState_of → FW, wpAny_specialOf → Gx, wpAny_standAt → Lf, wpAny_storeSet_of → N5, wpAny_throw → Oc, wpAny_truthy_bool → GR, wpAny_tryCatch → JL, wpAny_tupleItemsOf → K6, wpAny_typeOf → Kl, wpAny_updateSeq → G3, wpAny_updateSeq_pair → Kn
open PySem.Around renaming under_plainId → Gg
open PySem.Builtin.Builtins renaming bindParams → Ld
open PySem.Builtin.Int renaming intBits → Jn
open PySem.Builtin.List renaming listExtendWith → GF, listItems → Mz, listLengthHint → HL, listSameRef → Ii, listTooLong → JA, listUpdate → Mi
open PySem.Builtin.Slice renaming sliceAdjust → Js, sliceApplied → Li, slicePlaces → HV
open PySem.Builtin.SmallTypes renaming nextOf → FF, ownedTupleHandOut → JC, ownedTupleIsFree → FQ
open PySem.Builtin.Tuple renaming tupleExact → Ig, tupleHashOf → GM, tupleItemsOf → Lj
open PySem.Calls renaming Constant_str → KU, Name_function_global → Jf, callWith_builtin → J2, evalArgs_plain → IY, loadGlobal_global → Mc, spliced_cons → KW, spliced_nil → Lr
open PySem.Code renaming quiet_builtin → NH
open PySem.F renaming args_object_init_3 → M0, args_tuple_add_2 → Jz, args_tuple_iterator_next_1 → KH, args_tuple_lt_2 → Me, args_zip_next_1 → JT, entry_extend_loop → LC, entry_max_loop → IC, entry_tuple_add → JM, entry_tuple_iterator_next → K0, entry_tuple_lt → Mu, entry_zip_new → OJ, entry_zip_next → J9, excAttr_ValueError → M4, excBase_ValueError → HR, newCall_zip_2 → OI, plainAttrs_list → G0, plainAttrs_tuple → L6, plain_extend_loop → GU, plain_list_iadd → Mh, plain_max_loop → Gu, plain_set_new → MN, slot_NoneType_hash → HQ, slot_bool_hash → Iz, slot_dict_get → MT, slot_dict_setdefault → IT, slot_gs_get → Nf, slot_list_append → L8, slot_list_extend → Ma, slot_set_iter → MR, slot_tuple_add → J0, slot_tuple_count → JD, slot_tuple_eq → Kr, slot_tuple_hash → JU, slot_tuple_iterator_next → HP, slot_tuple_lt → Kb, slot_zip_next → Hj, typeCall_zip_2 → Ot, typeOf_object_class → Kg, type_dict_setdefault → KQ, type_list_append → L9, type_list_extend → Mb, type_tuple_count → L7
open PySem.Heap renaming ExtBut → Jm, FlyingW → Kt, SameBut → Fb, get?_push_ne → N8, get?_push_of_some → EH, get?_push_size → ES, get?_update_other → FU, get?_update_self → FH, lt_size → EN, size_push → FA, size_update → Je
open PySem.Heap.SameBut renaming refl → N4, update → F5
open PySem.NameKind renaming cell → J5, free → GH
open PySem.Obj renaming cls_mapFields → Lu, data_mapDictKeys → M5, data_mapFields → HH, isFreed_of_fields → Kd, mapFields → Lo, mapSeq → GD, putSet → Jc
open PySem.Paired renaming length → Im
open PySem.PassesOwn renaming never → Fs
open PySem.PyData renaming canLayAll0 → II, depthAll → Jv, eqv → KA, eqvAll → J8, int → HY
open PySem.SeqAt renaming EqAt → Fl, shaped → JI
open PySem.SeqAt.EqAt renaming bool_bool → MX, bool_int → Nm, bool_none → MW, int_bool → Np, int_int → KY, int_none → Nn, int_str → Nt, none_bool → MV, none_int → Nl, same → Mn, str_int → Nu
open PySem.SetTable renaming below → Fx, fill → Ng, fits → Ln, place → MM, probe → Hh, relaid → OQ, toList_insertAt → Ih, tooFull → LZ
open PySem.SetTable.below renaming go → Ho
open PySem.SetTable.probe renaming go → Hr
open PySem.Shared renaming TypeIs → Nh, heap → Od
open PySem.Str renaming ofString → GA
open PySem.Value renaming bool → GN, builtin → Io, int → HE, isInt → Oa, isInt_shape → JR, none → GC, ref → Fh, str → OU, type → FE
open PySem.W renaming cellsFrom_some → Mt, codeIn → MB, emptyDict → G1, findIn → KD, fnOf → Jy, hideAll → Jp, hideAll_get → Nj, instObj → HM, keepIn → IL, kia_one → GO, kitMeta → Mo, kitOne → Gk, kitx_dict → NO, kitx_list → NN, lookIn → MA, looks_findIn → NI, methodObj → Lp, mg_none_of → Gj, mg_of → Kh, nsIn → GP, of_hideAll → Nv, plainGet → On
open PySem.W.WData renaming int → JS, layable → MF, layableAll → LL, list → K3, weight → I0, weightAll → Mf
open PySem.Walks renaming list → OG
open Sum renaming inl → G4, inr → Ib
open Sum.inl renaming inj → Ob
open Sum.inr renaming inj → KR
open True renaming intro → HU
noncomputable abbrev Fg:=PySem.W.Frag
section
namespace L2
open PySem PySem.Spec PyProof.Rows
noncomputable abbrev Key:=Sum Int Str
noncomputable def AL:Key->Value->Bool
 | .inl k,v=>Oa k v
 | .inr x,v=>Value.isStrOf x v
noncomputable def Ed(w:World):Key->Int
 | .inl k=>hashInt k
 | .inr x=>hashStr w x
theorem cg:∀{k:Key} {v:Value},AL k v=true->(∃i t,k=G4 i/\v=HE i t)\/(∃x t,k=Ib x/\v=OU x t)
 | .inl i,v,h=>by
  obtain⟨t,e⟩:=JR (k:=i) (v:=v) h;exact .inl ⟨i,t,rfl,e⟩
 | .inr x,v,h=>by
  obtain⟨t,e⟩:=Value.isStrOf_shape (x:=x) (v:=v) h;exact .inr ⟨x,t,rfl,e⟩
theorem Cm(a b:Int):decide ((G4 a:Key)=G4 b)=(a==b):=by
 by_cases e:a=b
 ·subst e;simp
 ·have h:¬(G4 a:Key)=G4 b:=fun q=>e (Ob q)
  rw[decide_eq_false h];exact(beq_eq_false_iff_ne.mpr e).symm
theorem Cn(a b:Str):decide ((Ib a:Key)=Ib b)=decide (a=b):=by
 by_cases e:a=b
 ·subst e;simp
 ·have h:¬(Ib a:Key)=Ib b:=fun q=>e (KR q)
  rw[decide_eq_false h,decide_eq_false e]
theorem Co(a:Int)(b:Str):decide ((G4 a:Key)=Ib b)=false:=decide_eq_false (fun q=>nomatch q)
theorem Cp(a:Str)(b:Int):decide ((Ib a:Key)=G4 b)=false:=decide_eq_false (fun q=>nomatch q)
noncomputable def jI(prog:Program)(w:World):PySem.KeyKind prog w Key where
 is:=AL
 hash:=Ed w
 inj:=fun v a b ha hb=>by
  rcases cg ha with⟨i,t,rfl,rfl⟩|⟨x,t,rfl,rfl⟩
  ·rcases cg hb with⟨j,u,rfl,e⟩|⟨y,u,rfl,e⟩
   ·injection e with e1 _;rw[e1]
   ·exact nomatch e
  ·rcases cg hb with⟨j,u,rfl,e⟩|⟨y,u,rfl,e⟩
   ·exact nomatch e
   ·injection e with e1 _;rw[e1]
 byValue:=fun k v h=>by
  rcases cg h with⟨i,t,rfl,rfl⟩|⟨x,t,rfl,rfl⟩<;>rfl
 pyHash:=fun hv h=>by
  rcases cg hv with⟨i,t,rfl,rfl⟩|⟨x,t,rfl,rfl⟩
  ·exact Ol h
  ·exact wpAny_pyHash_str h
 eqBool:=fun hu hv h=>by
  rcases cg hu with⟨i,t,rfl,rfl⟩|⟨x,t,rfl,rfl⟩
  ·rcases cg hv with⟨j,u,rfl,rfl⟩|⟨y,u,rfl,rfl⟩
   ·rw[Cm]at h;exact Om h
   ·rw[Co]at h;exact Nt i t y u _ _ _ _ h
  ·rcases cg hv with⟨j,u,rfl,rfl⟩|⟨y,u,rfl,rfl⟩
   ·rw[Cp]at h;exact Nu x t j u _ _ _ _ h
   ·rw[Cn]at h;exact wpAny_eqBool_str h
 «strs»:=fun k x t v h=>by
  rcases cg h with⟨i,u,rfl,e⟩|⟨y,u,rfl,e⟩
  ·exact nomatch e
  ·injection e with e1 _
   subst e1;cases v<;>rfl
end L2
namespace L2
open PySem PySem.Spec PyProof.Rows
inductive V where
 |non|bl (b:Bool)|int (i:Int)|str (x:Str)|byt (b:Array UInt8)|flt (b:UInt64)|ref (a:Addr)|ty (n:String)
 deriving DecidableEq
noncomputable def aB:V->Value->Prop
 | .non,u=>u=GC
 | .bl b,u=>u=GN b
 | .int i,u=>∃t,u=HE i t
 | .str x,u=>∃t,u=OU x t
 | .byt b,u=>∃t,u=Value.bytes b t
 | .flt b,u=>∃t,u=Value.float b t
 | .ref a,u=>u=Fh a
 | .ty n,u=>u=FE n
noncomputable abbrev aA:List V->List Value->Prop:=Paired aB
theorem aA.length{xs:List V}{us:List Value}(r:aA xs us):xs.length=us.length:=Im r
theorem aA.get:∀{xs:List V} {us:List Value} {i:Nat} {x:V},aA xs us->xs[i]?=some x->∃u,us[i]?=some u/\aB x u
 |_,_,_,_,.nil,e=>by simp at e
 |_,_,0,_,.cons r _,e=>by simp at e;subst e;exact⟨_,rfl,r⟩
 |_,_,i+1,x,.cons _ t,e=>by
  obtain⟨u,h1,h2⟩:=aA.get (i:=i) (x:=x) t (by simpa using e);exact⟨u,by simpa using h1,h2⟩
theorem aA.set{x:V}{u:Value}(r:aB x u):∀{xs:List V} {us:List Value} (i:Nat),aA xs us->aA (xs.set i x) (us.set i u)
 |_,_,_,.nil=>.nil
 |_,_,0,.cons _ t=>.cons r t
 |_,_,i+1,.cons q t=>.cons q (aA.set r i t)
theorem aA.append:∀{xs ys:List V} {us ws:List Value},aA xs us->aA ys ws->aA (xs++ys) (us++ws)
 |_,_,_,_,.nil,s=>s
 |_,_,_,_,.cons r t,s=>.cons r (aA.append t s)
theorem aA.take:∀{xs:List V} {us:List Value} (n:Nat),aA xs us->aA (xs.take n) (us.take n)
 |_,_,0,_=>.nil
 |_,_,_+1,.nil=>.nil
 |_,_,n+1,.cons r t=>.cons r (aA.take n t)
theorem aA.drop:∀{xs:List V} {us:List Value} (n:Nat),aA xs us->aA (xs.drop n) (us.drop n)
 |_,_,0,r=>r
 |_,_,_+1,.nil=>.nil
 |_,_,n+1,.cons _ t=>aA.drop n t
noncomputable def gE:Option V->Option Value->Prop
 |some v,some u=>aB v u
 |none,none=>True
 |_,_=>False
noncomputable def KV{κ:Type}:List (κ×V)->List (κ×Value)->Prop:=Paired fun(p:κ×V)(q:κ×Value)=>p.1=q.1/\aB p.2 q.2
noncomputable def kV:Key->V
 | .inl i=>.int i
 | .inr x=>.str x
inductive HO where
 |lst (xs:List V)
 |tup (xs:List V)
 |dK (kvs:List (Key×V))|dT (kvs:List (List Key×V))
 |set (S:Int->Bool) (n:Nat)
 |ins (C dx:Addr) (fs:List (Str×V))
 |own (x:Addr)
 |xd (fs:List (Str×V))
 |met (f x:Addr)
 |rng (lo hi:Int)
 |frz (o:Obj) (u:HO)
 |tbl (ps:Array Value)
 |ext (φ:Heap->Prop)
noncomputable abbrev Hp:=Addr->Option HO
noncomputable def upd(H:Hp)(a:Addr)(o:HO):Hp:=fun b=>if b=a then some o else H b
theorem ay{H:Hp}{a:Addr}{o:HO}:upd H a o a=some o:=by unfold upd;rw[if_pos rfl]
theorem aQ{H:Hp}{a b:Addr}{o:HO}(h:b≠a):upd H a o b=H b:=by unfold upd;rw[if_neg h]
theorem qH{H:Hp}{a b:Addr}{o u:HO}(h:H a=some o)(h':H b=some u)(d:o≠u):a≠b:=by
 intro e;subst e;rw[h]at h';exact d (Fd h')
theorem aT{H:Hp}{a b:Addr}{o:HO}(h:H a=some o)(h':H b=none):a≠b:=by
 intro e;subst e;rw[h]at h';cases h'
noncomputable def dz(h:Heap)(a:Addr)(items:Array Value):Prop:=∃o,h.get? a=some o/\o.cls=.type "tuple"/\(∃n,o.data=.seq items n)/\o.dict=none
theorem dz.lt{h:Heap}{a:Addr}{items:Array Value}(x:dz h a items):a<h.objs.size:=let⟨_,e,_⟩:=x;EN e
theorem dz.tup{h:Heap}{a:Addr}{items:Array Value}(x:dz h a items):IsTup h a items:=let⟨o,e,c,d,_⟩:=x;⟨o,e,c,d⟩
theorem dz.new(h:Heap)(items:Array Value):dz (h.push { cls:=.type "tuple",data:=.seq items }) h.objs.size items:=⟨_,ES _ rfl,rfl,⟨_,rfl⟩,rfl⟩
section
variable(P:Program)(w:World)
noncomputable def br(H:Hp)(h:Heap)(a:Addr):HO->Prop
 | .lst xs=>xs.length<=E1/\∃(its:List Value)(n:Nat),aA xs its/\h.get? a=some { cls:=.type "list",data:=.seq its.toArray n }
 | .tup xs=>xs.length<=E1/\∃its:List Value,aA xs its/\dz h a its.toArray
 | .dK kvs=>kvs.length<=E1/\(a==G8)=false/\∃vs,KV kvs vs/\h.DictOf (jI P w) a vs
 | .dT kvs=>kvs.length<=E1/\(a==G8)=false/\∃xs:List (List Key×Addr×Value),
   Paired (fun(p:List Key×V)(q:List Key×Addr×Value)=>p.1=q.1/\H q.2.1=some (.tup (p.1.map kV))/\aB p.2 q.2.2) kvs xs/\
   ∃o es ep,h.get? a=some o/\o.ExactDict/\o.data=.dict es ep/\es.toList=xs.map (entryOfKey (tupleKind (jI P w)))/\(xs.map (·.1)).Nodup
 | .set S n=>h.SetOf (intKind P w) a S n
 | .ins C dx fs=>H dx=some (.own a)/\fs.length<=1000/\dx≠a/\h.get? a=some (HM C dx)/\
   ∃mA,h.Ns1 dx mA/\(∀f,gE (fs.lookup f) (mA f))/\PySem.Within mA (fs.map (·.1))
 | .own _=>∃o,h.get? a=some o
 | .xd fs=>∃mA,h.Ns1 a mA/\∀f,gE (fs.lookup f) (mA f)
 | .rng lo hi=>∃t u v,h.get? a=some { cls:=.type "range",data:=.fields #[.int lo t,.int hi u,.int 1 v] }
 | .frz o u=>h.get? a=some o/\br H h a u
 | .tbl ps=>h.get? a=some { cls:=.none,data:=.fields ps }
 | .met f x=>h.get? a=some (Lp (.ref f) (.ref x))
 | .ext φ=>φ h/\(∃o,h.get? a=some o)/\∀h1 h2:Heap,φ h1->(∀o,h1.get? a=some o->h2.get? a=some o)->φ h2
noncomputable def HOk(H:Hp)(h:Heap):Prop:=∀a o,H a=some o->br P w H h a o
end
section
variable{P:Program}{w:World}{H H':Hp}{h h':Heap}{a:Addr}{o:HO}
theorem br.lt(x:br P w H h a o):a<h.objs.size:=by
 cases o with
 |lst xs=>obtain⟨_,_,_,_,e⟩:=x;exact EN e
 |tup xs=>obtain⟨_,_,_,p⟩:=x;exact p.lt
 |dK kvs=>obtain⟨_,_,_,_,o,_,_,e,_⟩:=x;exact EN e
 |dT kvs=>obtain⟨_,_,_,_,o,_,_,e,_⟩:=x;exact EN e
 |set S n=>obtain⟨o,_,_,_,e,_⟩:=x;exact EN e
 |ins C dx fs=>obtain⟨_,_,_,e,_⟩:=x;exact EN e
 |own y=>obtain⟨_,e⟩:=x;exact EN e
 |xd fs=>obtain⟨_,⟨_,_,_,e,_⟩,_⟩:=x;exact EN e
 |rng lo hi=>obtain⟨_,_,_,e⟩:=x;exact EN e
 |frz ob u=>obtain⟨e,_⟩:=x;exact EN e
 |tbl ps=>exact EN (show h.get? a=some _ from x)
 |met f y=>exact EN (show h.get? a=some _ from x)
 |ext φ=>obtain⟨_,⟨_,e⟩,_⟩:=x;exact EN e
theorem Paired.mapP{α β:Type}{F G:α->β->Prop}:∀{l₁:List α} {l₂:List β},Paired F l₁ l₂->(∀a b,F a b->G a b)->Paired G l₁ l₂
 |_,_,.nil,_=>.nil
 |_,_,.cons r t,f=>.cons (f _ _ r) (Paired.mapP t f)
theorem br.stay(x:br P w H h a o)(k:∀b u,(b=a\/H b=some (.own a))->h.get? b=some u->h'.get? b=some u)
  (ho:∀b,H b=some (.own a)->H' b=some (.own a)) (ht:∀b xs,H b=some (.tup xs)->H' b=some (.tup xs)):br P w H' h' a o:=by
 induction o with
 |lst xs=>obtain⟨z,its,n,r,e⟩:=x;exact⟨z,its,n,r,k _ _ (.inl rfl) e⟩
 |tup xs=>obtain⟨z,its,r,ob,e,c⟩:=x;exact⟨z,its,r,ob,k _ _ (.inl rfl) e,c⟩
 |dK kvs=>obtain⟨z,y,vs,r,ob,es,ep,e,c⟩:=x;exact⟨z,y,vs,r,ob,es,ep,k _ _ (.inl rfl) e,c⟩
 |dT kvs=>
  obtain⟨z,y,xs,r,ob,es,ep,e,c⟩:=x;exact⟨z,y,xs,Paired.mapP r fun p q z=>⟨z.1,ht _ _ z.2.1,z.2.2⟩,ob,es,ep,k _ _ (.inl rfl) e,c⟩
 |set S n=>obtain⟨ob,es,ep,t,e,c⟩:=x;exact⟨ob,es,ep,t,k _ _ (.inl rfl) e,c⟩
 |ins C dx fs=>
  obtain⟨d,z,ne,e,mA,⟨od,es,ep,e2,c⟩,r⟩:=x;exact⟨ho _ d,z,ne,k _ _ (.inl rfl) e,mA,⟨od,es,ep,k _ _ (.inr d) e2,c⟩,r⟩
 |own y=>obtain⟨ob,e⟩:=x;exact⟨ob,k _ _ (.inl rfl) e⟩
 |xd fs=>obtain⟨mA,⟨od,es,ep,e,c⟩,r⟩:=x;exact⟨mA,⟨od,es,ep,k _ _ (.inl rfl) e,c⟩,r⟩
 |rng lo hi=>obtain⟨t,u,v,e⟩:=x;exact⟨t,u,v,k _ _ (.inl rfl) e⟩
 |frz ob u ih=>obtain⟨e,q⟩:=x;exact⟨k _ _ (.inl rfl) e,ih q⟩
 |tbl ps=>
  have e:h.get? a=some { cls:=.none,data:=.fields ps }:=x;show h'.get? a=some { cls:=.none,data:=.fields ps };exact k a _ (.inl rfl) e
 |met f y=>
  have e:h.get? a=some (Lp (.ref f) (.ref y)):=x;show h'.get? a=some (Lp (.ref f) (.ref y));exact k a _ (.inl rfl) e
 |ext φ=>obtain⟨p,⟨o,e⟩,st⟩:=x;exact⟨st _ _ p fun o q=>k _ _ (.inl rfl) q,⟨o,k _ _ (.inl rfl) e⟩,st⟩
theorem HOk.lt(x:HOk P w H h)(e:H a=some o):a<h.objs.size:=(x a o e).lt
theorem HOk.fresh(x:HOk P w H h)(e:h.objs.size<=a):H a=none:=by
 cases q:H a with
 |none=>rfl
 |some u=>exact absurd (E8 (x.lt q) e) (FM _)
theorem HOk.kept(x:HOk P w H h)(k:∀b u,h.get? b=some u->h'.get? b=some u):HOk P w H h':=fun a o e=>
 (x a o e).stay (fun b u _ q=>k b u q) (fun _ q=>q) fun _ _ q=>q
theorem HOk.laid(x:HOk P w H h)(k:∀b u,h.get? b=some u->h'.get? b=some u)(hp:h.objs.size<=a)(new:br P w (upd H a o) h' a o):HOk P w (upd H a o) h':=fun b u e=>by
 have hn:=x.fresh hp;by_cases hb:b=a
 ·subst hb;rw[ay]at e;cases e;exact new
 ·rw[aQ hb]at e
  exact(x b u e).stay (fun c v _ q=>k c v q) (fun c q=>by rw[aQ (aT q hn)];exact q) fun c xs q=>by rw[aQ (aT q hn)];exact q
end
noncomputable def Rd(H:Hp)(a:Addr)(u:HO):Prop:=H a=some u\/∃o,H a=some (.frz o u)
theorem Rd.of{H:Hp}{a:Addr}{u:HO}(h:H a=some u):Rd H a u:=.inl h
theorem Rd.ok{P:Program}{w:World}{H:Hp}{h:Heap}{a:Addr}{u:HO}(r:Rd H a u)(x:HOk P w H h):br P w H h a u:=by
 rcases r with r|⟨o,r⟩
 ·exact x a u r
 ·obtain⟨_,q⟩:=x a _ r
  exact q
noncomputable def Mut:Option HO->Prop
 |some (.lst _)=>True
 |some (.dK _)=>True
 |some (.dT _)=>True
 |some (.set _ _)=>True
 |some (.ins _ _ _)=>True
 |some (.ext _)=>True
 |_=>False
section
variable{P:Program}{w:World}{H:Hp}{h h':Heap}{x e:Addr}{o':HO}
theorem HOk.write(ok:HOk P w H h)(mu:Mut (H x))(he:e=x\/H e=some (.own x))(k:∀b u,b≠e->h.get? b=some u->h'.get? b=some u)(heo:∃u,h'.get? e=some u)
  (new:br P w (upd H x o') h' x o'):HOk P w (upd H x o') h':=fun b u q=>by
 have nown:∀c y,H c=some (.own y)->c≠x:=fun c y r z=>by subst z;rw[r]at mu;exact mu
 have ntup:∀c xs,H c=some (.tup xs)->c≠x:=fun c xs r z=>by subst z;rw[r]at mu;exact mu
 by_cases hb:b=x
 ·subst hb;rw[ay]at q;cases q;exact new
 ·rw[aQ hb]at q
  by_cases hbe:b=e
  ·have q':H b=some (.own x):=by
    rcases he with z|z
    ·exact absurd (hbe.trans z) hb
    ·rw[hbe];exact z
   rw[q]at q';cases q';obtain⟨v,hv⟩:=heo;exact⟨v,by rw[hbe];exact hv⟩
  ·refine(ok b u q).stay (fun c v hc r=>k c v ?_ r) (fun c r=>by rw[aQ (nown c b r)];exact r) fun c xs r=>by rw[aQ (ntup c xs r)];exact r
   rcases hc with rfl|hc
   ·exact hbe
   ·rintro rfl
    rcases he with z|z
    ·exact nown c b hc z
    ·rw[hc]at z;cases z;exact hb rfl
end
structure Un(fs ex:List Addr)(H H':Hp)(h h':Heap):Prop where
 keep:∀b o,h.get? b=some o->H b=none->b∉fs->b∉ex->h'.get? b=some o
 slot:∀b o,h.get? b=some o->H b=none->b∈fs->b∉ex->∃sl,h'.get? b=some { o with slots:=sl }
 free:∀b o,h.get? b=some o->H b=none->b∉ex->H' b=none
 there:∀b o,h.get? b=some o->b∉ex->∃o',h'.get? b=some o'
 tups:∀b xs,H b=some (.tup xs)->H' b=some (.tup xs)
 frzs:∀b o u,H b=some (.frz o u)->H' b=some (.frz o u)
 tbls:∀b ps,H b=some (.tbl ps)->∃more,H' b=some (.tbl (ps++more))
section
variable{fs fs' ex ex':List Addr}{H H1 H2:Hp}{h h1 h2 h':Heap}{a x e:Addr}{o:HO}
theorem Un.any(u:Un fs ex H H1 h h1){b:Addr}{ob:Obj}(q:h.get? b=some ob)(n:H b=none)(hx:b∉ex):∃sl,h1.get? b=some { ob with slots:=sl }:=by
 by_cases hb:b∈fs
 ·exact u.slot b ob q n hb hx
 ·exact⟨ob.slots,u.keep b ob q n hb hx⟩
theorem Un.trans(a:Un fs ex H H1 h h1)(b:Un fs ex H1 H2 h1 h2):Un fs ex H H2 h h2 where
 keep:=fun c ob q n hc hx=>b.keep c ob (a.keep c ob q n hc hx) (a.free c ob q n hx) hc hx
 slot:=fun c ob q n hc hx=>by
  obtain⟨sl,e1⟩:=a.slot c ob q n hc hx;obtain⟨sl',e2⟩:=b.slot c _ e1 (a.free c ob q n hx) hc hx;exact⟨sl',e2⟩
 free:=fun c ob q n hx=>by
  obtain⟨o',e1⟩:=a.there c ob q hx;exact b.free c o' e1 (a.free c ob q n hx) hx
 there:=fun c ob q hx=>by
  obtain⟨o',e1⟩:=a.there c ob q hx;exact b.there c o' e1 hx
 tups:=fun c xs q=>b.tups c xs (a.tups c xs q)
 frzs:=fun c ob xs q=>b.frzs c ob xs (a.frzs c ob xs q)
 tbls:=fun c ps q=>by
  obtain⟨m1,e1⟩:=a.tbls c ps q;obtain⟨m2,e2⟩:=b.tbls c _ e1;exact⟨m1++m2,by rw[e2,KS]⟩
theorem Un.kept(k:∀b u,h.get? b=some u->h'.get? b=some u):Un fs ex H H h h':=
 ⟨fun b ob q _ _ _=>k b ob q,fun b ob q _ _ _=>⟨ob.slots,k b ob q⟩,fun _ _ _ n _=>n,fun b ob q _=>⟨ob,k b ob q⟩,fun _ _ q=>q,fun _ _ _ q=>q,fun _ ps q=>⟨#[],by rw[q];simp⟩⟩
theorem Un.refl:Un fs ex H H h h:=Un.kept fun _ _ q=>q
theorem Un.laid(k:∀b u,h.get? b=some u->h'.get? b=some u)(hp:h.objs.size<=a)(hn:H a=none):Un fs ex H (upd H a o) h h' where
 keep:=fun b u q _ _ _=>k b u q
 slot:=fun b u q _ _ _=>⟨u.slots,k b u q⟩
 free:=fun b u q n _=>by rw[aQ (Fi (E8 (EN q) hp))];exact n
 there:=fun b u q _=>⟨u,k b u q⟩
 tups:=fun b xs q=>by rw[aQ (aT q hn)];exact q
 frzs:=fun b u xs q=>by rw[aQ (aT q hn)];exact q
 tbls:=fun b ps q=>⟨#[],by rw[aQ (aT q hn),q];simp⟩
theorem Un.write(mu:Mut (H x))(he:e=x\/H e=some (.own x))(k:∀b u,b≠e->h.get? b=some u->h'.get? b=some u)(heo:∃u,h'.get? e=some u):Un fs ex H (upd H x o) h h':=by
 have hx:∀b,H b=none->b≠x:=fun b n z=>by subst z;rw[n]at mu;exact mu
 have hb:∀b,H b=none->b≠e:=fun b n z=>by
  subst z;rcases he with r|r
  ·exact hx b n r
  ·rw[n]at r;cases r
 have hm:∀b u,H b=some u->¬Mut (some u)->b≠x:=fun b u q nm z=>by subst z;rw[q]at mu;exact nm mu
 refine⟨fun b u q n _ _=>k b u (hb b n) q,fun b u q n _ _=>⟨u.slots,k b u (hb b n) q⟩,fun b u q n _=>by rw[aQ (hx b n)];exact n,fun b u q _=>?_,
  fun b xs q=>by rw[aQ (hm b _ q fun z=>z)];exact q,fun b u xs q=>by rw[aQ (hm b _ q fun z=>z)];exact q,fun b ps q=>⟨#[],by rw[aQ (hm b _ q fun z=>z),q];simp⟩⟩
 by_cases hbe:b=e
 ·subst hbe;exact heo
 ·exact⟨u,k b u hbe q⟩
end
noncomputable def trk(h:Heap)(H:Hp):List Addr:=(EY h.objs.size).filter fun a=>(H a).isSome
noncomputable def jY(h:Heap)(H:Hp):Heap:=Jp h (trk h H)
theorem wO(h:Heap)(H:Hp):(jY h H).objs.size=h.objs.size:=PySem.W.hideAll_size _ _
theorem yG{h:Heap}{H:Hp}{b:Addr}{o:Obj}(e:h.get? b=some o)(n:H b=none):(jY h H).get? b=some o:=
 Nj _ e fun hm=>by
  have q:(H b).isSome=true:=(Gv.mp hm).2;rw[n]at q;simp at q
theorem Bm{h:Heap}{H:Hp}{b:Addr}{o:Obj}(e:(jY h H).get? b=some o):h.get? b=some o/\H b=none:=by
 have e':h.get? b=some o:=Nv (trk h H) e;refine⟨e',?_⟩;cases q:H b with
 |none=>rfl
 |some x=>
  have hm:b∈trk h H:=Gv.mpr ⟨Ff.mpr (EN e'),by simp[q]⟩;have z:(jY h H).get? b=none:=PySem.W.hideAll_none (trk h H) hm;rw[z]at e;cases e
noncomputable def Bo(g h:Heap)(L:Addr):List (Addr×Obj):=(EY h.objs.size).filterMap fun a=>if a=L\/(g.get? a).isSome=true then none else(h.get? a).map fun o=>(a,o)
noncomputable def aY(g h:Heap)(L d:Addr):List (Addr×Obj):=(Bo g h L).filter fun p=>decide (p.1≠d)
end L2
namespace L2
open PySem PySem.Spec PyProof.Rows
structure Mod(K:Fg)(mg:Str->Option Value)(base:Heap):Prop where
 kin:K.In base
 glob:base.Ns Fj mg
 blt:∃mb,base.Ns OB mb/\∀x:Str,x≠"__name__"->mb x=IJ x
 nolimit:base.NoLimit
set_option genInjectivity false in
structure Cx where
 prog:Program
 w:World
 K:Fg
 mg:Str->Option Value
 base:Heap
 A:Around
 N:List Str
 s₀:Shared
 H₀:Hp
 env:Env
 outer:List Env
 stack:List Env
 ex:List Addr
 fn:Str->Bool
 calm:Bool
 pn:List (Addr×Obj)
 xe:Value->Shared->Prop
noncomputable def frs(l:List Env):List Addr:=l.filterMap (·.frame)
noncomputable abbrev Cx.fs(X:Cx):List Addr:=frs X.outer
noncomputable def Vis(sc:Scope)(x:Str):Prop:=sc.names.lookup x=some .local\/sc.names.lookup x=some .cell\/sc.names.lookup x=some .free
noncomputable def Loc(sc:Scope)(x:Str):Prop:=sc.names.lookup x=some .local\/sc.names.lookup x=some .cell
noncomputable def Cq(env:Env)(h:Heap)(m:Str->Option Value)(x:Str)(u:Value):Prop:=
 (env.kindOf x=some .local/\m x=some u)\/((env.kindOf x=some .cell\/env.kindOf x=some .free)/\∃c,env.cells.lookup x=some c/\h.IsCell c (some u))
structure Cx.Ok(X:Cx):Prop where
 mod:Mod X.K X.mg X.base
 kind:X.env.scope.kind=.function
 glob:X.env.globals=Fj
 blt:X.env.builtins=OB
 above:X.s₀.heap.objs.size<=X.env.locals
 inj:∀x y c,X.env.cells.lookup x=some c->X.env.cells.lookup y=some c->x=y
 has:∀x,(X.env.kindOf x=some .cell\/X.env.kindOf x=some .free)->∃c,X.env.cells.lookup x=some c
 cab:∀x c,X.fn x=true->X.env.cells.lookup x=some c->X.s₀.heap.objs.size<=c
 hd:X.calm=true->X.A.handled=none
 frames:X.A.frames=some X.stack
 stk:X.stack=X.outer\/(X.stack=X.env::X.outer/\X.env.frame=some X.env.locals)
 exf:∀b∈X.ex,b≠X.env.locals/\∀x c,X.env.cells.lookup x=some c->c≠b
 bs:∀b o,X.base.get? b=some o->X.s₀.heap.get? b=some o/\X.H₀ b=none
 bsz:X.base.objs.size<=X.s₀.heap.objs.size
 noex:∀b o,X.base.get? b=some o->b∉X.ex
 exfs:∀b∈X.ex,b∉X.fs
 funs:X.s₀.heap.FunFrames X.base X.outer
 frf:∀b∈X.fs,X.H₀ b=none
structure Inv(X:Cx)(pins:List (Addr×Obj))(σ:List (Option V))(H:Hp)(s:Shared):Prop where
 ok:X.Ok
 os:s.os=X.s₀.os
 bare:AllBare s.gens
 base:Un X.fs X.ex X.H₀ H X.s₀.heap s.heap
 loc:∃m,s.heap.Ns X.env.locals m/\∀(i:Nat)(x:Str)(v:V),X.N[i]?=some x->σ[i]?=some (some v)->Vis X.env.scope x->∃u,aB v u/\Cq X.env s.heap m x u
 cell:∀x c,X.env.cells.lookup x=some c->∃v,s.heap.IsCell c v
 free:H X.env.locals=none
 freeC:∀x c,X.env.cells.lookup x=some c->H c=none
 pin:∀p∈X.pn++pins,s.heap.get? p.1=some p.2/\H p.1=none/\p.1≠X.env.locals/\p.1∉X.fs/\∀v,p.2.data≠.cell v
 hok:HOk X.prog X.w H s.heap
 len:σ.length=X.N.length
section
variable{X:Cx}{pins:List (Addr×Obj)}{σ:List (Option V)}{H H':Hp}{s:Shared}{h':Heap}
theorem Cx.Ok.nofr(ok:X.Ok){b:Addr}{o:Obj}(e:X.base.get? b=some o):b∉X.fs:=fun hb=>by
 have:=(ok.funs.mem hb).1;rw[e]at this;cases this
theorem Inv.bs(I:Inv X pins σ H s):∀b o,X.base.get? b=some o->s.heap.get? b=some o/\H b=none:=fun b o e=>
 ⟨I.base.keep b o (I.ok.bs b o e).1 (I.ok.bs b o e).2 (I.ok.nofr e) (I.ok.noex b o e),I.base.free b o (I.ok.bs b o e).1 (I.ok.bs b o e).2 (I.ok.noex b o e)⟩
theorem Inv.bk(I:Inv X pins σ H s):∀b o,X.base.get? b=some o->s.heap.get? b=some o:=fun b o e=>(I.bs b o e).1
theorem Inv.mod(I:Inv X pins σ H s):Mod X.K X.mg X.base:=I.ok.mod
theorem Inv.kIn(I:Inv X pins σ H s):X.K.In s.heap:=I.ok.mod.kin.keeps I.bk
theorem Inv.nolimit(I:Inv X pins σ H s):s.heap.NoLimit:=I.ok.mod.nolimit.keeps I.bk
theorem Inv.lt(I:Inv X pins σ H s):X.env.locals<s.heap.objs.size:=let⟨_,hn,_⟩:=I.loc;hn.lt
theorem Inv.sz(I:Inv X pins σ H s):X.s₀.heap.objs.size<=s.heap.objs.size:=Fz I.ok.above (Gs I.lt)
theorem Inv.nofs(I:Inv X pins σ H s){a:Addr}(h:s.heap.objs.size<=a):a∉X.fs:=fun hb=>by
 obtain⟨_,o,ho,_⟩:=I.ok.funs.mem hb;exact absurd (E8 (EN ho) (Fz I.sz h)) (FM _)
theorem Inv.cne(I:Inv X pins σ H s):∀x c,X.env.cells.lookup x=some c->c≠X.env.locals:=fun x c e z=>by
 obtain⟨v,o,ho,hd⟩:=I.cell x c e;obtain⟨m,⟨o',es,ep,ho',hd',_⟩,_⟩:=I.loc;rw[z,ho']at ho;cases ho;rw[hd']at hd;cases hd
theorem Inv.funs(I:Inv X pins σ H s):s.heap.FunFrames X.base X.outer:=by
 have all:∀(l:List Env),(∀b∈frs l,b∈X.fs)->X.s₀.heap.FunFrames X.base l->s.heap.FunFrames X.base l:=by
  intro l
  induction l with
  |nil=>intro _ _;trivial
  |cons env r ih=>
   intro hs hl;obtain⟨hk,⟨L,o,hf,hn,ho,hd⟩,hr⟩:=hl;have hL:L∈X.fs:=hs L (by unfold frs;rw[Ij,hf];exact EW);obtain⟨sl,e⟩:=I.base.slot L o ho (I.ok.frf L hL) hL fun z=>I.ok.exfs L z hL;exact⟨hk,⟨L,_,hf,hn,e,hd⟩,ih (fun b hb=>hs b (by unfold frs;rw[Ij,hf];exact E3 _ hb)) hr⟩
 exact all X.outer (fun _ hb=>hb) I.ok.funs
theorem Inv.stack(I:Inv X pins σ H s):s.heap.FunFrames X.base X.stack:=by
 rcases I.ok.stk with e|⟨e,hf⟩
 ·rw[e];exact I.funs
 ·rw[e]
  obtain⟨m,hn,_⟩:=I.loc;refine .cons (by rw[I.ok.kind];decide) hf hn ?_ I.funs;exact Heap.get?_none_of_le (Fz I.ok.bsz I.ok.above)
theorem Inv.stkSub(I:Inv X pins σ H s):∀b∈frs X.stack,b∈X.env.locals::X.fs:=fun b hb=>by
 rcases I.ok.stk with e|⟨e,hf⟩
 ·rw[e]at hb;exact E3 _ hb
 ·rw[e]at hb
  unfold frs at hb;rw[Ij,hf]at hb;exact hb
theorem Inv.stkFree(I:Inv X pins σ H s):∀b∈frs X.stack,H b=none:=fun b hb=>by
 rcases EV.mp (I.stkSub b hb)with e|hb
 ·rw[e];exact I.free
 ·obtain⟨_,o,ho,_⟩:=I.ok.funs.mem hb
  exact I.base.free b o ho (I.ok.frf b hb) fun z=>I.ok.exfs b z hb
theorem Inv.step{g':Array KB}{t':Nat}{d':Drawn}{ch:List Addr}(I:Inv X pins σ H s)
  (hch:∀b∈ch,(b∈X.ex\/X.s₀.heap.objs.size<=b)/\b≠X.env.locals/\(∀x c,X.env.cells.lookup x=some c->c≠b)/\∀p∈X.pn++pins,p.1≠b)
  (keep:∀b o,b≠X.env.locals->b∉X.fs->b∉ch->s.heap.get? b=some o->H b=none->h'.get? b=some o)
  (slot:∀b o,b≠X.env.locals->b∈X.fs->b∉ch->s.heap.get? b=some o->H b=none->∃sl,h'.get? b=some { o with slots:=sl }) (free:∀b o,b∉ch->s.heap.get? b=some o->H b=none->H' b=none)
  (there:∀b o,b∉ch->s.heap.get? b=some o->∃o',h'.get? b=some o')
  (tups:∀b xs,H b=some (.tup xs)->H' b=some (.tup xs)) (frzs:∀b o u,H b=some (.frz o u)->H' b=some (.frz o u)) (tbls:∀b ps,H b=some (.tbl ps)->∃more,H' b=some (.tbl (ps++more)))
  (ns:∀m,s.heap.Ns X.env.locals m->h'.Ns X.env.locals m) (hok:HOk X.prog X.w H' h') (hg:AllBare g'):
  Inv X pins σ H' { s with heap:=h',gens:=g',drawn:=d',toks:=t' }:=by
 have neL:∀b o,X.s₀.heap.get? b=some o->b≠X.env.locals:=fun b o e=>Fi (E8 (EN e) I.ok.above);have neC:∀b o,X.s₀.heap.get? b=some o->b∉X.ex->b∉ch:=fun b o e hx hb=>by
  rcases(hch b hb).1 with z|z
  ·exact hx z
  ·exact absurd (E8 (EN e) z) (FM _)
 have cellK:∀x c,X.env.cells.lookup x=some c->∀v,s.heap.IsCell c v->h'.IsCell c v:=fun x c e v ⟨o,ho,hd⟩=>by
  have nch:c∉ch:=fun z=>(hch c z).2.2.1 x c e rfl;by_cases hc:c∈X.fs
  ·obtain⟨sl,q⟩:=slot c o (I.cne x c e) hc nch ho (I.freeC x c e)
   exact⟨_,q,hd⟩
  ·exact⟨o,keep c o (I.cne x c e) hc nch ho (I.freeC x c e),hd⟩
 refine⟨I.ok,I.os,hg,⟨fun b o e n hb hx=>?_,fun b o e n hb hx=>?_,fun b o e n hx=>?_,fun b o e hx=>?_,fun b xs e=>tups b xs (I.base.tups b xs e),fun b o xs e=>frzs b o xs (I.base.frzs b o xs e),fun b ps e=>?_⟩,?_,fun x c e=>?_,?_,fun x c e=>?_,fun p hp=>?_,hok,I.len⟩
 ·exact keep b o (neL b o e) hb (neC b o e hx) (I.base.keep b o e n hb hx) (I.base.free b o e n hx)
 ·obtain⟨sl,e1⟩:=I.base.slot b o e n hb hx
  obtain⟨sl',e2⟩:=slot b _ (neL b o e) hb (neC b o e hx) e1 (I.base.free b o e n hx);exact⟨sl',e2⟩
 ·obtain⟨o',e1⟩:=I.base.there b o e hx
  exact free b o' (neC b o e hx) e1 (I.base.free b o e n hx)
 ·obtain⟨o',e1⟩:=I.base.there b o e hx
  exact there b o' (neC b o e hx) e1
 ·obtain⟨m1,e1⟩:=I.base.tbls b ps e
  obtain⟨m2,e2⟩:=tbls b _ e1;exact⟨m1++m2,by rw[e2,KS]⟩
 ·obtain⟨m,hn,hl⟩:=I.loc
  refine⟨m,ns m hn,fun i x v e1 e2 e3=>?_⟩;obtain⟨u,r,l⟩:=hl i x v e1 e2 e3;refine⟨u,r,?_⟩;rcases l with l|⟨k,c,e,z⟩
  ·exact .inl l
  ·exact .inr ⟨k,c,e,cellK x c e _ z⟩
 ·obtain⟨v,z⟩:=I.cell x c e
  exact⟨v,cellK x c e v z⟩
 ·obtain⟨m,⟨o,_,_,ho,_⟩,_⟩:=I.loc
  exact free _ o (fun z=>(hch _ z).2.1 rfl) ho I.free
 ·obtain⟨v,o,ho,hd⟩:=I.cell x c e
  exact free c o (fun z=>(hch c z).2.2.1 x c e rfl) ho (I.freeC x c e)
 ·obtain⟨e,n,ne,nf,d⟩:=I.pin p hp
  have nch:p.1∉ch:=fun z=>(hch p.1 z).2.2.2 p hp rfl;exact⟨keep p.1 p.2 ne nf nch e n,free p.1 p.2 nch e n,ne,nf,d⟩
theorem Inv.un{t':Nat}(I:Inv X pins σ H s)(u:Un X.fs [] H H' s.heap h')(hok:HOk X.prog X.w H' h'):Inv X pins σ H' { s with heap:=h',toks:=t' }:=by
 obtain⟨m,⟨o,es,ep,ho,r⟩,_⟩:=id I.loc;obtain⟨sl,hL⟩:=u.any ho I.free (by simp);exact I.step (g':=s.gens) (d':=s.drawn) (ch:=[]) (fun _ z=>nomatch z) (fun b o _ hb _ e n=>u.keep b o e n hb (by simp)) (fun b o _ hb _ e n=>u.slot b o e n hb (by simp)) (fun b o _ e n=>u.free b o e n (by simp)) (fun b o _ e=>u.there b o e (by simp)) u.tups u.frzs u.tbls (fun m' hm=>by
  obtain⟨o',es',ep',ho',r'⟩:=hm;rw[ho]at ho';cases ho';exact⟨_,es',ep',hL,r'⟩) hok I.bare
theorem Inv.call{g':Array KB}{t':Nat}{d':Drawn}{ch:List Addr}(I:Inv X pins σ H s)(u:Un (frs X.stack) ch H H' s.heap h')(hok:HOk X.prog X.w H' h')(hg:AllBare g')
  (hch:∀b∈ch,(b∈X.ex\/X.s₀.heap.objs.size<=b)/\b≠X.env.locals/\(∀x c,X.env.cells.lookup x=some c->c≠b)/\∀p∈X.pn++pins,p.1≠b):
  Inv X pins σ H' { s with heap:=h',gens:=g',drawn:=d',toks:=t' }:=by
 obtain⟨m,⟨o,es,ep,ho,r⟩,_⟩:=id I.loc;obtain⟨sl,hL⟩:=u.any ho I.free fun z=>(hch _ z).2.1 rfl;exact I.step (ch:=ch) hch (fun b o hL hb hc e n=>u.keep b o e n (fun z=>(EV.mp (I.stkSub b z)).elim hL hb) hc) (fun b o _ _ hc e n=>u.any e n hc) (fun b o hc e n=>u.free b o e n hc) (fun b o hc e=>u.there b o e hc) u.tups u.frzs u.tbls (fun m' hm=>by
  obtain⟨o',es',ep',ho',r'⟩:=hm;rw[ho]at ho';cases ho';exact⟨_,es',ep',hL,r'⟩) hok hg
theorem Inv.turned{t':Nat}{it:Addr}(I:Inv X pins σ H s)(k:∀b o,b≠it->s.heap.get? b=some o->h'.get? b=some o)(hn:H it=none)(hL:it≠X.env.locals)
  (h1:it∈X.ex\/X.s₀.heap.objs.size<=it) (h2:∀x c,X.env.cells.lookup x=some c->c≠it) (h3:∀p∈X.pn++pins,p.1≠it):Inv X pins σ H { s with heap:=h',toks:=t' }:=by
 have nit:∀b u,H b=some u->b≠it:=fun b u e z=>by rw[z,hn]at e;cases e
 refine I.step (g':=s.gens) (d':=s.drawn) (ch:=[it]) (fun b hb=>?_) (fun b o _ _ hc e _=>k b o (fun z=>hc (by simp[z])) e) (fun b o _ _ hc e _=>⟨o.slots,k b o (fun z=>hc (by simp[z])) e⟩) (fun _ _ _ _ n=>n)
  (fun b o hc e=>⟨o,k b o (fun z=>hc (by simp[z])) e⟩) (fun _ _ e=>e) (fun _ _ _ e=>e) (fun b ps e=>⟨#[],by rw[e];simp⟩) (fun m hm=>?_) (fun b u e=>?_) I.bare
 ·have e:b=it:=by simpa using hb
  subst e;exact⟨h1,hL,h2,h3⟩
 ·obtain⟨o,es,ep,ho,r⟩:=hm
  exact⟨o,es,ep,k _ o (Ge hL) ho,r⟩
 ·refine(I.hok b u e).stay (fun c v hc q=>k c v ?_ q) (fun _ q=>q) fun _ _ q=>q
  rcases hc with z|z
  ·rw[z];exact nit b u e
  ·exact nit c _ z
theorem Inv.tok(I:Inv X pins σ H s)(t:Nat):Inv X pins σ H { s with toks:=t }:=I.un (h':=s.heap) (t':=t) Un.refl I.hok
theorem Inv.kept{t':Nat}(I:Inv X pins σ H s)(k:∀b u,s.heap.get? b=some u->h'.get? b=some u):Inv X pins σ H { s with heap:=h',toks:=t' }:=I.un (Un.kept k) (I.hok.kept k)
theorem Inv.laid{a:Addr}{o:HO}{t':Nat}(I:Inv X pins σ H s)(k:∀b u,s.heap.get? b=some u->h'.get? b=some u)(hp:s.heap.objs.size<=a)(new:br X.prog X.w (upd H a o) h' a o):
  Inv X pins σ (upd H a o) { s with heap:=h',toks:=t' }:=I.un (Un.laid k hp (I.hok.fresh hp)) (I.hok.laid k hp new)
theorem Inv.write{x e:Addr}{o:HO}{t':Nat}(I:Inv X pins σ H s)(mu:Mut (H x))(he:e=x\/H e=some (.own x))(k:∀b u,b≠e->s.heap.get? b=some u->h'.get? b=some u)(heo:∃u,h'.get? e=some u)
  (new:br X.prog X.w (upd H x o) h' x o):Inv X pins σ (upd H x o) { s with heap:=h',toks:=t' }:=I.un (Un.write mu he k heo) (I.hok.write mu he k heo new)
theorem Inv.pins_of{pins':List (Addr×Obj)}(I:Inv X pins σ H s)(h:∀p∈pins',s.heap.get? p.1=some p.2/\H p.1=none/\p.1≠X.env.locals/\p.1∉X.fs/\∀v,p.2.data≠.cell v):Inv X pins' σ H s:=
 ⟨I.ok,I.os,I.bare,I.base,I.loc,I.cell,I.free,I.freeC,fun p hp=>(FC.mp hp).elim (fun z=>I.pin p (F6 _ z)) (h p),I.hok,I.len⟩
theorem mw{N:List Str}(hN:N.Nodup){i j:Nat}{x:Str}(a:N[i]?=some x)(b:N[j]?=some x):i=j:=by
 obtain⟨h1,e1⟩:=EK.mp a;obtain⟨h2,e2⟩:=EK.mp b;exact(List.getElem_inj hN).mp (e1.trans e2.symm)
theorem kM{M:Model}{A:Around}{E:Value->Shared->Prop}{i:Nat}{x:Str}{v:V}{u:Value}{Q:Unit->Shared->Prop}(I:Inv X pins σ H s)(hN:X.N.Nodup)(hi:X.N[i]?=some x)(hx:Loc X.env.scope x)(r:aB v u)
  (h:∀s',Inv X pins (σ.set i (some v)) H s'->(∃a,Fb a s.heap s'.heap/\(a=X.env.locals\/X.env.cells.lookup x=some a))->Q () s') (hf:X.fn x=true\/X.env.scope.names.lookup x=some .local:=by first|exact .inl rfl|exact .inr rfl|assumption):wpAny M A (storeName X.env x u) Q E s:=by
 obtain⟨m,hn,hl⟩:=id I.loc;have hcls:(X.env.scope.kind== .class||(X.env.scope.kind== .module&&X.env.locals != X.env.globals))=false:=by rw[I.ok.kind];rfl
 have hiσ:i<σ.length:=by rw[I.len];exact(EK.mp hi).1
 have cne:=I.cne;have tracked:∀{a:Addr} {h':Heap},(∃o,s.heap.get? a=some o/\H a=none)->Fb a s.heap h'->HOk X.prog X.w H h':=fun{a h'} ha hs b ob e=>by
  obtain⟨_,_,hfree⟩:=ha;refine(I.hok b ob e).stay (fun c w' hc q=>(hs.2 c ?_).trans q) (fun _ q=>q) fun _ _ q=>q;rintro rfl;rcases hc with rfl|hc
  ·rw[hfree]at e;cases e
  ·rw[hfree]at hc;cases hc
 rcases hx with hk|hk
 ·refine wpAny_storeName_local hk hn (fun h' hn' hs=>?_) hcls
  obtain⟨oL,_,_,hoL,_⟩:=id hn;refine h _ ⟨I.ok,I.os,I.bare,⟨fun b o e n hb hx=>?_,fun b o e n hb hx=>?_,I.base.free,fun b o e hx=>?_,I.base.tups,I.base.frzs,I.base.tbls⟩,⟨_,hn',fun j y v' e1 e2 e3=>?_⟩,fun y c e=>?_,I.free,I.freeC,fun p hp=>?_,tracked ⟨oL,hoL,I.free⟩ hs,by simpa using I.len⟩ ⟨_,hs,.inl rfl⟩
  ·exact(hs.2 b (Fi (E8 (EN e) I.ok.above))).trans (I.base.keep b o e n hb hx)
  ·obtain⟨sl,e1⟩:=I.base.slot b o e n hb hx
   exact⟨sl,(hs.2 b (Fi (E8 (EN e) I.ok.above))).trans e1⟩
  ·obtain⟨o',e1⟩:=I.base.there b o e hx
   exact⟨o',(hs.2 b (Fi (E8 (EN e) I.ok.above))).trans e1⟩
  ·by_cases hj:j=i
   ·subst hj
    rw[hi]at e1;cases e1;rw[Iw hiσ]at e2;cases e2;exact⟨u,r,.inl ⟨hk,by simp⟩⟩
   ·rw[IX (Ge hj)]at e2
    obtain⟨u',r',q⟩:=hl j y v' e1 e2 e3;refine⟨u',r',?_⟩;rcases q with⟨k,e⟩|⟨k,c,e,z⟩
    ·refine .inl ⟨k,?_⟩
     have:y≠x:=fun e=>hj (mw hN e1 (e▸hi));simp[this,e]
    ·exact .inr ⟨k,c,e,z.sameBut hs (cne y c e)⟩
  ·obtain⟨w',z⟩:=I.cell y c e
   exact⟨w',z.sameBut hs (cne y c e)⟩
  ·obtain⟨e,n,ne,nf,d⟩:=I.pin p hp
   exact⟨(hs.2 p.1 ne).trans e,n,ne,nf,d⟩
 ·have hfn:X.fn x=true:=by
   rcases hf with z|z
   ·exact z
   ·rw[z]at hk;cases hk
  obtain⟨c,hc⟩:=I.ok.has x (.inl hk);obtain⟨w',z⟩:=I.cell x c hc;refine wpAny_storeName_cell I.ok.kind hk hc z (fun h' hc' hs=>?_);obtain⟨oc,hoc,hocd⟩:=id z;refine h { s with heap:=h' } ⟨I.ok,I.os,I.bare,⟨fun b o e n hb hx=>?_,fun b o e n hb hx=>?_,I.base.free,fun b o e hx=>?_,I.base.tups,I.base.frzs,I.base.tbls⟩,⟨m,hn.sameBut hs (Ge (cne x c hc)),fun j y v' e1 e2 e3=>?_⟩,fun y c' e=>?_,I.free,I.freeC,fun p hp=>?_,tracked ⟨oc,hoc,I.freeC x c hc⟩ hs,by simpa using I.len⟩ ⟨c,hs,.inr hc⟩
  ·exact(hs.2 b (Fi (E8 (EN e) (I.ok.cab x c hfn hc)))).trans (I.base.keep b o e n hb hx)
  ·obtain⟨sl,e1⟩:=I.base.slot b o e n hb hx
   exact⟨sl,(hs.2 b (Fi (E8 (EN e) (I.ok.cab x c hfn hc)))).trans e1⟩
  ·obtain⟨o',e1⟩:=I.base.there b o e hx
   exact⟨o',(hs.2 b (Fi (E8 (EN e) (I.ok.cab x c hfn hc)))).trans e1⟩
  ·by_cases hj:j=i
   ·subst hj
    rw[hi]at e1;cases e1;rw[Iw hiσ]at e2;cases e2;exact⟨u,r,.inr ⟨.inl hk,c,hc,hc'⟩⟩
   ·rw[IX (Ge hj)]at e2
    obtain⟨u',r',q⟩:=hl j y v' e1 e2 e3;refine⟨u',r',?_⟩;rcases q with q|⟨k,c',e,z'⟩
    ·exact .inl q
    ·refine .inr ⟨k,c',e,z'.sameBut hs ?_⟩
     rintro rfl;exact hj (mw hN e1 (I.ok.inj _ _ _ e hc▸hi))
  ·by_cases hcc:c'=c
   ·subst hcc;exact⟨_,hc'⟩
   ·obtain⟨w2,z2⟩:=I.cell y c' e
    exact⟨w2,z2.sameBut hs hcc⟩
  ·obtain⟨e,n,ne,nf,d⟩:=I.pin p hp
   refine⟨(hs.2 p.1 ?_).trans e,n,ne,nf,d⟩;intro q;rw[q,hoc]at e;have q':oc=p.2:=Fd e;exact d w' (by rw[<-q'];exact hocd)
theorem mz{M:Model}{A:Around}{E:Value->Shared->Prop}{i:Nat}{x:Str}{v:V}{u:Value}{Q:Unit->Shared->Prop}(I:Inv X pins σ H s)(hN:X.N.Nodup)(hi:X.N[i]?=some x)(hx:Loc X.env.scope x)(r:aB v u)
  (h:∀s',Inv X pins (σ.set i (some v)) H s'->Q () s') (hf:X.fn x=true\/X.env.scope.names.lookup x=some .local:=by first|exact .inl rfl|exact .inr rfl|assumption):wpAny M A (storeName X.env x u) Q E s:=
 kM I hN hi hx r (fun s' I' _=>h s' I') hf
theorem Inv.call'{s':Shared}{ch:List Addr}(I:Inv X pins σ H s)(ho:s'.os=s.os)(u:Un (frs X.stack) ch H H' s.heap s'.heap)(hok:HOk X.prog X.w H' s'.heap)(hg:AllBare s'.gens)
  (hch:∀b∈ch,(b∈X.ex\/X.s₀.heap.objs.size<=b)/\b≠X.env.locals/\(∀x c,X.env.cells.lookup x=some c->c≠b)/\∀p∈X.pn++pins,p.1≠b):Inv X pins σ H' s':=by
 obtain⟨h',g',d',t',o'⟩:=s';have e:o'=s.os:=ho;subst e;exact I.call (g':=g') (t':=t') (d':=d') u hok hg hch
end
noncomputable abbrev XK:=Value->Option Addr->Hp->Prop
noncomputable abbrev St:=List (Option V)
noncomputable abbrev VK:=V->Hp->Prop
noncomputable abbrev TE:=St->Hp->VK->Prop
noncomputable abbrev TT:=St->Hp->(Bool->Hp->Prop)->Prop
noncomputable abbrev TA:=St->Hp->(List V->Hp->Prop)->Prop
set_option genInjectivity false in
structure ij where
 nx:St->Hp->Prop
 rt:VK
 bk:St->Hp->Prop:=fun _ _=>False
 ct:St->Hp->Prop:=fun _ _=>False
noncomputable abbrev TS:=ij->St->Hp->Prop
noncomputable def EP(X:Cx)(pins:List (Addr×Obj))(σ:St)(Q:VK)(u:Value)(s':Shared):Prop:=∃v H',Inv X pins σ H' s'/\aB v u/\Q v H'
noncomputable def TP(X:Cx)(pins:List (Addr×Obj))(σ:St)(Q:Bool->Hp->Prop)(b:Bool)(s':Shared):Prop:=∃H',Inv X pins σ H' s'/\Q b H'
noncomputable def AP(X:Cx)(pins:List (Addr×Obj))(σ:St)(Q:List V->Hp->Prop)(us:List Value)(s':Shared):Prop:=∃vs H',Inv X pins σ H' s'/\aA vs us/\Q vs H'
noncomputable def SP(X:Cx)(pins:List (Addr×Obj))(D:ij)(f:Flow)(s':Shared):Prop:=
 match f with
 | .next=>∃σ' H',Inv X pins σ' H' s'/\D.nx σ' H'
 | .brk=>∃σ' H',Inv X pins σ' H' s'/\D.bk σ' H'
 | .cont=>∃σ' H',Inv X pins σ' H' s'/\D.ct σ' H'
 | .ret u=>∃v σ' H',Inv X pins σ' H' s'/\aB v u/\D.rt v H'
noncomputable def PE(X:Cx)(e:Expr)(t:TE):Prop:=
 ∀(pins:List (Addr×Obj))(s:Shared)(σ:St)(H:Hp)(Q:VK),Inv X pins σ H s->t σ H Q->wpAny (model X.prog X.w) X.A (eval e X.env) (EP X pins σ Q) X.xe s
noncomputable def PT(X:Cx)(e:Expr)(t:TT):Prop:=
 ∀(pins:List (Addr×Obj))(s:Shared)(σ:St)(H:Hp)(Q:Bool->Hp->Prop),Inv X pins σ H s->t σ H Q->wpAny (model X.prog X.w) X.A (isTrue e X.env (eval e X.env)) (TP X pins σ Q) X.xe s
noncomputable def PW(X:Cx)(e:Expr)(t:TT):Prop:=
 ∀(whole:Sem Value)(pins:List (Addr×Obj))(s:Shared)(σ:St)(H:Hp)(Q:Bool->Hp->Prop),Inv X pins σ H s->t σ H Q->wpAny (model X.prog X.w) X.A (isTrue e X.env whole) (TP X pins σ Q) X.xe s
theorem PW.pt{X:Cx}{e:Expr}{t:TT}(h:PW X e t):PT X e t:=h _
noncomputable def PA(X:Cx)(es:List Expr)(t:TA):Prop:=
 ∀(pos:Pos)(pins:List (Addr×Obj))(s:Shared)(σ:St)(H:Hp)(Q:List V->Hp->Prop),Inv X pins σ H s->t σ H Q->wpAny (model X.prog X.w) X.A (spliced (backTo pos (Fc es X.env))) (AP X pins σ Q) X.xe s
noncomputable def PS(X:Cx)(st:Stmt)(t:TS):Prop:=
 ∀(pins:List (Addr×Obj))(s:Shared)(σ:St)(H:Hp)(D:ij),Inv X pins σ H s->t D σ H->wpAny (model X.prog X.w) X.A (exec st X.env) (SP X pins D) X.xe s
noncomputable def PSs(X:Cx)(st:List Stmt)(t:TS):Prop:=
 ∀(pins:List (Addr×Obj))(s:Shared)(σ:St)(H:Hp)(D:ij),Inv X pins σ H s->t D σ H->wpAny (model X.prog X.w) X.A (execs st X.env) (SP X pins D) X.xe s
theorem thn{α:Type}{t:Sem α}{Q Q':α->Shared->Prop}{M:Model}{A:Around}{E:Value->Shared->Prop}{s:Shared}(h:wpAny M A t Q E s)(hQ:∀a s,Q a s->Q' a s):wpAny M A t Q' E s:=F7 h hQ fun _ _ x=>x
end L2
namespace L2
open PySem PySem.Spec PyProof.Rows
section
variable{X:Cx}
noncomputable def ae(i:Nat):TE:=fun σ H Q=>∃v,σ[i]?=some (some v)/\Q v H
noncomputable def tC(v:V):TE:=fun _ H Q=>Q v H
theorem Cr{i:Nat}{x:Str}{pos:Pos}(hN:X.N[i]?=some x)(hv:Vis X.env.scope x)(hd:(x==("__debug__":Str))=false:=by decide)(hcd:(x==("__classdict__":Str))=false:=by decide):PE X (.Name x pos) (ae i):=by
 intro pins s σ H Q I h;obtain⟨v,e,h⟩:=h;obtain⟨m,hn,hl⟩:=I.loc;obtain⟨u,r,l⟩:=hl i x v hN e hv;have fin:EP X pins σ Q u s:=⟨v,H,I,r,h⟩;rcases l with⟨hk,hm⟩|⟨hk,c,hc,hcell⟩
 ·exact OC (wpAny_loadName_local I.ok.kind hk hn hm fin) hd
 ·rcases hk with hk|hk
  ·exact OC (wpAny_loadName_cell I.ok.kind hk hc hcell fin) hd
  ·exact OC (wpAny_loadName_free I.ok.kind hk hc hcell fin hcd) hd
theorem ag{i j pos}:PE X (.Constant (.int i) j pos) (tC (.int i)):=fun _ _ _ H _ I h=>wpAny_Constant_int ⟨.int i,H,I.tok _,⟨_,rfl⟩,h⟩
theorem jc{b j pos}:PE X (.Constant (.bool b) j pos) (tC (.bl b)):=fun _ _ _ H _ I h=>Constant_bool ⟨.bl b,H,I,rfl,h⟩
theorem db{j pos}:PE X (.Constant .none j pos) (tC .non):=fun _ _ _ H _ I h=>Constant_none ⟨.non,H,I,rfl,h⟩
theorem jJ{x j pos}:PE X (.Constant (.str x) j pos) (tC (.str x)):=fun _ _ _ H _ I h=>KU ⟨.str x,H,I.tok _,⟨_,rfl⟩,h⟩
noncomputable def Gl(X:Cx)(x:Str):Prop:=X.env.kindOf x=some .globalImplicit
theorem oJ{E:Value->Shared->Prop}{pins:List (Addr×Obj)}{s:Shared}{σ:St}{H:Hp}{x:Str}{u:Value}{pos:Pos}{Q:Value->Shared->Prop}(I:Inv X pins σ H s)(hg:Gl X x)(hm:X.mg x=some u)(h:Q u s)
  (hd:(x==("__debug__":Str))=false:=by decide):wpAny (model X.prog X.w) X.A (eval (.Name x pos) X.env) Q E s:=
 Jf I.ok.kind hg (Mc (by rw[I.ok.glob];exact I.mod.glob.keeps I.bk) hm h) hd
theorem dC{E:Value->Shared->Prop}{pins:List (Addr×Obj)}{s:Shared}{σ:St}{H:Hp}{x:Str}{u:Value}{pos:Pos}{Q:Value->Shared->Prop}(I:Inv X pins σ H s)(hg:Gl X x)(hm:X.mg x=none)(hv:IJ x=some u)(h:Q u s)
  (hn:x≠"__name__":=by decide) (hd:(x==("__debug__":Str))=false:=by decide):wpAny (model X.prog X.w) X.A (eval (.Name x pos) X.env) Q E s:=by
 obtain⟨mb,h1,h2⟩:=I.mod.blt;exact Jf I.ok.kind hg (Calls.loadGlobal_builtin (by rw[I.ok.glob];exact I.mod.glob.keeps I.bk) hm (by rw[I.ok.blt];exact h1.keeps I.bk) ((h2 x hn).trans hv) h) hd
theorem dc{x:Str}{v:V}{u:Value}{pos:Pos}(hg:Gl X x)(hm:X.mg x=some u)(r:aB v u)(hd:(x==("__debug__":Str))=false:=by decide):PE X (.Name x pos) (tC v):=
 fun _ _ _ H _ I h=>oJ I hg hm ⟨v,H,I,r,h⟩ hd
theorem fG{x:Str}{v:V}{u:Value}{pos:Pos}(hg:Gl X x)(hm:X.mg x=none)(hv:IJ x=some u)(r:aB v u)(hn:x≠"__name__":=by decide)(hd:(x==("__debug__":Str))=false:=by decide):PE X (.Name x pos) (tC v):=
 fun _ _ _ H _ I h=>dC I hg hm hv ⟨v,H,I,r,h⟩ hn hd
variable{a b:Expr}{ta tb:TE}{pos:Pos}
noncomputable def tB(t:TE):TT:=fun σ H Q=>t σ H fun x H1=>∃c,x=.bl c/\Q c H1
theorem de{e:Expr}{t:TE}(h:PE X e t)(he:∀whole,isTrue e X.env whole=(do let v <-whole;standAt e.pos;holding [v] (truthy v)):=by intro _;rfl):PT X e (tB t):=by
 intro pins s σ H Q I hw;refine isTrue_plain (thn (h pins s σ H _ I hw) fun v s1 ⟨x,H1,I1,r1,q1⟩=>?_) (he _);obtain⟨d,rfl,q⟩:=q1;cases r1;exact GR ⟨H1,I1,q⟩
variable{tA tB':TT}{aY:List Expr}
noncomputable def qY(t u:TT):TT:=fun σ H Q=>t σ H fun c H1=>if c=true then u σ H1 Q else Q false H1
noncomputable def tOr(t u:TT):TT:=fun σ H Q=>t σ H fun c H1=>if c=true then Q true H1 else u σ H1 Q
noncomputable def gF(t:TT):TT:=fun σ H Q=>t σ H fun c H1=>Q (!c) H1
theorem oK(ha:PT X a tA):PW X (.BoolOp .And [a] pos) tA:=by
 intro wh pins s σ H Q I h;refine isTrue_and (thn (ha pins s σ H Q I h) fun c s1 e=>?_);cases c with
 |true=>exact isTrue_and_nil e
 |false=>exact e
theorem kN(ha:PT X a tA):PW X (.BoolOp .Or [a] pos) tA:=by
 intro wh pins s σ H Q I h;refine isTrue_or (thn (ha pins s σ H Q I h) fun c s1 e=>?_);cases c with
 |false=>exact isTrue_or_nil e
 |true=>exact e
theorem qZ(ha:PT X a tA)(hb:PW X (.BoolOp .And (b::aY) pos) tB'):PW X (.BoolOp .And (a::b::aY) pos) (qY tA tB'):=by
 intro wh pins s σ H Q I h;refine isTrue_and (thn (ha pins s σ H _ I h) fun c s1 ⟨H1,I1,q1⟩=>?_);cases c with
 |true=>exact hb wh pins s1 σ H1 Q I1 q1
 |false=>exact⟨H1,I1,q1⟩
theorem jZ(ha:PT X a tA)(hb:PW X (.BoolOp .Or (b::aY) pos) tB'):PW X (.BoolOp .Or (a::b::aY) pos) (tOr tA tB'):=by
 intro wh pins s σ H Q I h;refine isTrue_or (thn (ha pins s σ H _ I h) fun c s1 ⟨H1,I1,q1⟩=>?_);cases c with
 |true=>exact⟨H1,I1,q1⟩
 |false=>exact hb wh pins s1 σ H1 Q I1 q1
theorem d4(ha:PT X a tA):PT X (.UnaryOp .Not a pos) (gF tA):=by
 intro pins s σ H Q I h;exact isTrue_not (ha pins s σ H (fun c H1=>Q (!c) H1) I h)
noncomputable def j3(ta tb:TE):TE:=fun σ H Q=>ta σ H fun x H1=>∃c,x=.bl c/\if c=true then tb σ H1 Q else Q (.bl false) H1
noncomputable def qI(ta:TE):TE:=fun σ H Q=>ta σ H fun x H1=>∃c,x=.bl c/\Q (.bl (!c)) H1
theorem nh{op}{t:TE}(h:PE X a t):PE X (.BoolOp op [a] pos) t:=fun pins s σ H Q I hw=>BoolOp_one (h pins s σ H Q I hw)
theorem kO(ha:PE X a ta)(hb:PE X (.BoolOp .And (b::aY) pos) tb):PE X (.BoolOp .And (a::b::aY) pos) (j3 ta tb):=by
 intro pins s σ H Q I h;refine BoolOp_and (thn (ha pins s σ H _ I h) fun v s1 ⟨x,H1,I1,r1,q1⟩=>?_);obtain⟨c,rfl,q1⟩:=q1;cases r1;refine GR ?_;cases c with
 |true=>exact hb pins s1 σ H1 Q I1 q1
 |false=>exact⟨.bl false,H1,I1,rfl,q1⟩
theorem wP(ha:PE X a ta):PE X (.UnaryOp .Not a pos) (qI ta):=by
 intro pins s σ H Q I h;refine UnaryOp_ (thn (ha pins s σ H _ I h) fun v s1 ⟨x,H1,I1,r1,q1⟩=>?_);obtain⟨c,rfl,q1⟩:=q1;cases r1;exact not_of (GR ⟨.bl (!c),H1,I1,rfl,q1⟩)
noncomputable def tIf(t:TT)(ta tb:TE):TE:=fun σ H Q=>t σ H fun c H1=>if c=true then ta σ H1 Q else tb σ H1 Q
theorem yH{c:Expr}(hc:PT X c tA)(ha:PE X a ta)(hb:PE X b tb):PE X (.IfExp c a b pos) (tIf tA ta tb):=by
 intro pins s σ H Q I h;refine wpAny_IfExp (thn (hc pins s σ H _ I h) fun d s1 ⟨H1,I1,q1⟩=>?_);cases d with
 |true=>exact ha pins s1 σ H1 Q I1 q1
 |false=>exact hb pins s1 σ H1 Q I1 q1
end
end L2
namespace L2
open PySem PySem.Spec PyProof.Rows
noncomputable def SqL(K:Fg)(H:Hp)(a:Addr)(xs:List V):Prop:=
 Rd H a (.lst xs)\/
  ∃(o:Obj)(its:Array Value)(n:Nat),K.lookup a=some o/\o.cls=.type "list"/\o.dict=none/\o.data=.seq its n/\its.size<=E1/\aA xs its.toList
noncomputable def SqT(K:Fg)(H:Hp)(a:Addr)(xs:List V):Prop:=
 Rd H a (.tup xs)\/
  ∃(o:Obj)(its:Array Value)(n:Nat),K.lookup a=some o/\o.cls=.type "tuple"/\o.data=.seq its n/\its.size<=E1/\aA xs its.toList
noncomputable def Ee:Value->Option V
 | .none=>some .non
 | .bool b=>some (.bl b)
 | .int i _=>some (.int i)
 | .str x _=>some (.str x)
 | .bytes b _=>some (.byt b)
 | .float b _=>some (.flt b)
 | .ref a=>some (.ref a)
 | .type n=>some (.ty n)
 |_=>none
theorem aB.abs{x:V}{u:Value}(r:aB x u):Ee u=some x:=by
 cases x with
 |non=>cases r;rfl
 |bl _=>cases r;rfl
 |int _=>obtain⟨t,rfl⟩:=r;rfl
 |str _=>obtain⟨t,rfl⟩:=r;rfl
 |byt _=>obtain⟨t,rfl⟩:=r;rfl
 |flt _=>obtain⟨t,rfl⟩:=r;rfl
 |ref _=>cases r;rfl
 |ty _=>cases r;rfl
theorem aB.inj{x y:V}{u:Value}(r:aB x u)(q:aB y u):x=y:=Fd (r.abs.symm.trans q.abs)
theorem aA.inj{xs ys:List V}{us:List Value}(h:aA xs us):aA ys us->xs=ys:=by
 induction h generalizing ys with
 |nil=>intro h;cases h;rfl
 |cons r t ih=>intro h;cases h with
  |cons r' t'=>rw[r.inj r',ih t']
section
variable{X:Cx}{pins:List (Addr×Obj)}{σ:St}{H:Hp}{s:Shared}{a:Addr}{xs ys:List V}
theorem SqL.of{K:Fg}(h:H a=some (.lst xs)):SqL K H a xs:=.inl (.inl h)
theorem SqT.of{K:Fg}(h:H a=some (.tup xs)):SqT K H a xs:=.inl (.inl h)
theorem Inv.list(I:Inv X pins σ H s)(h:SqL X.K H a xs):∃its:List Value,aA xs its/\PlainL s.heap a its.toArray/\xs.length<=E1:=by
 rcases h with h|⟨o,its,n,hk,hc,hd,hs,hz,r⟩
 ·obtain⟨z,its,n,r,e⟩:=h.ok I.hok
  exact⟨its,r,⟨_,n,e,rfl,rfl,rfl⟩,z⟩
 ·refine⟨its.toList,r,⟨o,n,I.kIn a o hk,hc,hd,by simpa using hs⟩,?_⟩
  have e:=r.length;simp only[E9]at e;omega
theorem Inv.tuple(I:Inv X pins σ H s)(h:SqT X.K H a xs):∃its:List Value,aA xs its/\IsTup s.heap a its.toArray/\xs.length<=E1:=by
 rcases h with h|⟨o,its,n,hk,hc,hs,hz,r⟩
 ·obtain⟨z,its,r,p⟩:=h.ok I.hok
  exact⟨its,r,p.tup,z⟩
 ·refine⟨its.toList,r,⟨o,I.kIn a o hk,hc,n,by simpa using hs⟩,?_⟩
  have e:=r.length;simp only[E9]at e;omega
theorem Inv.list_inj(I:Inv X pins σ H s)(h:SqL X.K H a xs)(h':SqL X.K H a ys):xs=ys:=by
 obtain⟨its,r,⟨o,n,e,_,_,d⟩,_⟩:=I.list h;obtain⟨its',r',⟨o',n',e',_,_,d'⟩,_⟩:=I.list h';rw[e]at e';cases e';rw[d]at d';injection d' with d1 _
 have:its=its':=by simpa using congrArg Array.toList d1
 subst this;exact r.inj r'
theorem Inv.tuple_inj(I:Inv X pins σ H s)(h:SqT X.K H a xs)(h':SqT X.K H a ys):xs=ys:=by
 obtain⟨its,r,⟨o,e,_,n,d⟩,_⟩:=I.tuple h;obtain⟨its',r',⟨o',e',_,n',d'⟩,_⟩:=I.tuple h';rw[e]at e';cases e';rw[d]at d';injection d' with d1 _
 have:its=its':=by simpa using congrArg Array.toList d1
 subst this;exact r.inj r'
end
noncomputable abbrev Cx.wish(X:Cx)(E:Value->Shared->Prop):Cx:={ X with xe:=E }
noncomputable abbrev Cx.nox(X:Cx):Cx:=X.wish fun _ _=>False
theorem Cx.Ok.wish{X:Cx}(ok:X.Ok)(E:Value->Shared->Prop):(X.wish E).Ok:=
 ⟨ok.mod,ok.kind,ok.glob,ok.blt,ok.above,ok.inj,ok.has,ok.cab,ok.hd,ok.frames,ok.stk,ok.exf,ok.bs,ok.bsz,ok.noex,ok.exfs,ok.funs,ok.frf⟩
theorem Cx.Ok.unwish{X:Cx}{E:Value->Shared->Prop}(ok:(X.wish E).Ok):X.Ok:=
 ⟨ok.mod,ok.kind,ok.glob,ok.blt,ok.above,ok.inj,ok.has,ok.cab,ok.hd,ok.frames,ok.stk,ok.exf,ok.bs,ok.bsz,ok.noex,ok.exfs,ok.funs,ok.frf⟩
section
variable{X:Cx}{pins:List (Addr×Obj)}{σ:St}{H:Hp}{s:Shared}{E:Value->Shared->Prop}
theorem Inv.wish(I:Inv X pins σ H s)(E:Value->Shared->Prop):Inv (X.wish E) pins σ H s:=⟨I.ok.wish E,I.os,I.bare,I.base,I.loc,I.cell,I.free,I.freeC,I.pin,I.hok,I.len⟩
theorem Inv.unwish(I:Inv (X.wish E) pins σ H s):Inv X pins σ H s:=⟨I.ok.unwish,I.os,I.bare,I.base,I.loc,I.cell,I.free,I.freeC,I.pin,I.hok,I.len⟩
theorem SP.unwish{D:ij}{f:Flow}{s':Shared}(h:SP (X.wish E) pins D f s'):SP X pins D f s':=by
 cases f with
 |next=>obtain⟨σ',H',I,q⟩:=h;exact⟨σ',H',I.unwish,q⟩
 |brk=>obtain⟨σ',H',I,q⟩:=h;exact⟨σ',H',I.unwish,q⟩
 |cont=>obtain⟨σ',H',I,q⟩:=h;exact⟨σ',H',I.unwish,q⟩
 |ret u=>obtain⟨v,σ',H',I,r,q⟩:=h;exact⟨v,σ',H',I.unwish,r,q⟩
theorem PE.nox{e:Expr}{t:TE}(h:PE X.nox e t):PE X e t:=fun pins s σ H Q I hw=>
 F7 (h pins s σ H Q (I.wish _) hw) (fun _ _ ⟨v,H',I',r,q⟩=>⟨v,H',I'.unwish,r,q⟩) fun _ _ z=>G9 z
theorem PT.nox{e:Expr}{t:TT}(h:PT X.nox e t):PT X e t:=fun pins s σ H Q I hw=>
 F7 (h pins s σ H Q (I.wish _) hw) (fun _ _ ⟨H',I',q⟩=>⟨H',I'.unwish,q⟩) fun _ _ z=>G9 z
theorem PSs.nox{st:List Stmt}{t:TS}(h:PSs X.nox st t):PSs X st t:=fun pins s σ H D I hw=>
 F7 (h pins s σ H D (I.wish _) hw) (fun _ _ q=>q.unwish) fun _ _ z=>G9 z
end
section
variable{X:Cx}{st:Stmt}{aY:List Stmt}{t u:TS}{e:Expr}{te:TE}{pos:Pos}
noncomputable def bH:TS:=fun D σ H=>D.nx σ H
noncomputable def ax(t u:TS):TS:=fun D σ H=>t { D with nx:=u D } σ H
theorem bc:PSs X [] bH:=fun _ _ σ H _ I h=>Mj ⟨σ,H,I,h⟩
theorem ai(h1:PS X st t)(h2:PSs X aY u):PSs X (st::aY) (ax t u):=by
 intro pins s σ H D I h;refine LD (thn (h1 pins s σ H { D with nx:=u D } I h) fun f s1 q=>?_);cases f with
 |next=>
  obtain⟨σ',H',I',q⟩:=q;exact h2 pins s1 σ' H' D I' q
 |ret v=>exact q
 |brk=>exact q
 |cont=>exact q
theorem ao(h1:PS X st t):PSs X [st] t:=by
 intro pins s σ H D I h;refine LD (thn (h1 pins s σ H D I h) fun f s1 q=>?_);cases f with
 |next=>exact Mj q
 |ret v=>exact q
 |brk=>exact q
 |cont=>exact q
theorem Inv.quiet{pins:List (Addr×Obj)}{σ:St}{H:Hp}{s:Shared}(I:Inv X pins σ H s):interactive X.env=false:=by simp[interactive,I.ok.kind]
noncomputable def gT(te:TE):TS:=fun D σ H=>te σ H fun _ H1=>D.nx σ H1
theorem fH(he:PE X e te)(hs:Nw e none pos.line X.env=pure false:=by rfl):PS X (.Expr e pos) (gT te):=by
 intro pins s σ H D I h;exact wpAny_Expr_any (thn (he pins s σ H _ I h) fun v s1 ⟨x,H1,I1,r1,q1⟩=>⟨σ,H1,I1,q1⟩) I.quiet hs
noncomputable def bj(te:TE):TS:=fun D σ H=>te σ H D.rt
theorem aG(he:PE X e te):PS X (.Return (some e) pos) (bj te):=by
 intro pins s σ H D I h;exact wpAny_Return_some (thn (he pins s σ H _ I h) fun v s1 ⟨x,H1,I1,r1,q1⟩=>⟨x,σ,H1,I1,r1,q1⟩)
noncomputable def ck(c:TT)(t u:TS):TS:=fun D σ H=>c σ H fun b H1=>if b=true then t D σ H1 else u D σ H1
theorem bE{c:Expr}{a b:List Stmt}{tc:TT}(hc:PT X c tc)(ha:PSs X a t)(hb:PSs X b u):PS X (.If c a b pos) (ck tc t u):=by
 intro pins s σ H D I h;refine wpAny_If (thn (hc pins s σ H _ I h) fun d s1 ⟨H1,I1,q1⟩=>?_);cases d with
 |true=>exact ha pins s1 σ H1 D I1 q1
 |false=>exact hb pins s1 σ H1 D I1 q1
noncomputable def iP:TS:=fun _ _ _=>False
theorem mB:PS X st iP:=fun _ _ _ _ _ _ h=>h.elim
end
noncomputable abbrev TG:=V->St->Hp->(St->Hp->Prop)->Prop
noncomputable abbrev TGs:=List V->St->Hp->(St->Hp->Prop)->Prop
noncomputable def PG(X:Cx)(target:Expr)(t:TG):Prop:=
 ∀(pins:List (Addr×Obj))(s:Shared)(σ:St)(H:Hp)(v:V)(u:Value)(Q:St->Hp->Prop),Inv X pins σ H s->aB v u->t v σ H Q->
  wpAny (model X.prog X.w) X.A (assign target X.env u) (fun _ s'=>∃σ' H',Inv X pins σ' H' s'/\Q σ' H') X.xe s
noncomputable def PGs(X:Cx)(ts:List Expr)(t:TGs):Prop:=
 ∀(pins:List (Addr×Obj))(s:Shared)(σ:St)(H:Hp)(vs:List V)(us:List Value)(Q:St->Hp->Prop),Inv X pins σ H s->aA vs us->t vs σ H Q->
  wpAny (model X.prog X.w) X.A (assignInOrder ((Ki ts X.env).map (·.2)) us) (fun _ s'=>∃σ' H',Inv X pins σ' H' s'/\Q σ' H') X.xe s
noncomputable abbrev rc:=V->V->V->Hp->(Hp->Prop)->Prop
noncomputable def yI(X:Cx)(t:rc):Prop:=
 ∀(pins:List (Addr×Obj))(s:Shared)(σ:St)(H:Hp)(o i v:V)(ov iv u:Value)(Q:Hp->Prop),Inv X pins σ H s->aB o ov->aB i iv->aB v u->t o i v H Q->
  wpAny (model X.prog X.w) X.A (setItem ov iv u) (fun _ s'=>∃H',Inv X pins σ H' s'/\Q H') X.xe s
section
variable{X:Cx}{pos:Pos}
noncomputable def aj(i:Nat):TG:=fun v σ H Q=>Q (σ.set i (some v)) H
theorem gG{i:Nat}{x:Str}(hN:X.N.Nodup)(hi:X.N[i]?=some x)(hx:Loc X.env.scope x)(hf:X.fn x=true\/X.env.scope.names.lookup x=some .local:=by first|exact .inl rfl|exact .inr rfl|assumption):PG X (.Name x pos) (aj i):=by
 intro pins s σ H v u Q I r h;exact NM (mz I hN hi hx r (fun s' I'=>⟨_,H,I',h⟩) hf)
noncomputable def dO:TGs:=fun vs σ H Q=>vs=[]/\Q σ H
noncomputable def be(t:TG)(u:TGs):TGs:=fun vs σ H Q=>∃v r,vs=v::r/\t v σ H fun σ' H'=>u r σ' H' Q
theorem cb:PGs X [] dO:=by
 intro pins s σ H vs us Q I r h;obtain⟨e,h⟩:=h;subst e;cases r;exact assignInOrder_nil ⟨σ,H,I,h⟩
theorem aO{e:Expr}{es:List Expr}{t:TG}{u:TGs}(h1:PG X e t)(h2:PGs X es u)
  (hs:(Ki (e::es) X.env).map (·.2)=assign e X.env::(Ki es X.env).map (·.2):=by rfl):PGs X (e::es) (be t u):=by
 intro pins s σ H vs us Q I r h;obtain⟨v,vr,e1,h⟩:=h;subst e1;cases r with
 |cons r rr=>
  rw[hs];refine assignInOrder_cons (thn (h1 pins s σ H _ _ _ I r h) fun _ s1 ⟨σ1,H1,I1,q1⟩=>?_);exact h2 pins s1 σ1 H1 _ _ Q I1 rr q1
noncomputable def dP(K:Fg)(n:Nat)(t:TGs):TG:=fun v σ H Q=>∃a xs,v=.ref a/\SqT K H a xs/\xs.length=n/\t xs σ H Q
theorem cC{es:List Expr}{k:Nat}{t:TGs}{n:Nat}(hc:X.calm=true)(h:PGs X es t)
  (hn:(Ki es X.env).length=n:=by rfl) (hst:(Ki es X.env).findIdx? (·.1)=none:=by rfl):PG X (.Tuple es k pos) (dP X.K n t):=by
 intro pins s σ H v u Q I r hw;obtain⟨a,xs,e1,hq,hl,hw⟩:=hw;subst e1;cases r;obtain⟨its,rv,ht,hz⟩:=I.tuple hq;refine assign_Tuple_tuple (I.ok.hd hc) ht (by simp[hn,<-hl,rv.length]) hst fun h' hx=>?_;have I1:Inv X pins σ H { s with heap:=h' }:=I.kept (t':=s.toks) fun b o e=>hx b o (Fi (EN e)) e;exact h pins _ σ H xs _ Q I1 (by simpa using rv) hw
noncomputable def uW(to ti:TE)(t:rc):TG:=fun v σ H Q=>to σ H fun o H1=>ti σ H1 fun i H2=>t o i v H2 fun H3=>Q σ H3
theorem wQ{o i:Expr}{to ti:TE}{t:rc}(ho:PE X o to)(hi:PE X i ti)(hs:yI X t)
  (ha:∀v,assign (.Subscript o i pos) X.env v=(do
   let ov <-holding [v] (eval o X.env)
   let iv <-holding [v,ov] (eval i X.env)
   standAt pos
   holding [v,ov,iv] (setItem ov iv v)
   release [v,ov,iv] []):=by intro _;rfl):PG X (.Subscript o i pos) (uW to ti t):=by
 intro pins s σ H v u Q I r h;rw[ha];refine EF (FV (thn (ho pins s σ H _ I h) fun ov s1 ⟨x,H1,I1,r1,q1⟩=>?_));refine EF (FV (thn (hi pins s1 σ H1 _ I1 q1) fun iv s2 ⟨y,H2,I2,r2,q2⟩=>?_));refine EF (Lf (EF (FV (thn (hs pins s2 σ H2 x y v ov iv u _ I2 r1 r2 r q2) fun _ s3 ⟨H3,I3,q3⟩=>?_))));exact wpAny_release ⟨σ,H3,I3,q3⟩
noncomputable def aF(te:TE)(g:TG):TS:=fun D σ H=>te σ H fun x H1=>g x σ H1 D.nx
theorem iQ{tg e:Expr}{te:TE}{g:TG}(he:PE X e te)(hg:PG X tg g)(hs:swapsWithSole [tg] e pos.line X.env=pure false:=by rfl)(hw:swappedStores [tg] e X.env=pure none:=by rfl)
  (h1:(Ki [tg] X.env).map (·.2)=[assign tg X.env]:=by rfl):PS X (.Assign [tg] e pos) (aF te g):=by
 intro pins s σ H D I h;refine wpAny_Assign_stores (thn (he pins s σ H _ I h) fun v s1 ⟨x,H1,I1,r1,q1⟩=>?_) hs hw;rw[h1];exact thn (hg pins s1 σ H1 x v _ I1 r1 q1) fun _ s2 q=>q
theorem fT{i:Nat}{x:Str}{e:Expr}{te:TE}{pos':Pos}(hN:X.N.Nodup)(hi:X.N[i]?=some x)(hx:Loc X.env.scope x)(he:PE X e te)(hs:Nw e (some (.Name x pos')) pos.line X.env=pure false:=by rfl)(hf:X.fn x=true\/X.env.scope.names.lookup x=some .local:=by first|exact .inl rfl|exact .inr rfl|assumption):
  PS X (.Assign [.Name x pos'] e pos) (aF te (aj i)):=by
 intro pins s σ H D I h;refine wpAny_Assign_Name (thn (he pins s σ H _ I h) fun v s1 ⟨y,H1,I1,r1,q1⟩=>?_) hs;exact mz I1 hN hi hx r1 (fun s2 I2=>⟨_,H1,I2,q1⟩) hf
end
section
variable{X:Cx}{pos:Pos}
end
set_option genInjectivity false in
structure It where
 go:Nat->Hp->Prop
 yld:Nat->Hp->V->Hp->Prop
 stop:Nat->Hp->Prop
noncomputable def ik(X:Cx)(pins:List (Addr×Obj))(H:Hp)(b:Addr):Prop:=
 H b=none/\b≠X.env.locals/\b∉X.fs/\(b∈X.ex\/X.s₀.heap.objs.size<=b)/\(∀x c,X.env.cells.lookup x=some c->c≠b)/\∀p∈X.pn++pins,p.1≠b
theorem Inv.fpOk{X:Cx}{pins:List (Addr×Obj)}{σ:St}{H H':Hp}{s:Shared}{b:Addr}(I:Inv X pins σ H s)(hb:s.heap.objs.size<=b)(hn:H' b=none):ik X pins H' b:=by
 refine⟨hn,G5 (E8 I.lt hb),I.nofs hb,.inr (Fz I.sz hb),fun x c e z=>?_,fun p hp z=>?_⟩
 ·obtain⟨v,q⟩:=I.cell x c e
  exact absurd (E8 q.lt (by rw[z];exact hb)) (FM _)
 ·exact absurd (E8 (EN (I.pin p hp).1) (by rw[z];exact hb)) (FM _)
structure mC(P:Program)(w:World)(K:Fg)(tg:Expr)(J:It)(fp:List Addr)(it:Addr)(tn:Nat->Heap->Prop):Prop where
 mem:it∈fp
 obj:∀i h,tn i h->∀b∈fp,∃o,h.get? b=some o/\∀v,o.data≠.cell v
 keep:∀i h h',tn i h->(∀b∈fp,∀o,h.get? b=some o->h'.get? b=some o)->tn i h'
 item:∀(X:Cx),X.prog=P->X.w=w->X.K=K->X.calm=true->∀(i:Nat)(pins:List (Addr×Obj))(s:Shared)(σ:St)(H:Hp)(E:Value->Shared->Prop),Inv X pins σ H s->(∀b∈fp,ik X pins H b)->tn i s.heap->J.go i H->
  wpAny (model P w) X.A (pyNext (.ref it)) (fun r s1=>∃u,r=some u/\
   wpAny (model P w) X.A (Kj tg (.ref it) u) (fun _ s2=>∃x H',Inv X pins σ H' s2/\aB x u/\J.yld i H x H'/\tn (i+1) s2.heap/\∀b∈fp,H' b=none) E s1) E s
 done:∀(X:Cx),X.prog=P->X.w=w->X.K=K->X.calm=true->∀(i:Nat)(pins:List (Addr×Obj))(s:Shared)(σ:St)(H:Hp)(E:Value->Shared->Prop),Inv X pins σ H s->(∀b∈fp,ik X pins H b)->tn i s.heap->J.stop i H->
  wpAny (model P w) X.A (pyNext (.ref it)) (fun r s1=>r=none/\Inv X pins σ H s1) E s
 self:∀(A:Around)(i:Nat)(s:Shared)(Q:Value->Shared->Prop)(E:Value->Shared->Prop),tn i s.heap->Q (.ref it) s->wpAny (model P w) A (pyIter (.ref it)) Q E s
noncomputable abbrev TI:=St->Hp->(It->Hp->Prop)->Prop
noncomputable def PIE(X:Cx)(pins:List (Addr×Obj))(σ:St)(tg:Expr)(R:It->Hp->Prop)(itv:Value)(s2:Shared):Prop:=
 ∃(it:Addr)(fp:List Addr)(tn:Nat->Heap->Prop)(J:It)(H':Hp),itv=.ref it/\Inv X pins σ H' s2/\mC X.prog X.w X.K tg J fp it tn/\tn 0 s2.heap/\(∀b∈fp,ik X pins H' b)/\R J H'
noncomputable def PI(X:Cx)(tg iter:Expr)(wi:TI):Prop:=
 ∀(pins:List (Addr×Obj))(s:Shared)(σ:St)(H:Hp)(R:It->Hp->Prop),Inv X pins σ H s->wi σ H R->
  wpAny (model X.prog X.w) X.A (eval iter X.env) (fun v s1=>wpAny (model X.prog X.w) X.A (pyIter v) (PIE X pins σ tg R) X.xe s1) X.xe s
theorem uX{M: Model}{A: Around}{E: Value → Shared → Prop}{s: Shared}{tg: Expr}{it: Addr}{u: Value}{o: Obj}{n: String}{vs: Array Value}{Q: Unit → Shared → Prop}(ho: s.heap.get? it= some o)(hc: o.cls= .type n)(hd: o.data= .fields vs)
    (hn: ["enumerate", "zip", "dict_itemiterator", "dict_reverseitemiterator", "odict_iterator", "itertools.zip_longest", "itertools.pairwise"].contains n= false) (hQ: Q () s): wpAny M A (Kj tg (.ref it) u) Q E s:= by
  unfold Kj;cases tg<;>first
    |exact EJ hQ
    | (cases u<;>first
        |exact EJ hQ
        | (refine EF (OD ho ?_)
           rw[hc, hd];show wpAny M A (if(["enumerate", "zip", "dict_itemiterator", "dict_reverseitemiterator", "odict_iterator", "itertools.zip_longest", "itertools.pairwise"].contains n&&vs[0]? ==some (rawInt _))= true then _ else _) Q E s;rw[if_neg (by intro h;rw[hn, KC]at h;cases h)];exact EJ hQ))
noncomputable def Itl(K:Fg)(a:Addr):It:=
 ⟨fun i H=>∃xs x,SqL K H a xs/\xs[i]?=some x,fun i H x H'=>H'=H/\∀xs,SqL K H a xs->xs[i]?=some x,fun i H=>∃xs,SqL K H a xs/\xs.length<=i⟩
noncomputable def Itt(K:Fg)(a:Addr):It:=
 ⟨fun i H=>∃xs x,SqT K H a xs/\xs[i]?=some x,fun i H x H'=>H'=H/\∀xs,SqT K H a xs->xs[i]?=some x,fun i H=>∃xs,SqT K H a xs/\xs.length<=i⟩
noncomputable def Itr(lo:Int)(n:Nat):It:=⟨fun i _=>i<n,fun i H x H'=>H'=H/\x=.int (lo+i),fun i _=>n<=i⟩
theorem wR{P:Program}{w:World}{K:Fg}{tg:Expr}(a it:Addr):mC P w K tg (Itl K a) [it] it (fun i h=>h.IsListIter it a i) where
 mem:=by simp
 obj:=fun i h st b hb=>by
  have e:b=it:=by simpa using hb
  subst e;obtain⟨o,e,c,d⟩:=st;exact⟨o,e,fun v z=>by rw[d]at z;cases z⟩
 keep:=fun i h h' st k=>st.at fun o e=>k it (by simp) o e
 item:=by
  intro X hP hw hK hc i pins s σ H E I hf st hg;subst hP hw hK;obtain⟨xs,x,hq,hx⟩:=hg;obtain⟨its,rv,p,hz⟩:=I.list hq;obtain⟨u,hu,ru⟩:=rv.get hx;obtain⟨f0,f1,f2,f3,f4,f5⟩:=hf it (by simp);refine wpAny_pyNext_list_item st p.isList (x:=u) (by simpa using hu) fun h' st' sb=>?_;have I1:Inv X pins σ H { s with heap:=h' }:=I.turned (t':=s.toks) (fun b o hb e=>(sb.2 b hb).trans e) f0 f1 f3 f4 f5;obtain⟨o,e,c,d⟩:=id st';exact⟨u,rfl,uX (s:={ s with heap:=h' }) e c d (by decide) ⟨x,H,I1,ru,⟨rfl,fun ys hy=>by rw[I.list_inj hy hq];exact hx⟩,st',fun b hb=>(hf b hb).1⟩⟩
 done:=by
  intro X hP hw hK hc i pins s σ H E I hf st hg;subst hP hw hK;obtain⟨xs,hq,hx⟩:=hg;obtain⟨its,rv,p,hz⟩:=I.list hq;obtain⟨f0,f1,f2,f3,f4,f5⟩:=hf it (by simp);have hl:=rv.length;exact wpAny_pyNext_list_end (I.ok.hd hc) st p.isList (by simp;omega) fun h' eb=>⟨rfl,I.turned (t':=s.toks) (fun b o hb e=>eb b o hb e) f0 f1 f3 f4 f5⟩
 self:=fun _ _ _ _ _ st h=>wpAny_pyIter_listiter st h
theorem uY{P:Program}{w:World}{K:Fg}{tg:Expr}(a it:Addr):mC P w K tg (Itt K a) [it] it (fun i h=>h.IsTupleIter it a i) where
 mem:=by simp
 obj:=fun i h st b hb=>by
  have e:b=it:=by simpa using hb
  subst e;obtain⟨o,e,c,d⟩:=st;exact⟨o,e,fun v z=>by rw[d]at z;cases z⟩
 keep:=fun i h h' st k=>st.at fun o e=>k it (by simp) o e
 item:=by
  intro X hP hw hK hc i pins s σ H E I hf st hg;subst hP hw hK;obtain⟨xs,x,hq,hx⟩:=hg;obtain⟨its,rv,p,hz⟩:=I.tuple hq;obtain⟨u,hu,ru⟩:=rv.get hx;obtain⟨f0,f1,f2,f3,f4,f5⟩:=hf it (by simp);refine wpAny_pyNext_tuple_item st (show s.heap.IsTuple a its.toArray from p) (x:=u) (by simpa using hu) fun h' st' sb=>?_;have I1:Inv X pins σ H { s with heap:=h' }:=I.turned (t':=s.toks) (fun b o hb e=>(sb.2 b hb).trans e) f0 f1 f3 f4 f5;obtain⟨o,e,c,d⟩:=id st';exact⟨u,rfl,uX (s:={ s with heap:=h' }) e c d (by decide) ⟨x,H,I1,ru,⟨rfl,fun ys hy=>by rw[I.tuple_inj hy hq];exact hx⟩,st',fun b hb=>(hf b hb).1⟩⟩
 done:=by
  intro X hP hw hK hc i pins s σ H E I hf st hg;subst hP hw hK;obtain⟨xs,hq,hx⟩:=hg;obtain⟨its,rv,p,hz⟩:=I.tuple hq;obtain⟨f0,f1,f2,f3,f4,f5⟩:=hf it (by simp);have hl:=rv.length;exact wpAny_pyNext_tuple_end (I.ok.hd hc) st (show s.heap.IsTuple a its.toArray from p) (by simp;omega) fun h' eb=>⟨rfl,I.turned (t':=s.toks) (fun b o hb e=>eb b o hb e) f0 f1 f3 f4 f5⟩
 self:=fun _ _ _ _ _ st h=>wpAny_pyIter_tupleiter st h
theorem uZ{P:Program}{w:World}{K:Fg}{tg:Expr}(it:Addr)(lo:Int)(n:Nat):mC P w K tg (Itr lo n) [it] it (fun i h=>IsRangeIter h it (lo+(i:Nat)*1) ((n:Int)-(i:Nat)) 1) where
 mem:=by simp
 obj:=fun i h st b hb=>by
  have e:b=it:=by simpa using hb
  subst e;exact⟨_,st,fun v z=>by
   have z':Data.fields _=Data.cell v:=z;cases z'⟩
 keep:=fun i h h' st k=>k it (by simp) _ st
 item:=by
  intro X hP hw hK hc i pins s σ H E I hf st hg;subst hP hw hK;obtain⟨f0,f1,f2,f3,f4,f5⟩:=hf it (by simp);have W:=Walks.range (prog:=X.prog) (w:=X.w) (I.ok.hd hc) it lo 1 n;refine W.item i s _ _ hg st fun v h' tk hv st' kk=>?_;obtain⟨t,rfl⟩:=hv;have I1:Inv X pins σ H { s with heap:=h',toks:=tk }:=I.turned (fun b o hb e=>kk b o (by simpa using hb) e) f0 f1 f3 f4 f5;refine⟨_,rfl,uX (s:={ s with heap:=h',toks:=tk }) (n:="range_iterator") st' rfl rfl (by decide) ⟨.int (lo+i),H,I1,⟨t,?_⟩,⟨rfl,rfl⟩,st',fun b hb=>(hf b hb).1⟩⟩;rw[Int.mul_one]
 done:=by
  intro X hP hw hK hc i pins s σ H E I hf st hg;subst hP hw hK;obtain⟨f0,f1,f2,f3,f4,f5⟩:=hf it (by simp);exact wpAny_pyNext_range_end (I.ok.hd hc) st (by have:n<=i:=hg;omega) fun h' eb=>⟨rfl,I.turned (t':=s.toks) (fun b o hb e=>eb b o hb e) f0 f1 f3 f4 f5⟩
 self:=fun _ _ _ _ _ st h=>wpAny_pyIter_rangeiter st h
end L2
namespace L2
open PySem PySem.Spec PyProof.Rows
section
variable{X:Cx}{tg:Expr}
noncomputable def cJ(K:Fg)(tl:TE):TI:=fun σ H R=>tl σ H fun x H1=>∃a,x=.ref a/\(∃xs,SqL K H1 a xs)/\R (Itl K a) H1
noncomputable def yJ(K:Fg)(tl:TE):TI:=fun σ H R=>tl σ H fun x H1=>∃a,x=.ref a/\(∃xs,SqT K H1 a xs)/\R (Itt K a) H1
theorem cf{l:Expr}{tl:TE}(hl:PE X l tl):PI X tg l (cJ X.K tl):=by
 intro pins s σ H R I h;refine thn (hl pins s σ H _ I h) fun v s1 ⟨x,H1,I1,r1,q1⟩=>?_;obtain⟨a,e,⟨xs,hq⟩,q⟩:=q1;subst e;cases r1;obtain⟨its,rv,p,hz⟩:=I1.list hq;refine IE p.isList ?_;refine⟨s1.heap.objs.size,[s1.heap.objs.size],_,_,H1,rfl,I1.kept (t':=s1.toks) fun b o e=>EH _ e,wR a _,⟨_,ES _ rfl,rfl,rfl⟩,fun b hb=>?_,q⟩;have e:b=s1.heap.objs.size:=by simpa using hb
 subst e;exact I1.fpOk (EM _) (I1.hok.fresh (EM _))
theorem Cs{l:Expr}{tl:TE}(hl:PE X l tl):PI X tg l (yJ X.K tl):=by
 intro pins s σ H R I h;refine thn (hl pins s σ H _ I h) fun v s1 ⟨x,H1,I1,r1,q1⟩=>?_;obtain⟨a,e,⟨xs,hq⟩,q⟩:=q1;subst e;cases r1;obtain⟨its,rv,p,hz⟩:=I1.tuple hq;refine Jw (show s1.heap.IsTuple a its.toArray from p) ?_;refine⟨s1.heap.objs.size,[s1.heap.objs.size],_,_,H1,rfl,I1.kept (t':=s1.toks) fun b o e=>EH _ e,uY a _,⟨_,ES _ rfl,rfl,rfl⟩,fun b hb=>?_,q⟩;have e:b=s1.heap.objs.size:=by simpa using hb
 subst e;exact I1.fpOk (EM _) (I1.hok.fresh (EM _))
theorem re{pins:List (Addr×Obj)}{σ:St}{H:Hp}{s:Shared}{R:It->Hp->Prop}{E:Value->Shared->Prop}{lo hi:Int}{t u v:Tok}{tk:Nat}(I:Inv X pins σ H s)(h1:-(2^62)<=lo)(h2:lo<2^62)(h3:-(2^62)<=hi)(h4:hi<2^62)
  (q:R (Itr lo (hi-lo).toNat) H):wpAny (model X.prog X.w) X.A (pyIter (.ref s.heap.objs.size)) (PIE X pins σ tg R) E { s with heap:=s.heap.push { cls:=.type "range",data:=.fields #[.int lo t,.int hi u,.int 1 v] },toks:=tk }:=by
 refine wpAny_pyIter_range (IsRange.new ..) (small_one h1 h2 h3 h4) ?_;have I1:Inv X pins σ H { s with heap:=s.heap.push { cls:=.type "range",data:=.fields #[.int lo t,.int hi u,.int 1 v] },toks:=tk }:=I.kept fun b o e=>EH _ e;refine⟨(s.heap.push { cls:=.type "range",data:=.fields #[.int lo t,.int hi u,.int 1 v] }).objs.size,[(s.heap.push { cls:=.type "range",data:=.fields #[.int lo t,.int hi u,.int 1 v] }).objs.size],_,_,H,rfl,
  I1.kept (t':=tk) fun b o e=>EH _ e,uZ _ lo (hi-lo).toNat,?_,fun b hb=>?_,q⟩
 ·have e1:lo+((0:Nat):Int)*1=lo:=by simp
  have e2:(((hi-lo).toNat:Nat):Int)-((0:Nat):Int)=Builtin.Range.rangeSize lo hi 1:=by rw[rangeSize_one];split<;>omega
  show IsRangeIter _ _ (lo+((0:Nat):Int)*1) ((((hi-lo).toNat:Nat):Int)-((0:Nat):Int)) 1;rw[e1,e2];exact ES _ rfl
 ·have e:b=(s.heap.push { cls:=.type "range",data:=.fields #[.int lo t,.int hi u,.int 1 v] }).objs.size:=by simpa using hb
  subst e;exact I1.fpOk (EM _) (I1.hok.fresh (EM _))
noncomputable def cv(ta:TA):TI:=fun σ H R=>ta σ H fun vs H1=>∃j:Int,vs=[.int j]/\-(2^62)<=j/\j<2^62/\R (Itr 0 j.toNat) H1
noncomputable def u8(ta:TA):TI:=fun σ H R=>ta σ H fun vs H1=>∃i j:Int,vs=[.int i,.int j]/\(-(2^62)<=i/\i<2^62/\-(2^62)<=j/\j<2^62)/\R (Itr i (j-i).toNat) H1
theorem bn{a:Expr}{ta:TA}{p pos:Pos}(hg:Gl X "range")(hm:X.mg "range"=none)(ha:PA X [a] ta)(hs:Fc [a] X.env=[(false,eval a X.env)]:=by rfl):PI X tg (.Call (.Name "range" p) [a] [] pos) (cv ta):=by
 intro pins s σ H R I h;refine Call_ (dC I hg hm OE (Gh (thn (ha pos pins s σ H _ I h) fun us s1 ⟨vs,H1,I1,r1,q1⟩=>?_) hs rfl));obtain⟨j,e,q1,q2,q⟩:=q1;subst e;cases r1 with
 |cons r rr=>
  cases rr;obtain⟨t,rfl⟩:=r;exact call_range_1 (re I1 (by omega) (by omega) q1 q2 (by simpa using q))
theorem wS{a b:Expr}{ta:TA}{p pos:Pos}(hg:Gl X "range")(hm:X.mg "range"=none)(ha:PA X [a,b] ta)(hs:Fc [a,b] X.env=[(false,eval a X.env),(false,eval b X.env)]:=by rfl)(hs2:Fc [b] X.env=[(false,eval b X.env)]:=by rfl):
  PI X tg (.Call (.Name "range" p) [a,b] [] pos) (u8 ta):=by
 intro pins s σ H R I h;refine Call_ (dC I hg hm OE (Gh (thn (ha pos pins s σ H _ I h) fun us s1 ⟨vs,H1,I1,r1,q1⟩=>?_) (by rw[hs,hs2]) (by rw[hs2];rfl)));obtain⟨i,j,e,⟨q1,q2,q3,q4⟩,q⟩:=q1;subst e;cases r1 with
 |cons r rr=>
  cases rr with
  |cons r' rr=>
   cases rr;obtain⟨t,rfl⟩:=r;obtain⟨t',rfl⟩:=r';exact call_range_2 (re I1 q1 q2 q3 q4 q)
noncomputable def cp(wi:TI)(g:TG)(tb:TS):TS:=fun D σ H=>wi σ H fun J H1=>∃W:Nat->Nat->St->Hp->Prop,(∃m,W 0 m σ H1)/\∀i m σ H,W i m σ H->
 (J.stop i H/\D.nx σ H)\/(J.go i H/\∃N:St->Hp->Prop,(∀σ' H',N σ' H'->∃m',m'<m/\W (i+1) m' σ' H')/\∀x H',J.yld i H x H'->g x σ H' fun σ2 H2=>tb { D with nx:=N,ct:=N,bk:=D.nx } σ2 H2)
noncomputable def kP(fp:List Addr)(h:Heap):List (Addr×Obj):=fp.filterMap fun b=>(h.get? b).map fun o=>(b,o)
theorem iw{fp:List Addr}{h:Heap}{b:Addr}{o:Obj}(hb:b∈fp)(e:h.get? b=some o):(b,o)∈kP fp h:=HF.mpr ⟨b,hb,by rw[e];rfl⟩
theorem wT{fp:List Addr}{h:Heap}{p:Addr×Obj}(hp:p∈kP fp h):p.1∈fp/\h.get? p.1=some p.2:=by
 obtain⟨b,hb,e⟩:=HF.mp hp;cases q:h.get? b with
 |none=>rw[q]at e;cases e
 |some o=>
  rw[q]at e;have e':(b,o)=p:=Fd e;subst e';exact⟨hb,q⟩
theorem Inv.pinned{pins:List (Addr×Obj)}{σ:St}{H:Hp}{s:Shared}{fp:List Addr}(I:Inv X pins σ H s)(hf:∀b∈fp,ik X pins H b)(ho:∀b∈fp,∃o,s.heap.get? b=some o/\∀v,o.data≠.cell v):Inv X (pins++kP fp s.heap) σ H s:=
 I.pins_of fun p hp=>(FC.mp hp).elim (fun z=>I.pin p (FY _ z)) fun z=>by
  obtain⟨hb,e⟩:=wT z;obtain⟨f0,f1,f2,_⟩:=hf p.1 hb;obtain⟨o,e',d⟩:=ho p.1 hb;rw[e]at e';cases e';exact⟨e,f0,f1,f2,d⟩
theorem Inv.unpinned{pins pl:List (Addr×Obj)}{σ:St}{H:Hp}{s:Shared}(I:Inv X (pins++pl) σ H s):Inv X pins σ H s:=I.pins_of fun p hp=>I.pin p (FY _ (F6 _ hp))
theorem bv{iter:Expr}{body:List Stmt}{wi:TI}{g:TG}{tb:TS}{pos:Pos}(hp:F9 (model X.prog X.w) X.A X.env X.xe)(hc:X.calm=true)(hi:PI X tg iter wi)(hg:PG X tg g)(hb:PSs X body tb)
  (hs:∀x,Lq iter X.env x=pure x:=by intro _;rfl):PS X (.For tg iter body [] pos) (cp wi g tb):=by
 intro pins s σ H D I h;refine wpAny_For (thn (hi pins s σ H _ I h) fun v s1 h1=>thn h1 fun itv s2 h2=>?_) hs;obtain⟨it,fp,tn,J,H2,e,I2,T,st2,f2,W,⟨m0,w0⟩,turn⟩:=h2;subst e;have stat:∀{H':Hp},(∀b∈fp,H' b=none)->∀b∈fp,ik X pins H' b:=fun hn b hb=>⟨hn b hb,(f2 b hb).2⟩;refine codeAny_forLoop_any (fun n s'=>∃i σ' H',Inv X pins σ' H' s'/\tn i s'.heap/\(∀b∈fp,H' b=none)/\W i n σ' H') ?_ m0 ⟨0,σ,H2,I2,st2,fun b hb=>(f2 b hb).1,w0⟩;rintro n s3 ⟨i,σ3,H3,I3,st3,fr3,w3⟩;rcases turn i n σ3 H3 w3 with⟨stop,qn⟩|⟨go,N,hN,step⟩
 ·refine Jq hp (thn (T.done X rfl rfl rfl hc i pins s3 σ3 H3 X.xe I3 (stat fr3) st3 stop) fun r s4 ⟨hr,I4⟩=>?_)
  subst hr;exact Mj ⟨σ3,H3,I4,qn⟩
 ·refine Jq hp (thn (T.item X rfl rfl rfl hc i pins s3 σ3 H3 X.xe I3 (stat fr3) st3 go) fun r s4 ⟨u,hr,h4⟩=>?_)
  subst hr;refine Jq hp (thn h4 fun _ s5 ⟨x,H5,I5,r5,y5,st5,fr5⟩=>?_);have I5':=I5.pinned (stat fr5) (T.obj _ _ st5);refine Jq hp (thn (hg _ s5 σ3 H5 x u _ I5' r5 (step x H5 y5)) fun _ s6 ⟨σ6,H6,I6,q6⟩=>?_);refine Jq hp (thn (hb _ s6 σ6 H6 _ I6 q6) fun f s7 q7=>?_);have again:∀{σ7:St} {H7:Hp},Inv X (pins++kP fp s5.heap) σ7 H7 s7->N σ7 H7->∃m,m<n/\∃i σ' H',Inv X pins σ' H' s7/\tn i s7.heap/\(∀b∈fp,H' b=none)/\W i m σ' H':=fun{σ7 H7} I7 n7=>by
   obtain⟨m',hm,w7⟩:=hN σ7 H7 n7;refine⟨m',hm,i+1,σ7,H7,I7.unpinned,T.keep _ _ _ st5 fun b hb o e=>(I7.pin (b,o) (FY _ (FY _ (iw hb e)))).1,fun b hb=>?_,w7⟩;obtain⟨o,e,d⟩:=T.obj _ _ st5 b hb;exact(I7.pin (b,o) (FY _ (FY _ (iw hb e)))).2.1
  cases f with
  |next=>obtain⟨σ7,H7,I7,n7⟩:=q7;exact again I7 n7
  |cont=>obtain⟨σ7,H7,I7,n7⟩:=q7;exact again I7 n7
  |brk=>obtain⟨σ7,H7,I7,q7⟩:=q7;exact⟨σ7,H7,I7.unpinned,q7⟩
  |ret v=>obtain⟨x7,σ7,H7,I7,r7,q7⟩:=q7;exact⟨x7,σ7,H7,I7.unpinned,r7,q7⟩
end
theorem mD{K:Fg}{a:Addr}{xs:List V}{g:TG}{tb:TS}{D:ij}{σ:St}{H:Hp}(Pv:Nat->St->Hp->Prop)(h0:Pv 0 σ H)(hl:∀i σ H,i<=xs.length->Pv i σ H->SqL K H a xs)
  (hs:∀i x σ H,xs[i]?=some x->Pv i σ H->g x σ H fun σ2 H2=>tb { D with nx:=Pv (i+1),ct:=Pv (i+1),bk:=D.nx } σ2 H2) (hd:∀σ H,Pv xs.length σ H->D.nx σ H):
  ∃W:Nat->Nat->St->Hp->Prop,(∃m,W 0 m σ H)/\∀i m σ H,W i m σ H->
   ((Itl K a).stop i H/\D.nx σ H)\/((Itl K a).go i H/\∃N:St->Hp->Prop,(∀σ' H',N σ' H'->∃m',m'<m/\W (i+1) m' σ' H')/\∀x H',(Itl K a).yld i H x H'->g x σ H' fun σ2 H2=>tb { D with nx:=N,ct:=N,bk:=D.nx } σ2 H2):=by
 refine⟨fun i m σ H=>m=xs.length-i/\i<=xs.length/\Pv i σ H,⟨xs.length,by simp,Fy _,h0⟩,?_⟩;rintro i m σ H ⟨rfl,hi,p⟩;have q:=hl i σ H hi p;by_cases hlt:i<xs.length
 ·refine .inr ⟨⟨xs,xs[i],q,by simp[hlt]⟩,Pv (i+1),fun σ' H' p'=>⟨xs.length-(i+1),by omega,rfl,hlt,p'⟩,fun x H' y=>?_⟩
  obtain⟨e,y⟩:=y;subst e;exact hs i x σ _ (y xs q) p
 ·have e:i=xs.length:=by omega
  subst e;exact .inl ⟨⟨xs,q,EM _⟩,hd σ H p⟩
theorem Bp{K:Fg}{a:Addr}{xs:List V}{g:TG}{tb:TS}{D:ij}{σ:St}{H:Hp}(Pv:Nat->St->Hp->Prop)(h0:Pv 0 σ H)(hl:∀i σ H,i<=xs.length->Pv i σ H->SqT K H a xs)
  (hs:∀i x σ H,xs[i]?=some x->Pv i σ H->g x σ H fun σ2 H2=>tb { D with nx:=Pv (i+1),ct:=Pv (i+1),bk:=D.nx } σ2 H2) (hd:∀σ H,Pv xs.length σ H->D.nx σ H):
  ∃W:Nat->Nat->St->Hp->Prop,(∃m,W 0 m σ H)/\∀i m σ H,W i m σ H->
   ((Itt K a).stop i H/\D.nx σ H)\/((Itt K a).go i H/\∃N:St->Hp->Prop,(∀σ' H',N σ' H'->∃m',m'<m/\W (i+1) m' σ' H')/\∀x H',(Itt K a).yld i H x H'->g x σ H' fun σ2 H2=>tb { D with nx:=N,ct:=N,bk:=D.nx } σ2 H2):=by
 refine⟨fun i m σ H=>m=xs.length-i/\i<=xs.length/\Pv i σ H,⟨xs.length,by simp,Fy _,h0⟩,?_⟩;rintro i m σ H ⟨rfl,hi,p⟩;have q:=hl i σ H hi p;by_cases hlt:i<xs.length
 ·refine .inr ⟨⟨xs,xs[i],q,by simp[hlt]⟩,Pv (i+1),fun σ' H' p'=>⟨xs.length-(i+1),by omega,rfl,hlt,p'⟩,fun x H' y=>?_⟩
  obtain⟨e,y⟩:=y;subst e;exact hs i x σ _ (y xs q) p
 ·have e:i=xs.length:=by omega
  subst e;exact .inl ⟨⟨xs,q,EM _⟩,hd σ H p⟩
theorem kQ{lo:Int}{n:Nat}{g:TG}{tb:TS}{D:ij}{σ:St}{H:Hp}(Pv:Nat->St->Hp->Prop)(h0:Pv 0 σ H)
  (hs:∀i σ H,i<n->Pv i σ H->g (.int (lo+i)) σ H fun σ2 H2=>tb { D with nx:=Pv (i+1),ct:=Pv (i+1),bk:=D.nx } σ2 H2) (hd:∀σ H,Pv n σ H->D.nx σ H):
  ∃W:Nat->Nat->St->Hp->Prop,(∃m,W 0 m σ H)/\∀i m σ H,W i m σ H->
   ((Itr lo n).stop i H/\D.nx σ H)\/((Itr lo n).go i H/\∃N:St->Hp->Prop,(∀σ' H',N σ' H'->∃m',m'<m/\W (i+1) m' σ' H')/\∀x H',(Itr lo n).yld i H x H'->g x σ H' fun σ2 H2=>tb { D with nx:=N,ct:=N,bk:=D.nx } σ2 H2):=by
 refine⟨fun i m σ H=>m=n-i/\i<=n/\Pv i σ H,⟨n,by simp,Fy _,h0⟩,?_⟩;rintro i m σ H ⟨rfl,hi,p⟩;by_cases hlt:i<n
 ·refine .inr ⟨hlt,Pv (i+1),fun σ' H' p'=>⟨n-(i+1),by omega,rfl,hlt,p'⟩,fun x H' y=>?_⟩
  obtain⟨e,y⟩:=y;subst e y;exact hs i σ _ hlt p
 ·have e:i=n:=by omega
  subst e;exact .inl ⟨EM _,hd σ H p⟩
end L2
namespace L2
open PySem PySem.Spec PyProof.Rows
noncomputable abbrev R2:=V->V->Hp->VK->Prop
noncomputable def OpR(X:Cx)(f:Value->Value->Sem Value)(r:R2):Prop:=
 ∀(pins:List (Addr×Obj))(s:Shared)(σ:St)(H:Hp)(x y:V)(v u:Value)(Q:VK),Inv X pins σ H s->aB x v->aB y u->r x y H Q->
  wpAny (model X.prog X.w) X.A (f v u) (EP X pins σ Q) X.xe s
noncomputable def UnR(X:Cx)(f:Value->Sem Value)(r:V->Hp->VK->Prop):Prop:=
 ∀(pins:List (Addr×Obj))(s:Shared)(σ:St)(H:Hp)(x:V)(v:Value)(Q:VK),Inv X pins σ H s->aB x v->r x H Q->
  wpAny (model X.prog X.w) X.A (f v) (EP X pins σ Q) X.xe s
noncomputable def cw(X:Cx)(f:Value)(r:List V->Hp->VK->Prop):Prop:=
 ∀(pins:List (Addr×Obj))(s:Shared)(σ:St)(H:Hp)(xs:List V)(us:List Value)(Q:VK),Inv X pins σ H s->aA xs us->r xs H Q->
  wpAny (model X.prog X.w) X.A (call f us) (EP X pins σ Q) X.xe s
noncomputable def tOp(r:R2)(ta tb:TE):TE:=fun σ H Q=>ta σ H fun x H1=>tb σ H1 fun y H2=>r x y H2 Q
noncomputable def tUn(r:V->Hp->VK->Prop)(ta:TE):TE:=fun σ H Q=>ta σ H fun x H1=>r x H1 Q
noncomputable def rI(C:Int->Int->Prop)(g:Int->Int->V):R2:=fun x y H Q=>∃i j,x=.int i/\y=.int j/\C i j/\Q (g i j) H
noncomputable def rI0(g:Int->Int->V):R2:=fun x y H Q=>∃i j,x=.int i/\y=.int j/\Q (g i j) H
noncomputable def rU(g:Int->V):V->Hp->VK->Prop:=fun x H Q=>∃i,x=.int i/\Q (g i) H
section
variable{X:Cx}{a b c:Expr}{ta tb tc:TE}{pos:Pos}
theorem yK(ha:PE X a ta)(hb:PE X b tb){pins:List (Addr×Obj)}{s:Shared}{σ:St}{H:Hp}{R:V->V->Hp->Prop}(I:Inv X pins σ H s)
  (h:ta σ H fun x H1=>tb σ H1 fun y H2=>R x y H2) {Q:Value->Shared->Prop} {f:Value->Value->Sem Value}
  (hf:∀v u s2 x y H2,Inv X pins σ H2 s2->aB x v->aB y u->R x y H2->wpAny (model X.prog X.w) X.A (f v u) Q X.xe s2):
  wpAny (model X.prog X.w) X.A (eval a X.env) (fun v s₁=>wpAny (model X.prog X.w) X.A (eval b X.env) (fun u s₂=>wpAny (model X.prog X.w) X.A (f v u) Q X.xe s₂) X.xe s₁) X.xe s:=by
 refine thn (ha pins s σ H _ I h) fun v s1 ⟨x,H1,I1,r1,q1⟩=>?_;refine thn (hb pins s1 σ H1 _ I1 q1) fun u s2 ⟨y,H2,I2,r2,q2⟩=>?_;exact hf v u s2 x y H2 I2 r1 r2 q2
theorem az{op:Operator}{r:R2}(ho:OpR X (Ie op) r)(ha:PE X a ta)(hb:PE X b tb):PE X (.BinOp a op b pos) (tOp r ta tb):=by
 intro pins s σ H Q I h;exact wpAny_BinOp (yK ha hb I h fun v u s2 x y H2 I2 rx ry q=>ho pins s2 σ H2 x y v u Q I2 rx ry q)
theorem Dy{op:UnaryOp}{r:V->Hp->VK->Prop}(ho:UnR X (unaryOp op) r)(ha:PE X a ta):PE X (.UnaryOp op a pos) (tUn r ta):=by
 intro pins s σ H Q I h;exact UnaryOp_ (thn (ha pins s σ H _ I h) fun v s1 ⟨x,H1,I1,r1,q1⟩=>ho pins s1 σ H1 x v Q I1 r1 q1)
theorem opI{f:Value->Value->Sem Value}{C:Int->Int->Prop}{g:Int->Int->Int}
  (rule:∀(i j:Int)(t u:Tok)(s:Shared)(Q:Value->Shared->Prop)(E:Value->Shared->Prop),C i j->Q (.int (g i j) s.toks) { s with toks:=s.toks+1 }->wpAny (model X.prog X.w) X.A (f (.int i t) (.int j u)) Q E s):
  OpR X f (rI C fun i j=>.int (g i j)):=by
 intro pins s σ H x y v u Q I rx ry h;obtain⟨i,j,rfl,rfl,hc,q⟩:=h;obtain⟨t,rfl⟩:=rx;obtain⟨t',rfl⟩:=ry;exact rule i j t t' s _ _ hc ⟨.int (g i j),H,I.tok _,⟨_,rfl⟩,q⟩
theorem Ct{f:Value->Value->Sem Value}{g:Int->Int->Int}
  (rule:∀(i j:Int)(t u:Tok)(s:Shared)(Q:Value->Shared->Prop)(E:Value->Shared->Prop),Q (.int (g i j) s.toks) { s with toks:=s.toks+1 }->wpAny (model X.prog X.w) X.A (f (.int i t) (.int j u)) Q E s):
  OpR X f (rI0 fun i j=>.int (g i j)):=by
 intro pins s σ H x y v u Q I rx ry h;obtain⟨i,j,rfl,rfl,q⟩:=h;obtain⟨t,rfl⟩:=rx;obtain⟨t',rfl⟩:=ry;exact rule i j t t' s _ _ ⟨.int (g i j),H,I.tok _,⟨_,rfl⟩,q⟩
theorem yL{f:Value->Value->Sem Value}{g:Int->Int->Bool}
  (rule:∀(i j:Int)(t u:Tok)(s:Shared)(Q:Value->Shared->Prop)(E:Value->Shared->Prop),Q (.bool (g i j)) s->wpAny (model X.prog X.w) X.A (f (.int i t) (.int j u)) Q E s):
  OpR X f (rI0 fun i j=>.bl (g i j)):=by
 intro pins s σ H x y v u Q I rx ry h;obtain⟨i,j,rfl,rfl,q⟩:=h;obtain⟨t,rfl⟩:=rx;obtain⟨t',rfl⟩:=ry;exact rule i j t t' s _ _ ⟨.bl (g i j),H,I,rfl,q⟩
noncomputable def j4(i j:Int):Prop:=0<j/\j<1073741824
noncomputable def Cu(i j:Int):Prop:=(-(2^64)<i/\i<2^64)\/(-(2^64)<j/\j<2^64)
theorem Cu.ok{i j:Int}(h:Cu i j):Hv i j:=by
 rcases h with⟨h1,h2⟩|⟨h1,h2⟩
 ·exact .of_left (Lg h1 h2)
 ·exact .of_right (Lg h1 h2)
theorem dD:OpR X (Ie .Add) (rI0 fun i j=>.int (i+j)):=Ct fun _ _ _ _ _ _ _ q=>add_int q
theorem kR:OpR X (Ie .Sub) (rI0 fun i j=>.int (i-j)):=Ct fun _ _ _ _ _ _ _ q=>sub_int q
theorem fI:OpR X (Ie .FloorDiv) (rI j4 fun i j=>.int (i/j)):=opI fun i j _ _ _ _ _ hc q=>by
 have h1:(0:Int)<j:=hc.1;have h2:j<1073741824:=hc.2;exact floordiv_int (by omega) (by rw[Int.fdiv_eq_ediv_of_nonneg i (by omega)];exact q) (.inl (PyProof.noPylong_small (by omega)))
theorem bG:OpR X (Ie .Mod) (rI (fun _ j=>0<j) fun i j=>.int (i%j)):=opI fun i j _ _ _ _ _ hc q=>by
 have h1:(0:Int)<j:=hc;exact mod_int' (by omega) (by rw[Int.fmod_eq_emod_of_nonneg i (by omega)];exact q)
theorem unI{f:Value->Sem Value}{g:Int->Int}
  (rule:∀(i:Int)(t:Tok)(s:Shared)(Q:Value->Shared->Prop)(E:Value->Shared->Prop),Q (.int (g i) s.toks) { s with toks:=s.toks+1 }->wpAny (model X.prog X.w) X.A (f (.int i t)) Q E s):
  UnR X f (rU fun i=>.int (g i)):=by
 intro pins s σ H x v Q I rx h;obtain⟨i,rfl,q⟩:=h;obtain⟨t,rfl⟩:=rx;exact rule i t s _ _ ⟨.int (g i),H,I.tok _,⟨_,rfl⟩,q⟩
theorem Cv:UnR X (unaryOp .USub) (rU fun i=>.int (-i)):=unI fun _ _ _ _ _ q=>neg_int q
end
noncomputable def Cw:V->V->Bool
 | .non,.non=>true | .non,.int _=>true | .int _,.non=>true | .non,.bl _=>true | .bl _,.non=>true | .non,.str _=>true | .str _,.non=>true
 | .int _,.int _=>true | .bl _,.bl _=>true | .str _,.str _=>true | .byt _,.byt _=>true
 | .int _,.str _=>true | .str _,.int _=>true | .bl _,.str _=>true | .str _,.bl _=>true
 |_,_=>false
noncomputable def rEq:R2:=fun x y H Q=>Cw x y=true/\Q (.bl (decide (x=y))) H
noncomputable def rNe:R2:=fun x y H Q=>Cw x y=true/\Q (.bl (!decide (x=y))) H
theorem uk{i j:Int}:decide (V.int i=V.int j)=(i==j):=by
 rw[HN];simp
theorem wU{i j:Bool}:decide (V.bl i=V.bl j)=(i==j):=by
 rw[HN];simp
theorem ul{i j:Str}:decide (V.str i=V.str j)=(i==j):=by
 rw[HN];simp
theorem um{i j:Array UInt8}:decide (V.byt i=V.byt j)=(i.toList==j.toList):=by
 rw[HN];cases i;cases j;simp
section
variable{X:Cx}{a b c:Expr}{ta tb tc:TE}{pos:Pos}
theorem bh{pins:List (Addr×Obj)}{σ:St}{H:Hp}{s:Shared}{Q:VK}{k k':Bool}(I:Inv X pins σ H s)(q:Q (.bl k) H)(e:k=k'):EP X pins σ Q (.bool k') s:=by
 subst e;exact⟨.bl k,H,I,rfl,q⟩
theorem j5:OpR X (GE .Eq) rEq:=by
 intro pins s σ H x y v u Q I rx ry h;obtain⟨hs,q⟩:=h;cases x with
 |non=>
  cases rx;cases y with
  |non=>cases ry;exact PySem.EqNone.eq_none_none (bh I q (by simp))
  |bl j=>cases ry;exact PySem.EqNone.eq_none_bool (bh I q (by simp))
  |int j=>obtain⟨t',rfl⟩:=ry;exact PySem.EqNone.eq_none_int (bh I q (by simp))
  |str j=>obtain⟨t',rfl⟩:=ry;exact PySem.EqNone.eq_none_str (bh I q (by simp))
  |_=>exact absurd (show false=true from hs) EU
 |bl i=>
  cases rx;cases y with
  |non=>cases ry;exact PySem.EqNone.eq_bool_none (bh I q (by simp))
  |bl j=>cases ry;exact eq_bool (bh I q wU)
  |str j=>obtain⟨t',rfl⟩:=ry;exact PySem.EqMixed.eq_bool_str (bh I q (by simp))
  |_=>exact absurd (show false=true from hs) EU
 |int i=>
  obtain⟨t,rfl⟩:=rx;cases y with
  |non=>cases ry;exact PySem.EqNone.eq_int_none (bh I q (by simp))
  |int j=>obtain⟨t',rfl⟩:=ry;exact eq_int (bh I q uk)
  |str j=>obtain⟨t',rfl⟩:=ry;exact PySem.EqMixed.eq_int_str (bh I q (by simp))
  |_=>exact absurd (show false=true from hs) EU
 |str i=>
  obtain⟨t,rfl⟩:=rx;cases y with
  |non=>cases ry;exact PySem.EqNone.eq_str_none (bh I q (by simp))
  |bl j=>cases ry;exact PySem.EqMixed.eq_str_bool (bh I q (by simp))
  |int j=>obtain⟨t',rfl⟩:=ry;exact PySem.EqMixed.eq_str_int (bh I q (by simp))
  |str j=>obtain⟨t',rfl⟩:=ry;exact eq_str (bh I q ul)
  |_=>exact absurd (show false=true from hs) EU
 |byt i=>
  obtain⟨t,rfl⟩:=rx;cases y with
  |byt j=>obtain⟨t',rfl⟩:=ry;exact PySem.W.eq_bytes (bh I q um)
  |_=>exact absurd (show false=true from hs) EU
 |_=>cases y<;>exact absurd (show false=true from hs) EU
theorem ni:OpR X (GE .NotEq) rNe:=by
 intro pins s σ H x y v u Q I rx ry h;obtain⟨hs,q⟩:=h;cases x with
 |non=>
  cases rx;cases y with
  |non=>cases ry;exact PySem.EqNone.ne_none_none (bh I q (by simp))
  |bl j=>cases ry;exact PySem.EqNone.ne_none_bool (bh I q (by simp))
  |int j=>obtain⟨t',rfl⟩:=ry;exact PySem.EqNone.ne_none_int (bh I q (by simp))
  |str j=>obtain⟨t',rfl⟩:=ry;exact PySem.EqNone.ne_none_str (bh I q (by simp))
  |_=>exact absurd (show false=true from hs) EU
 |bl i=>
  cases rx;cases y with
  |non=>cases ry;exact PySem.EqNone.ne_bool_none (bh I q (by simp))
  |bl j=>cases ry;exact ne_bool (bh I q (congrArg not wU))
  |str j=>obtain⟨t',rfl⟩:=ry;exact PySem.EqMixed.ne_bool_str (bh I q (by simp))
  |_=>exact absurd (show false=true from hs) EU
 |int i=>
  obtain⟨t,rfl⟩:=rx;cases y with
  |non=>cases ry;exact PySem.EqNone.ne_int_none (bh I q (by simp))
  |int j=>obtain⟨t',rfl⟩:=ry;exact ne_int (bh I q (congrArg not uk))
  |str j=>obtain⟨t',rfl⟩:=ry;exact PySem.EqMixed.ne_int_str (bh I q (by simp))
  |_=>exact absurd (show false=true from hs) EU
 |str i=>
  obtain⟨t,rfl⟩:=rx;cases y with
  |non=>cases ry;exact PySem.EqNone.ne_str_none (bh I q (by simp))
  |bl j=>cases ry;exact PySem.EqMixed.ne_str_bool (bh I q (by simp))
  |int j=>obtain⟨t',rfl⟩:=ry;exact PySem.EqMixed.ne_str_int (bh I q (by simp))
  |str j=>obtain⟨t',rfl⟩:=ry;exact ne_str (bh I q (congrArg not ul))
  |_=>exact absurd (show false=true from hs) EU
 |byt i=>
  obtain⟨t,rfl⟩:=rx;cases y with
  |byt j=>obtain⟨t',rfl⟩:=ry;exact PySem.W.ne_bytes (bh I q (congrArg not um))
  |_=>exact absurd (show false=true from hs) EU
 |_=>cases y<;>exact absurd (show false=true from hs) EU
theorem va:OpR X (GE .Lt) (rI0 fun i j=>.bl (decide (i<j))):=yL fun _ _ _ _ _ _ _ q=>lt_int q
theorem vc:OpR X (GE .LtE) (rI0 fun i j=>.bl (decide (i<=j))):=yL fun _ _ _ _ _ _ _ q=>le_int q
theorem qJ:OpR X (GE .Gt) (rI0 fun i j=>.bl (decide (j<i))):=yL fun _ _ _ _ _ _ _ q=>gt_int q
theorem ba(b:Expr){op:CmpOp}(h:op≠.In:=by decide)(h2:op≠.NotIn:=by decide):Lh op b=false:=by
 have e1:(op==CmpOp.In)=false:=by cases op<;>first|rfl|exact absurd rfl h
 have e2:(op==CmpOp.NotIn)=false:=by cases op<;>first|rfl|exact absurd rfl h2
 cases b<;>simp[Lh,e1,e2]
theorem iI{op:CmpOp}{r:R2}(ho:OpR X (GE op) r)(ha:PE X a ta)(hb:PE X b tb)(hm:Lh op b=false):PE X (.Compare a [op] [b] pos) (tOp r ta tb):=by
 intro pins s σ H Q I h;exact wpAny_Compare1 (yK ha hb I h fun v u s2 x y H2 I2 rx ry q=>ho pins s2 σ H2 x y v u Q I2 rx ry q) hm
noncomputable def bA(t:TE):TT:=fun σ H Q=>t σ H fun x H'=>∃k,x=.bl k/\Q k H'
theorem aZ{op:CmpOp}{r:R2}(ho:OpR X (GE op) r)(ha:PE X a ta)(hb:PE X b tb)(hm:Lh op b=false):PT X (.Compare a [op] [b] pos) (bA (tOp r ta tb)):=by
 intro pins s σ H Q I h;refine wpAny_isTrue_Compare1 (thn (ha pins s σ H _ I h) fun v s1 ⟨x,H1,I1,r1,q1⟩=>thn (hb pins s1 σ H1 _ I1 q1) fun u s2 ⟨y,H2,I2,r2,q2⟩=>
  thn (ho pins s2 σ H2 x y v u _ I2 r1 r2 q2) fun c s3 ⟨z,H3,I3,r3,k,e,q3⟩=>?_) hm
 subst e;cases r3;exact GR ⟨H3,I3,q3⟩
noncomputable def wV(r r':R2)(ta tb tc:TE):TE:=fun σ H Q=>ta σ H fun x H1=>tb σ H1 fun y H2=>r x y H2 fun z H3=>∃k,z=.bl k/\
 (if k=true then tc σ H3 fun w' H4=>r' y w' H4 Q else Q (.bl false) H3)
theorem yM{op op':CmpOp}{r r':R2}(ho:OpR X (GE op) r)(ho':OpR X (GE op') r')(ha:PE X a ta)(hb:PE X b tb)(hc:PE X c tc)
  (hm:lastMarks [op,op'] [b,c]=false:=by with_unfolding_all rfl):PE X (.Compare a [op,op'] [b,c] pos) (wV r r' ta tb tc):=by
 intro pins s σ H Q I h;refine Compare_chain (thn (ha pins s σ H _ I h) fun v s1 ⟨x,H1,I1,r1,q1⟩=>chain_link (thn (hb pins s1 σ H1 _ I1 q1) fun u s2 ⟨y,H2,I2,r2,q2⟩=>
  thn (ho pins s2 σ H2 x y v u _ I2 r1 r2 q2) fun d s3 ⟨z,H3,I3,r3,k,e,q3⟩=>?_)) hm
 subst e;cases r3;refine GR ?_;cases k with
 |false=>exact ite_ff ⟨.bl false,H3,I3,rfl,q3⟩
 |true=>exact ite_tt (chain_last (thn (hc pins s3 σ H3 _ I3 q3) fun w' s4 ⟨z',H4,I4,r4,q4⟩=>ho' pins s4 σ H4 y z' u w' Q I4 r2 r4 q4))
theorem rf:(E1:Nat)<2^63:=by rw[EL];decide
theorem nj{x:V}{us:List Value}(r:aA [x] us):∃u,us=[u]/\aB x u:=by
 cases r with
 |cons r1 r2=>cases r2;exact⟨_,rfl,r1⟩
theorem Dz{x y:V}{us:List Value}(r:aA [x,y] us):∃u w',us=[u,w']/\aB x u/\aB y w':=by
 cases r with
 |cons r1 r2=>
  cases r2 with
  |cons r3 r4=>cases r4;exact⟨_,_,rfl,r1,r3⟩
theorem wW(hc:X.calm=true):cw X (.builtin "max") (fun xs H Q=>∃i j,xs=[.int i,.int j]/\Q (.int (if j>i then j else i)) H):=by
 intro pins s σ H xs us Q I r h;obtain⟨i,j,rfl,q⟩:=h;obtain⟨u,w',rfl,⟨t,rfl⟩,⟨t',rfl⟩⟩:=Dz r;refine max_two_ints (I.ok.hd hc) fun h' tk k=>⟨_,H,I.kept k,?_,q⟩;by_cases hj:j>i
 ·rw[if_pos hj,if_pos hj];exact⟨_,rfl⟩
 ·rw[if_neg hj,if_neg hj];exact⟨_,rfl⟩
end
end L2
namespace L2
open PySem PySem.Spec PyProof.Rows
structure yN(h:Heap)(x dx C:Addr)(mA:Str->Option Value):Prop where
 obj:h.get? x=some (HM C dx)
 ns:h.Ns1 dx mA
 ne:dx≠x
theorem wX{h:Heap}{dx:Addr}{mA:Str->Option Value}(n:h.Ns1 dx mA):∃od,h.get? dx=some od/\∀name,MA name od=some (mA name):=by
 obtain⟨o,es,ep,ho,hd,hk,_,hm⟩:=n;refine⟨o,ho,fun name=>?_⟩;have e:=hm name;unfold nsFind findBy at e;rw[<-Array.find?_toList]at e;unfold MA;rw[hd];dsimp only
 split
 ·rename_i y q
  rw[q]at e;exact congrArg some e
 ·rename_i q
  rw[q]at e;have a:es.toList.any (·.refKey)=false:=by
   rw[List.any_eq_false];intro y hy;obtain⟨z,t,hkey⟩:=hk y (Array.mem_toList_iff.mp hy);simp[Nx.refKey,hkey]
  have a':¬es.toList.any (·.refKey)=true:=by rw[a];exact EU
  rw[if_neg a'];exact congrArg some e
theorem yN.look{h:Heap}{x dx C:Addr}{mA:Str->Option Value}(I:yN h x dx C mA):∃od,PySem.W.InstAt h x (HM C dx) C (some od)/\∀name,MA name od=some (mA name):=
 let⟨od,ho,hl⟩:=wX I.ns
 ⟨od,⟨I.obj,rfl,rfl,ho⟩,hl⟩
section
variable{prog:Program}{w:World}{A:Around}{E:Value->Shared->Prop}{s:Shared}{K:Fg}{x dx C f:Addr}{mA:Str->Option Value}{name:Str}{v:Value}
end
theorem gE.some_of{v:V}{o:Option Value}(r:gE (some v) o):∃u,o=some u/\aB v u:=by
 cases o with
 |none=>exact(show False from r).elim
 |some u=>exact⟨u,rfl,r⟩
section
variable{P:Program}{w:World}{H H':Hp}{h h':Heap}{a C dx:Addr}{fs fs':List (Str×V)}
theorem Bq(hok:HOk P w H h)(e:H a=some (.ins C dx fs)):∃mA,yN h a dx C mA/\(∀f,gE (fs.lookup f) (mA f))/\PySem.Within mA (fs.map (·.1))/\fs.length<=1000/\H dx=some (.own a):=by
 obtain⟨d,z,ne,ob,mA,n,r,q⟩:=(show br P w H h a (.ins C dx fs)from hok a _ e);exact⟨mA,⟨ob,n,ne⟩,r,q,z,d⟩
end
structure Cls(K:Fg)(C:Addr):Prop where
 pg:On K C Str.empty=true
 hd:PySem.W.hasDictIn K C=true
 po:PySem.W.plainOver K C=true
 sa:KD K (.ref C) "__setattr__"=some (some (.builtin "object.__setattr__"))
theorem Cls.get{K:Fg}{C:Addr}(c:Cls K C)(f:Str):On K C f=true:=c.pg
structure Cy(K:Fg)(C:Addr)(m:Str)(f:Addr):Prop where
 at_:KD K (.ref C) m=some (some (.ref f))
 fn:PySem.W.isFn K (.ref f)=true
 kp:IL K (.ref f)=true
section
variable{X:Cx}{pins:List (Addr×Obj)}{σ:St}{H:Hp}{s:Shared}{a C dx:Addr}{fs:List (Str×V)}{f:Str}{v:V}{A:Around}{E:Value->Shared->Prop}
theorem Inv.made(I:Inv X pins σ H s):Inv X pins σ (upd (upd H s.heap.objs.size (.own (s.heap.objs.size+1))) (s.heap.objs.size+1) (.ins C s.heap.objs.size []))
  { s with heap:=(s.heap.push G1).push (HM C s.heap.objs.size) }:=by
 have e1:(s.heap.push G1).get? s.heap.objs.size=some G1:=ES s.heap rfl;have e2:((s.heap.push G1).push (HM C s.heap.objs.size)).get? (s.heap.objs.size+1)=some (HM C s.heap.objs.size):=by
  have:=ES (s.heap.push G1) (o:=HM C s.heap.objs.size) rfl
  rwa [FA]at this
 have e3:(s.heap.push G1).Ns s.heap.objs.size (fun _=>none):=⟨G1,#[],_,e1,rfl,(fun e he=>absurd he (by simp)),fun _=>rfl⟩;have I1:=I.laid (a:=s.heap.objs.size) (o:=.own (s.heap.objs.size+1)) (h':=s.heap.push G1) (t':=s.toks) (fun b u q=>EH _ q) (EM _) ⟨_,e1⟩;refine I1.laid (a:=s.heap.objs.size+1) (o:=.ins C s.heap.objs.size []) (t':=s.toks) (fun b u q=>EH _ q) (Jx (FA _ _)) ?_;have ne:s.heap.objs.size≠s.heap.objs.size+1:=Fi (Gq _);refine⟨by rw[aQ ne,ay],Fy _,ne,e2,fun _=>none,(Heap.Ns1.of_empty e3).at fun o q=>EH _ q,fun _=>HU,fun y hy=>absurd rfl hy⟩
end
section
variable{X:Cx}{o e value:Expr}{f:Str}{pos pos' tpos:Pos}{ta tv:TE}
end
section
variable{X:Cx}{pins:List (Addr×Obj)}{σ:St}{H:Hp}{s:Shared}{A:Around}{E:Value->Shared->Prop}{Q:Value->Shared->Prop}{c:Value}{b:Bool}
inductive du(K:Fg)(H:Hp):V->Value->Prop where
 |non:du K H .non (.type "NoneType")
 |bl (x:Bool):du K H (.bl x) (.type "bool")
 |int (i:Int):du K H (.int i) (.type "int")
 |str (x:Str):du K H (.str x) (.type "str")
 |flt (x:UInt64):du K H (.flt x) (.type "float")
 |lst {a:Addr} {xs:List V} (e:H a=some (.lst xs)):du K H (.ref a) (.type "list")
 |frz {a:Addr} {o:Obj} {xs:List V} (e:H a=some (.frz o (.lst xs))):du K H (.ref a) (.type "list")
 |tup {a:Addr} {xs:List V} (e:H a=some (.tup xs)):du K H (.ref a) (.type "tuple")
 |dK {a:Addr} {kvs:List (Key×V)} (e:H a=some (.dK kvs)):du K H (.ref a) (.type "dict")
 |dT {a:Addr} {kvs:List (List Key×V)} (e:H a=some (.dT kvs)):du K H (.ref a) (.type "dict")
 |ins {a C dx:Addr} {fs:List (Str×V)} (e:H a=some (.ins C dx fs)) (cl:Cls K C) (ha:KD K (.ref C) "__class__"=some (some (.builtin "object.__class__")))
   (hn:PySem.W.specialIn K (.builtin "object.__class__") "__get__"=some (some (.builtin "getset_descriptor.__get__"))) (htk:PySem.W.takesIn K (.builtin "object.__class__")=some true)
   (hm:PySem.W.mroIn K C (.type "object")=some true):du K H (.ref a) (.ref C)
theorem wY{x:V}{u t:Value}(I:Inv X pins σ H s)(rx:aB x u)(ty:du X.K H x t)(e:Gk X.K t c=some b)(h:∀tk,Q (.bool b) { s with toks:=tk }):
  wpAny (model X.prog X.w) A (call (.builtin "isinstance") [u,c]) Q E s:=by
 cases ty with
 |non=>cases (show u=GC from rx);exact GO PySem.W.kitx_none I.kIn HU e (fun z=>nomatch z) h
 |bl y=>cases (show u=GN y from rx);exact GO PySem.W.kitx_bool I.kIn HU e (fun z=>nomatch z) h
 |int i=>obtain⟨t,q⟩:=(show∃t,u=HE i t from rx);cases q;exact GO PySem.W.kitx_int I.kIn HU e (fun z=>nomatch z) h
 |str y=>obtain⟨t,q⟩:=(show∃t,u=OU y t from rx);cases q;exact GO PySem.W.kitx_str I.kIn HU e (fun z=>nomatch z) h
 |flt y=>obtain⟨t,q⟩:=(show∃t,u=Value.float y t from rx);cases q;exact GO PySem.W.kitx_float I.kIn HU e (fun z=>nomatch z) h
 | @lst a xs ea=>
  cases (show u=Fh a from rx);obtain⟨_,_,n,_,h1⟩:=(show br X.prog X.w H s.heap a (.lst xs)from I.hok a _ ea);exact GO NN I.kIn ⟨_,h1,rfl⟩ e (fun z=>nomatch z) h
 | @frz a ob xs ea=>
  cases (show u=Fh a from rx);obtain⟨_,_,_,n,_,h1⟩:=(show br X.prog X.w H s.heap a (.frz ob (.lst xs))from I.hok a _ ea);exact GO NN I.kIn ⟨_,h1,rfl⟩ e (fun z=>nomatch z) h
 | @tup a xs ea=>
  cases (show u=Fh a from rx);obtain⟨_,_,_,p⟩:=(show br X.prog X.w H s.heap a (.tup xs)from I.hok a _ ea);obtain⟨o,h1,h2,_⟩:=p;exact GO PySem.W.kitx_tuple I.kIn ⟨o,h1,h2⟩ e (fun z=>nomatch z) h
 | @dK a kvs ea=>
  cases (show u=Fh a from rx);obtain⟨_,_,vs,_,p⟩:=(show br X.prog X.w H s.heap a (.dK kvs)from I.hok a _ ea);obtain⟨o,es,ep,h1,h2,_⟩:=p;exact GO NO I.kIn ⟨o,h1,h2.1⟩ e (fun z=>nomatch z) h
 | @dT a kvs ea=>
  cases (show u=Fh a from rx);obtain⟨_,_,xs,_,o,es,ep,h1,h2,_⟩:=(show br X.prog X.w H s.heap a (.dT kvs)from I.hok a _ ea);exact GO NO I.kIn ⟨o,h1,h2.1⟩ e (fun z=>nomatch z) h
 | @ins a C dx fs ea cl ha hn htk hm=>
  cases (show u=Fh a from rx);obtain⟨mA,O,_⟩:=Bq I.hok ea;obtain⟨od,J,_⟩:=O.look;exact GO (PySem.W.kitx_own (cl.get _) cl.hd ha hn htk hm) I.kIn J e (fun z=>nomatch z) h
end
end L2
namespace L2
open PySem PySem.Spec PyProof.Rows
structure b7(k:Nat)(A:Around):Prop where
 hd:A.handled=none
 dp:A.depth+3*k+5<recursionLimit
 un:A.units+16*k+200<cLine
theorem b7.mono{j k:Nat}{A:Around}(r:b7 k A)(h:j<=k):b7 j A:=⟨r.hd,by have:=r.dp;omega,by have:=r.un;omega⟩
theorem b7.deeper{k:Nat}{A:Around}(r:b7 (k+1) A)(env:Env):b7 k (A.deeper env):=
 ⟨r.hd,by have:=r.dp;show A.depth+1+3*k+5<_;omega,by have:=r.un;show A.units+3+16*k+200<_;omega⟩
theorem b7.depth{k:Nat}{A:Around}(r:b7 k A):A.depth<recursionLimit:=by have:=r.dp;omega
theorem b7.units0{k:Nat}{A:Around}(r:b7 k A):A.units<cLine:=by have:=r.un;omega
noncomputable def ah:TA:=fun _ H Q=>Q [] H
noncomputable def aa(ta:TE)(tr:TA):TA:=fun σ H Q=>ta σ H fun x H1=>tr σ H1 fun xs H2=>Q (x::xs) H2
section
variable{X:Cx}{e:Expr}{es:List Expr}{te:TE}{t:TA}{pos:Pos}
theorem af:PA X [] ah:=fun _ _ _ _ H Q I h=>Lr ⟨[],H,I,.nil,h⟩
theorem eF(ha:PE X e te)(hr:PA X es t)(hs:Fc (e::es) X.env=(false,eval e X.env)::Fc es X.env:=by rfl):PA X (e::es) (aa te t):=by
 intro pos pins s σ H Q I h;rw[hs];show wpAny _ _ (spliced ((false,eval e X.env)::backTo pos (Fc es X.env))) _ _ s;refine KW (thn (ha pins s σ H _ I h) fun u s1 ⟨x,H1,I1,r1,q1⟩=>?_);exact thn (hr pos pins s1 σ H1 _ I1 q1) fun us s2 ⟨xs,H2,I2,r2,q2⟩=>⟨x::xs,H2,I2,.cons r1 r2,q2⟩
noncomputable def yO(t:TA):TE:=fun σ H Q=>t σ H fun xs H1=>xs.length<=E1/\∀p,H1 p=none->Q (.ref p) (upd H1 p (.tup xs))
noncomputable def vd(t:TA):TE:=fun σ H Q=>t σ H fun xs H1=>xs.length<=E1/\∀p,H1 p=none->Q (.ref p) (upd H1 p (.lst xs))
theorem rg{x1}(h:PA X es t):PE X (.Tuple es x1 pos) (yO t):=by
 intro pins s σ H Q I hq;refine Nk (thn (h pos pins s σ H _ I hq) fun us s1 ⟨xs,H1,I1,r,z,q⟩=>⟨by rw[<-r.length];exact z,?_⟩);have hf:H1 s1.heap.objs.size=none:=I1.hok.fresh (EM _);refine⟨.ref s1.heap.objs.size,upd H1 s1.heap.objs.size (.tup xs),I1.laid (t':=s1.toks) (fun b u e=>EH _ e) (EM _) ?_,rfl,q _ hf⟩;exact⟨z,us,r,dz.new _ _⟩
theorem kS(h:PA X es t):PE X (.List es pos) (vd t):=by
 intro pins s σ H Q I hq;refine Ny (thn (h pos pins s σ H _ I hq) fun us s1 ⟨xs,H1,I1,r,z,q⟩=>⟨by rw[<-r.length];exact z,?_⟩);have hf:H1 s1.heap.objs.size=none:=I1.hok.fresh (EM _);refine⟨.ref s1.heap.objs.size,upd H1 s1.heap.objs.size (.lst xs),I1.laid (t':=s1.toks) (fun b u e=>EH _ e) (EM _) ?_,rfl,q _ hf⟩;exact⟨z,us,0,r,ES _ rfl⟩
end
noncomputable abbrev Sp:=List V->Hp->VK->XK->Prop
noncomputable abbrev CXT:=List Env->Hp->Shared->XK->Value->Shared->Prop
structure vf(P:Program)(w:World)(K:Fg)(mg:Str->Option Value)(base:Heap)(A:Around)(outer:List Env)(s:Shared)(H:Hp):Prop where
 frames:A.frames=some outer
 mod:Mod K mg base
 bs:∀b o,base.get? b=some o->s.heap.get? b=some o/\H b=none
 bsz:base.objs.size<=s.heap.objs.size
 funs:s.heap.FunFrames base outer
 frf:∀b∈frs outer,H b=none
 hok:HOk P w H s.heap
 bare:AllBare s.gens
noncomputable def CE(outer:List Env)(P:Program)(w:World)(H:Hp)(s:Shared)(Q:VK)(u:Value)(s':Shared):Prop:=
 ∃v H',s'.os=s.os/\AllBare s'.gens/\Un (frs outer) [] H H' s.heap s'.heap/\HOk P w H' s'.heap/\aB v u/\Q v H'
noncomputable def CR(CX:CXT)(outer:List Env)(P:Program)(w:World)(H:Hp)(s:Shared)(Q:VK)(E:XK)(r:Result)(s':Shared):Prop:=
 match r with
 | .ok (.ret u)=>CE outer P w H s Q u s'
 | .ok _=>False
 | .error e=>CX outer H s E e s'
structure bU(P:Program)(w:World)(K:Fg)(mg:Str->Option Value)(base:Heap)(CX:CXT)(k:Nat)(f:Addr)(fd:Fk)(ps:List Str)(sp:Sp):Prop where
 len:∀vs H Q E,sp vs H Q E->vs.length=ps.length
 run:∀(A:Around)(outer:List Env)(s:Shared)(H:Hp)(args:Args)(us:List Value)(vs:List V)(Q:VK)(E:XK),b7 k A->vf P w K mg base A outer s H->BindsTo s fd args (ps.zip us)->aA vs us->sp vs H Q E->
  codeAny (model P w) A (.call (.ref f) args) (CR CX outer P w H s Q E) s
section
variable{X:Cx}{pins:List (Addr×Obj)}{σ:St}{H:Hp}{s s':Shared}
theorem Inv.env0(I:Inv X pins σ H s):vf X.prog X.w X.K X.mg X.base X.A X.stack s H:=
 ⟨I.ok.frames,I.ok.mod,I.bs,Fz I.ok.bsz I.sz,I.stack,I.stkFree,I.hok,I.bare⟩
theorem Inv.after{Q:VK}{u:Value}(I:Inv X pins σ H s)(h:CE X.stack X.prog X.w H s Q u s'):EP X pins σ Q u s':=by
 obtain⟨v,H',os,bare,un,hok,r,q⟩:=h;obtain⟨hh,g,d,t,os'⟩:=s';obtain rfl:os'=s.os:=os;exact⟨v,H',I.call (h':=hh) (g':=g) (d':=d) (t':=t) (ch:=[]) un hok bare (fun b z=>absurd z (by simp)),r,q⟩
end
noncomputable def aJ(sp:Sp)(dvs:List V)(E:XK)(t:TA):TE:=fun σ H Q=>t σ H fun vs H1=>sp (vs++dvs) H1 Q E
noncomputable def fg(K:Fg)(fd:Fk)(ps:List Str)(ds:List Value):Prop:=
 ∀(s:Shared)(us:List Value),K.In s.heap->(us++ds).length=ps.length->BindsTo s fd ⟨us,[]⟩ (ps.zip (us++ds))
theorem fg.all{K:Fg}{fd:Fk}{ps:List Str}(h:∀us:List Value,us.length=ps.length->bindArgs fd ⟨us,[]⟩=pure (ps.zip us)):fg K fd ps []:=fun s us _ hl=>by
 rw[Gw]at hl ⊢;exact .of_eq (h us hl)
noncomputable def iR(CX:CXT)(X:Cx)(E:XK):Prop:=∀(pins:List (Addr×Obj))(σ:St)(H:Hp)(s:Shared)(e:Value)(s':Shared),Inv X pins σ H s->CX X.stack H s E e s'->X.xe e s'
section
variable{X:Cx}{CX:CXT}{k:Nat}{f C:Addr}{fd:Fk}{ps:List Str}{sp:Sp}{dvs:List V}{ds:List Value}{E:XK}{x m:Str}{p pos apos:Pos}{e o:Expr}{es:List Expr}{ta:TE}{t:TA}
theorem Cz{pins:List (Addr×Obj)}{σ:St}{H:Hp}{s:Shared}{Q:VK}{us:List Value}{vs:List V}(F:bU X.prog X.w X.K X.mg X.base CX k f fd ps sp)(hr:b7 k X.A)(hb:fg X.K fd ps ds)(hd:aA dvs ds)(hx:iR CX X E)
  (I:Inv X pins σ H s) (r:aA vs us) (h:sp (vs++dvs) H Q E):wpAny (model X.prog X.w) X.A (call (.ref f) us) (EP X pins σ Q) X.xe s:=by
 have r2:aA (vs++dvs) (us++ds):=r.append hd;have hl:(us++ds).length=ps.length:=by rw[<-r2.length];exact F.len _ _ _ _ h
 refine wpAny_call (IM (F.run X.A X.stack s H ⟨us,[]⟩ (us++ds) (vs++dvs) Q E hr I.env0 (hb s us I.kIn hl) r2 h) fun r s' hq=>?_);cases r with
 |error e=>exact hx pins σ H s e s' I hq
 |ok fl=>
  cases fl with
  |ret u=>exact I.after hq
  |next=>exact G9 hq
  |brk=>exact G9 hq
  |cont=>exact G9 hq
theorem uo(F:bU X.prog X.w X.K X.mg X.base CX k f fd ps sp)(hr:b7 k X.A)(hg:Gl X x)(hm:X.mg x=some (.ref f))(hk:IL X.K (.ref f)=true)(hb:fg X.K fd ps ds)(hd:aA dvs ds)(hx:iR CX X E)
  (ha:PA X (e::es) t) (hdb:(x==("__debug__":Str))=false:=by decide) (he:Fc (e::es) X.env=(false,eval e X.env)::Fc es X.env:=by rfl) (hpl:(backTo pos (Fc es X.env)).any (·.1)=false:=by rfl):
  PE X (.Call (.Name x p) (e::es) [] pos) (aJ sp dvs E t):=by
 intro pins s σ H Q I h;refine He (oJ I hg hm ?_ hdb);refine PySem.W.callWith_K (h₀:=X.base) I.ok.mod.kin hk (thn (ha pos pins s σ H _ I h) fun us s1 ⟨vs,H1,I1,r,q⟩=>⟨I1.kIn,?_⟩) he hpl;exact Cz F hr hb hd hx I1 r q
structure Mk(K:Fg)(C f:Addr):Prop where
 makes:PySem.W.makesIn K C=true
 init:KD K (.ref C) "__init__"=some (some (.ref f))
 fn:PySem.W.isFn K (.ref f)=true
 kp:IL K (.ref C)=true
end
noncomputable def PK(X:Cx)(kws:List Keyword)(t:TA):Prop:=
 ∀(pos:Pos)(pins:List (Addr×Obj))(s:Shared)(σ:St)(H:Hp)(Q:List V->Hp->Prop),Inv X pins σ H s->t σ H Q->wpAny (model X.prog X.w) X.A (evalAll ((LF pos (JZ kws X.env)).map (·.2))) (AP X pins σ Q) X.xe s
section
variable{X:Cx}{CX:CXT}{k:Nat}{f C:Addr}{fd:Fk}{ps ks:List Str}{sp:Sp}{E:XK}{x m:Str}{p pos apos kpos:Pos}{e o:Expr}{es:List Expr}{kws:List Keyword}{te ta:TE}{t tk:TA}{nm:Option Str}
theorem CA:PK X [] ah:=fun _ _ _ _ H Q I h=>wpAny_evalAll_nil ⟨[],H,I,.nil,h⟩
theorem Br(ha:PE X e te)(hr:PK X kws t):PK X (⟨nm,e,kpos⟩::kws) (aa te t):=by
 intro pos pins s σ H Q I h;show wpAny _ _ (evalAll ((do let v <-eval e X.env;standAt pos;pure v)::(LF pos (JZ kws X.env)).map (·.2))) _ _ s;refine wpAny_evalAll_cons (EF (thn (ha pins s σ H _ I h) fun u s1 ⟨x,H1,I1,r1,q1⟩=>EF (Lf (EJ ?_))));exact thn (hr pos pins s1 σ H1 _ I1 q1) fun us s2 ⟨xs,H2,I2,r2,q2⟩=>⟨x::xs,H2,I2,.cons r1 r2,q2⟩
variable{g:List Value->List Value->List Value}{gV:List V->List V->List V}
end
structure aK(N P:List Str)(sc:Scope):Prop where
 kind:sc.kind=.function
 co:sc.isCoroutine=false
 gen:sc.isGenerator=false
 nd:N.Nodup
 pre:N.take P.length=P
 par:∀x∈P,sc.names.lookup x=some .local\/sc.names.lookup x=some .cell
 nofree:∀y∈sc.names,y.2≠.free
theorem pH{kindOf:Str->Option FP}{x:Str}:∀{binds:List (Str×Value)} {m:Str->Option Value},(∀v,(x,v)∉binds)->bindL kindOf binds m x=m x
 | [],_,_=>rfl
 | (n,v)::r,m,h=>by
  unfold bindL;rw[pH fun w hw=>h w (E3 _ hw)]
  split
  ·have:x≠n:=by rintro rfl;exact h v EW
   simp[this]
  ·rfl
theorem pI{kindOf:Str->Option FP}{x:Str}:∀{binds:List (Str×Value)} {m:Str->Option Value},(∀v,(x,v)∉binds)->bindC kindOf binds m x=m x
 | [],_,_=>rfl
 | (n,v)::r,m,h=>by
  unfold bindC;rw[pI fun w hw=>h w (E3 _ hw)]
  split
  ·rfl
  ·have:x≠n:=by rintro rfl;exact h v EW
   simp[this]
theorem pJ{kindOf:Str->Option FP}{x:Str}{v:Value}:∀{P:List Str} {vs:List Value} {i:Nat} {m:Str->Option Value},P.Nodup->P[i]?=some x->vs[i]?=some v->kindOf x=some .local->
  bindL kindOf (P.zip vs) m x=some v
 | [],_,_,_,_,h,_,_=>by simp at h
 |_::_,[],_,_,_,_,h,_=>by simp at h
 |p::P,w::vs,0,m,nd,h1,h2,hk=>by
  simp at h1 h2;subst h1;subst h2;show bindL kindOf ((p,w)::P.zip vs) m p=_;unfold bindL;rw[pH fun v hv=>(GT.mp nd).1 (Ml hv).1,if_pos hk];simp
 |p::P,w::vs,i+1,m,nd,h1,h2,hk=>by
  show bindL kindOf ((p,w)::P.zip vs) m x=_;unfold bindL;exact pJ (i:=i) (GT.mp nd).2 (by simpa using h1) (by simpa using h2) hk
theorem pK{kindOf:Str->Option FP}{x:Str}{v:Value}:∀{P:List Str} {vs:List Value} {i:Nat} {m:Str->Option Value},P.Nodup->P[i]?=some x->vs[i]?=some v->kindOf x≠some .local->
  bindC kindOf (P.zip vs) m x=some v
 | [],_,_,_,_,h,_,_=>by simp at h
 |_::_,[],_,_,_,_,h,_=>by simp at h
 |p::P,w::vs,0,m,nd,h1,h2,hk=>by
  simp at h1 h2;subst h1;subst h2;show bindC kindOf ((p,w)::P.zip vs) m p=_;unfold bindC;rw[pI fun v hv=>(GT.mp nd).1 (Ml hv).1,if_neg hk];simp
 |p::P,w::vs,i+1,m,nd,h1,h2,hk=>by
  show bindC kindOf ((p,w)::P.zip vs) m x=_;unfold bindC;exact pK (i:=i) (GT.mp nd).2 (by simpa using h1) (by simpa using h2) hk
noncomputable def start(N:List Str)(vs:List V):St:=vs.map some++KG (N.length-vs.length) none
noncomputable def cq(CX:CXT)(P:Program)(w:World)(K:Fg)(mg:Str->Option Value)(base:Heap)(N:List Str)(qual:Str)(scope:Scope)(f:Addr)(cd:Value)(A:Around)(outer:List Env)(s:Shared)(H:Hp)(E:XK):Cx where
 prog:=P
 w:=w
 K:=K
 mg:=mg
 base:=base
 A:=A.deeper (envOfC qual scope s.heap.objs.size f cd)
 N:=N
 s₀:=s
 H₀:=H
 env:=envOfC qual scope s.heap.objs.size f cd
 outer:=outer
 stack:=envOfC qual scope s.heap.objs.size f cd::outer
 ex:=[]
 calm:=true
 fn:=fun _=>true
 pn:=[]
 xe:=fun e s'=>wpAny (model P w) (A.deeper (envOfC qual scope s.heap.objs.size f cd)) («leaving» (envOfC qual scope s.heap.objs.size f cd) e) (fun _ s''=>CX outer H s E e s'') (fun e' s''=>CX outer H s E e' s'') s'
theorem rh{sc:Scope}{n:Nat}{x:Str}(h:sc.names.lookup x=some .cell):∃c,(OV n sc.names []).lookup x=some c:=by
 have q:=Mt sc.names n [] (.inl h);exact LG.mp q
theorem wZ{CX:CXT}{P:Program}{w:World}{K:Fg}{mg:Str->Option Value}{base:Heap}{N ps:List Str}{qual:Str}{scope:Scope}{f:Addr}{cd:Value}{A:Around}{outer:List Env}{s s1:Shared}{H:Hp}{E:XK}{us:List Value}{vs:List V}
  (S:aK N ps scope) (hd:A.handled=none) (e0:vf P w K mg base A outer s H) (hl:vs.length=ps.length) (r:aA vs us)
  (x:InCallC s s.heap.objs.size (bindL (envOfC qual scope s.heap.objs.size f cd).kindOf (ps.zip us) fun _=>none) (OV (s.heap.objs.size+1) scope.names []) (bindC (envOfC qual scope s.heap.objs.size f cd).kindOf (ps.zip us) fun _=>none) s1):
  Inv (cq CX P w K mg base N qual scope f cd A outer s H E) [] (start N vs) H s1:=by
 have hpl:ps.length<=N.length:=by have:=congrArg List.length S.pre;rw[Fo]at this;omega
 obtain⟨h1,tk,rfl,hk⟩:=x.done;have noA:∀b:Addr,b∉(cq CX P w K mg base N qual scope f cd A outer s H E).ex:=fun b z=>absurd (show b∈([]:List Addr)from z) (by simp);refine⟨⟨e0.mod,S.kind,rfl,rfl,EM _,fun y z c h1 h2=>?_,fun y hy=>?_,fun y c _ h=>?_,fun _=>hd,Around.frames_deeper e0.frames,.inr ⟨rfl,rfl⟩,fun b z=>absurd z (noA b),e0.bs,e0.bsz,fun b _ _=>noA b,fun b z=>absurd z (noA b),e0.funs,e0.frf⟩,
  rfl,e0.bare,Un.kept hk,⟨_,x.toInCall.ns,fun i y v h1 h2 h3=>?_⟩,fun y c h=>⟨_,x.cell y c h⟩,e0.hok.fresh (EM _),fun y c h=>?_,fun p hp=>absurd (show p∈([]:List (Addr×Obj))from hp) (by simp),e0.hok.kept hk,?_⟩
 ·exact name_of_addr x.apart (Gn h1) (Gn h2)
 ·have hy:scope.names.lookup y=some .cell\/scope.names.lookup y=some .free:=hy
  rcases hy with hy|hy
  ·exact rh hy
  ·exact absurd rfl (S.nofree _ (Gn hy))
 ·exact Gs (x.above y c (Gn h))
 ·have hi:i<vs.length:=by
   unfold start at h2;by_cases hi:i<vs.length
   ·exact hi
   ·rw[FN (by simpa using hi)]at h2
    rw[Md]at h2
    split at h2<;>cases h2
  have ha:vs[i]?=some v:=by
   unfold start at h2;rw[Gb (by simpa using hi),EO]at h2;cases e:vs[i]? with
   |none=>rw[e]at h2;cases h2
   |some a=>rw[e]at h2;cases h2;rfl
  obtain⟨u,hu,rv⟩:=r.get ha;have hp:ps[i]?=some y:=by
   rw[<-S.pre,Hi (by omega)];exact h1
  have ndP:ps.Nodup:=by rw[<-S.pre];exact S.nd.sublist (Ls _ _)
  refine⟨u,rv,?_⟩;rcases S.par y (E2 hp)with k|k
  ·exact .inl ⟨k,pJ ndP hp hu k⟩
  ·obtain⟨c,e⟩:=rh (n:=s.heap.objs.size+1) k
   refine .inr ⟨.inl k,c,e,?_⟩;have q:=x.cell y c e;rw[pK ndP hp hu (by show scope.names.lookup y≠_;rw[k];decide)]at q;exact q
 ·exact e0.hok.fresh (Gs (x.above y c (Gn h)))
 ·unfold start
  show _=N.length;rw[EX,EI,List.length_replicate];omega
theorem vg{CX:CXT}{P:Program}{w:World}{K:Fg}{mg:Str->Option Value}{base:Heap}{k:Nat}{f:Addr}{name qual:Str}{params:Arguments}{body:List Stmt}{scope:Scope}{dV kV doc pm cdv ct oc:Value}{an od:Option Addr}
  {osl:Array (Option Value)} {N ps:List Str} {sp:Sp} (lk:K.lookup f=some ⟨oc,od,.func (Jy name qual params body scope dV kV doc pm an cdv ct),osl⟩) (hcd:MB K cdv qual=true) (S:aK N ps scope)
  (len:∀vs H Q E,sp vs H Q E->vs.length=ps.length)
  (hbody:∀(A:Around)(outer:List Env)(s:Shared)(H:Hp)(vs:List V)(Q:VK)(E:XK),b7 k (A.deeper (envOfC qual scope s.heap.objs.size f cdv))->sp vs H Q E->
   ∃t,PSs (cq CX P w K mg base N qual scope f cdv A outer s H E) body t/\t { nx:=fun _ H'=>Q .non H',rt:=Q } (start N vs) H):
  bU P w K mg base CX (k+1) f (Jy name qual params body scope dV kV doc pm an cdv ct) ps sp:=by
 refine⟨len,fun A outer s H args us vs Q E hr e0 hb r hsp=>?_⟩;have hl:=len _ _ _ _ hsp;have KX:K.In s.heap:=e0.mod.kin.keeps fun b o e=>(e0.bs b o e).1;have lim:s.heap.NoLimit:=e0.mod.nolimit.keeps fun b o e=>(e0.bs b o e).1;have hkind:∀y∈ps.zip us,scope.names.lookup y.1=some .local\/(scope.names.lookup y.1=some .cell/\((OV (s.heap.objs.size+1) scope.names []).lookup y.1).isSome=true):=fun⟨n,v⟩ hy=>by
  rcases S.par n (Ml hy).1 with q|q
  ·exact .inl q
  ·exact .inr ⟨q,Mt _ _ _ (.inl q)⟩
 refine codeAny_call_function hr.depth (KX _ _ lk) rfl S.co S.gen rfl (PySem.W.codeRec_of KX hcd) (hb _ _ _ _ ?_);refine wpAny_newFunctionEnv_cells S.kind hkind fun env he s1 x=>?_;subst he;refine⟨lim.keeps x.toInCall.keep,codeAny_func ?_⟩;obtain⟨t,ht,hq⟩:=hbody A outer s H vs Q E (hr.deeper _) hsp;have I:Inv (cq CX P w K mg base N qual scope f cdv A outer s H E) [] (start N vs) H s1:=wZ S hr.hd e0 hl r x;refine F7 (ht [] s1 (start N vs) H _ I hq) (fun fl s' hs=>?_) fun e s' hs=>hs;have fin:∀{σ':St} {H':Hp} {v:V} {u:Value},Inv (cq CX P w K mg base N qual scope f cdv A outer s H E) [] σ' H' s'->aB v u->Q v H'->CE outer P w H s Q u s':=
  fun{σ' H' v u} J rv q=>⟨v,H',J.os,J.bare,J.base,J.hok,rv,q⟩
 cases fl with
 |ret u=>
  obtain⟨v,σ',H',J,rv,q⟩:=hs;exact fin J rv q
 |next=>
  obtain⟨σ',H',J,q⟩:=hs;exact fin (v:=V.non) (u:=GC) J rfl q
 |brk=>
  obtain⟨_,_,_,q⟩:=hs;exact G9 q
 |cont=>
  obtain⟨_,_,_,q⟩:=hs;exact G9 q
end L2
namespace L2
open PySem PySem.Spec PyProof.Rows
section
variable{X:Cx}{x:Str}{p pos:Pos}{e:Expr}{es:List Expr}{t:TA}{id T:String}{r:List V->Hp->VK->Prop}
noncomputable def tCB(r:List V->Hp->VK->Prop)(t:TA):TE:=fun σ H Q=>t σ H fun vs H1=>r vs H1 Q
theorem aC(hc:cw X (.builtin id) r)(hg:Gl X x)(hm:X.mg x=none)(hv:IJ x=some (.builtin id))(ha:PA X (e::es) t)(hn:x≠"__name__":=by decide)(hdb:(x==("__debug__":Str))=false:=by decide)
  (he:Fc (e::es) X.env=(false,eval e X.env)::Fc es X.env:=by rfl) (hpl:(backTo pos (Fc es X.env)).any (·.1)=false:=by rfl):PE X (.Call (.Name x p) (e::es) [] pos) (tCB r t):=by
 intro pins s σ H Q I h;refine He (dC I hg hm hv ?_ hn hdb);exact Kk (thn (ha pos pins s σ H _ I h) fun us s1 ⟨vs,H1,I1,r1,q1⟩=>hc pins s1 σ H1 vs us Q I1 r1 q1) he hpl
theorem fJ(hc:cw X (.type T) r)(hg:Gl X x)(hm:X.mg x=none)(hv:IJ x=some (.type T))(ha:PA X (e::es) t)(hn:x≠"__name__":=by decide)(hdb:(x==("__debug__":Str))=false:=by decide)
  (he:Fc (e::es) X.env=(false,eval e X.env)::Fc es X.env:=by rfl) (hpl:(backTo pos (Fc es X.env)).any (·.1)=false:=by rfl):PE X (.Call (.Name x p) (e::es) [] pos) (tCB r t):=by
 intro pins s σ H Q I h;refine He (dC I hg hm hv ?_ hn hdb);exact Gh (thn (ha pos pins s σ H _ I h) fun us s1 ⟨vs,H1,I1,r1,q1⟩=>hc pins s1 σ H1 vs us Q I1 r1 q1) he hpl
end
end L2
namespace HT
open PySem PyProof.Rows
noncomputable def bF:List Int->List Int->Bool
 | [],[]=>false
 | [],_::_=>true
 |_::_,[]=>false
 |x::xs,y::ys=>if x=y then bF xs ys else decide (x<y)
theorem iy(x y:Int)(xs ys:List Int):bF (x::xs) (y::ys)=if x=y then bF xs ys else decide (x<y):=rfl
theorem qm:bF [] []=false:=rfl
theorem oM(y:Int)(ys:List Int):bF [] (y::ys)=true:=rfl
theorem oN(x:Int)(xs:List Int):bF (x::xs) []=false:=rfl
theorem yP(A:Around)(s:Shared)(a:Int)(t:Tok)(c:Int)(u:Tok):∃e,Fl A s (.int a t) (.int c u) e/\(e=true↔a=c):=
 ⟨(a==c),KY a t c u,by simp⟩
theorem yQ(A:Around)(s:Shared)(a:Int)(t:Tok)(c:Int)(u:Tok)(prog:Program)(w:World)(E:Value->Shared->Prop)(Q:Value->Shared->Prop)(h:Q (.bool (decide (a<c))) s):
  wpAny (model prog w) A (richCompare .Lt (.int a t) (.int c u)) Q E s:=
 (PyProof.Rows.lt_int h:wpAny (model prog w) A (GE .Lt (.int a t) (.int c u)) Q E s)
section
open PySem.SeqAt
open PySem.AutoSeq1 (wpAny_loadPart')
open PySem.MeetsSeq PySem.MeetsSeq2 PySem.MeetsSeq3
theorem kJ(l b:Addr)(items items2:Array Value)(n n2:Nat)(dd dd2:Option Addr)(sl sl2:Array (Option Value))(ns ms:List Int)(hi:IntsAre items.toList ns)(hj:IntsAre items2.toList ms):
  Meets (Builtin.«tuple.__lt__» ⟨[.ref l,.ref b],[]⟩)
   (fun _ R s=>s.heap.get? l=some { cls:=.type "tuple",dict:=dd,data:=.seq items n,slots:=sl }/\s.heap.get? b=some { cls:=.type "tuple",dict:=dd2,data:=.seq items2 n2,slots:=sl2 }/\
    R (.ok (.ret (.bool (bF ns ms)))) s):=
 .of_wp fun prog w A R s h=>by
  obtain⟨hp,g,d,tk,os⟩:=s;obtain⟨hl,hb,h⟩:=h;have f2:=AutoSeq1.sub_tuple_tuple;have z1:items.size=ns.length:=by rw[<-hi.length];simp
  have z2:items2.size=ms.length:=by rw[<-hj.length];simp
  wp_walk using Mm hl,Mm hb,Hc _ (fun aY b s'=>b.1=none/\s'=⟨hp,g,d,tk,os⟩/\∃(vs ws:List Value)(ns' ms':List Int),aY=vs.zip ws/\
   IntsAre vs ns'/\IntsAre ws ms'/\ns'.length+items2.size=ms'.length+items.size/\R (.ok (.ret (.bool (bF ns' ms')))) ⟨hp,g,d,tk,os⟩) _
  case turn=>
   rintro⟨y,x⟩ aY b s' ⟨hb',rfl,vs,ws,ns',ms',hz,hvi,hwi,hlen,hR⟩;cases hvi with
   |nil=>rw[NP]at hz;cases hz
   |cons a t hvi'=>
    cases hwi with
    |nil=>rw[KZ]at hz;cases hz
    |cons c u hwi'=>
     rw[Iq]at hz;injection hz with hyx hrest
     injection hyx with hy hx
     subst hy hx;rw[iy]at hR;simp only[Fu]at hlen;obtain⟨e,he,hiff⟩:=yP A.in1 ⟨hp,g,d,tk,os⟩ a t c u;refine EF (he prog w _ _ ?_);cases e with
     |true=>
      rw[if_pos (hiff.mp rfl)]at hR
      wp_walk
      exact⟨rfl,rfl,_,_,_,_,hrest,hvi',hwi',by omega,hR⟩
     |false=>
      rw[if_neg (fun q=>absurd (hiff.mpr q) EU)]at hR;have hri:=yQ A.in1 ⟨hp,g,d,tk,os⟩ a t c u prog w
      wp_walk using hri
      exact⟨_,rfl,by simpa using hR⟩
  case fin=>
   rintro⟨b1,b2⟩ s' ⟨hb',rfl,vs,ws,ns',ms',hz,hvi,hwi,hlen,hR⟩;simp only at hb';subst hb';have hv:bF ns' ms'=decide (items.size<items2.size):=by
    cases hvi with
    |nil=>
     cases hwi with
     |nil=>
      simp only[Jr]at hlen;rw[qm];exact(decide_eq_false (by omega)).symm
     |cons c u hw=>
      simp only[Jr,Fu]at hlen;rw[oM];exact(decide_eq_true (by omega)).symm
    |cons a t hv=>
     cases hwi with
     |nil=>
      simp only[Jr,Fu]at hlen;rw[oN];exact(decide_eq_false (by omega)).symm
     |cons c u hw=>
      rw[Iq]at hz;cases hz
   rw[hv]at hR
   wp_walk
   exact⟨_,rfl,by simpa[Builtin.Tuple.tupleCompareSizes]using hR⟩
  case h=>
   exact⟨rfl,rfl,items.toList,items2.toList,ns,ms,rfl,hi,hj,by omega,h⟩
end
section
variable{prog:Program}{w:World}{A:Around}{E:Value->Shared->Prop}{s:Shared}
theorem vh{l b:Addr}{items items2:Array Value}{ns ms:List Int}{Q:Value->Shared->Prop}(hl:IsTup s.heap l items)(hb:IsTup s.heap b items2)(hi:IntsAre items.toList ns)(hj:IntsAre items2.toList ms)
  (hu:A.units<cLine) (h:Q (.bool (bF ns ms)) s):wpAny (model prog w) A (GE .Lt (.ref l) (.ref b)) Q E s:=by
 obtain⟨⟨cls,dd,data,sl⟩,ho,hc,n,hd⟩:=id hl;obtain⟨⟨cls2,dd2,data2,sl2⟩,ho2,hc2,n2,hd2⟩:=id hb;simp only at hc hd hc2 hd2;subst hc hd hc2 hd2;exact richCompare_meets_room (op:=.Lt) ⟨_,ho,rfl⟩ ⟨_,ho2,rfl⟩ Kb Mu (Me _ _) (kJ l b items items2 n n2 dd dd2 sl sl2 ns ms hi hj)
  ⟨ho,ho2,show GN (bF ns ms)≠Value.notImplemented/\Q (.bool (bF ns ms)) s from⟨(fun x=>nomatch x),h⟩⟩ hu
theorem Bs{t b:Addr}{vs ws:List Value}{Q:Value->Shared->Prop}(ht:IsTup s.heap t vs.toArray)(hb:IsTup s.heap b ws.toArray)(hv:vs≠[])
  (h1:ws=[]->Q (.ref t) s) (h2:ws≠[]->Q (.ref s.heap.objs.size) { s with heap:=s.heap.push { cls:=.type "tuple",data:=.seq (vs++ws).toArray } })
  (hsz:vs.length+ws.length<=E1):wpAny (model prog w) A (Ie .Add (.ref t) (.ref b)) Q E s:=by
 obtain⟨⟨cls,dd,data,sl⟩,ho,hc,n,hd⟩:=id ht;obtain⟨⟨cls2,dd2,data2,sl2⟩,ho2,hc2,n2,hd2⟩:=id hb;simp only at hc hd hc2 hd2;subst hc hd hc2 hd2;have e:vs.toArray++ws.toArray=(vs++ws).toArray:=by simp
 by_cases hw:ws=[]
 ·exact Nz ⟨_,ho,rfl⟩ ⟨_,ho2,rfl⟩ LH M8 J0 JM (Jz _ _)
   (tuple_addW1 t b vs.toArray ws.toArray n n2 dd dd2 sl sl2 (by simpa using hv) (by simp[hw])) ⟨ho,ho2,h1 hw⟩
 ·refine Nz ⟨_,ho,rfl⟩ ⟨_,ho2,rfl⟩ LH M8 J0 JM (Jz _ _)
   (tuple_addW2 t b vs.toArray ws.toArray n n2 dd dd2 sl sl2 (by simpa using hv) (by simpa using hw) (by rw[E7,E7];exact hsz)) ⟨ho,ho2,?_⟩
  rw[e];exact h2 hw
noncomputable def sIx(n d:Nat):Option Int->Nat
 |none=>d
 |some v=>if v<0 then(v+(n:Int)).toNat else min v.toNat n
theorem CB(n d:Nat)(hd:d<=n)(o:Option Int):sIx n d o<=n:=by
 cases o with
 |none=>exact hd
 |some v=>
  show(if v<0 then(v+(n:Int)).toNat else min v.toNat n)<=n;by_cases hv:v<0
  ·rw[if_pos hv];omega
  ·rw[if_neg hv];exact Nat.min_le_right _ _
theorem uq(v:Int)(n d:Nat):(if v<0 then max (v+(n:Int)) 0 else min v (n:Int))=((sIx n d (some v):Nat):Int):=by
 show(if v<0 then max (v+(n:Int)) 0 else min v (n:Int))=(((if v<0 then(v+(n:Int)).toNat else min v.toNat n):Nat):Int);by_cases hv:v<0
 ·simp only[if_pos hv];omega
 ·simp only[if_neg hv];omega
theorem vi(lo hi:Option Int)(n:Nat):Js lo hi 1 (n:Int)=(((sIx n 0 lo:Nat):Int),((sIx n n hi:Nat):Int)):=by
 have h1:¬((1:Int)<0):=by omega
 unfold Js;simp only[h1,if_false];refine Prod.ext ?_ ?_
 ·cases lo with
  |none=>rfl
  |some v=>exact uq v n 0
 ·cases hi with
  |none=>rfl
  |some v=>exact uq v n n
theorem vj(i j:Nat):HV (i:Int) (j:Int) 1=j-i:=by
 unfold HV;have h1:(1:Int)>0:=by omega
 simp only[h1,if_true,Int.ediv_one]
 split<;>omega
theorem nk{v:Value}{o:Option Int}{Q:Option Int->Shared->Prop}(p:IsPart v o)(h:Q o s):wpAny (model prog w) A (Builtin.Slice.slicePartIndex v) Q E s:=by
 cases p with
 |none=>exact slicePart_none h
 |int i t=>exact slicePart_int h
theorem mE{sl:Addr}{vl vu:Value}{lo hi:Option Int}{n:Nat}{Q:Int×Int×Nat->Shared->Prop}(hs:s.heap.IsSliceOf sl vl vu .none)(pl:IsPart vl lo)(pu:IsPart vu hi)
  (h:Q (((sIx n 0 lo:Nat):Int),1,sIx n n hi-sIx n 0 lo) s):wpAny (model prog w) A (Li (.ref sl) (pure (n:Int))) Q E s:=by
 obtain⟨os,hos,hcs,hds⟩:=id hs;unfold Li Builtin.Slice.sliceFields;refine EF (EF (Ga hos hds (x:=vl) rfl (EF (Ga hos hds (x:=vu) rfl (EF (Ga hos hds (x:=.none) rfl (EJ ?_)))))));refine EF (slicePart_none ?_);show wpAny _ _ (if((1:Int)==0)=true then _ else _) _ _ s;rw[if_neg (by decide)];refine EF (nk pl (EF (nk pu (EF (EJ ?_)))));show wpAny _ _ (match Js lo hi 1 (n:Int)with| (lo,hi)=>pure (lo,(1:Int),HV lo hi 1)) _ _ s;rw[vi lo hi n];show wpAny _ _ (pure (((sIx n 0 lo:Nat):Int),(1:Int),HV ((sIx n 0 lo:Nat):Int) ((sIx n n hi:Nat):Int) 1)) _ _ s;rw[vj];exact EJ h
theorem yR(xs:Array Value)(i k:Nat):((EY k).filterMap fun(m:Nat)=>xs[((i:Int)+(m:Int)*1).toNat]?).toArray=((xs.toList.drop i).take k).toArray:=by
 have e:(fun(m:Nat)=>xs[((i:Int)+(m:Int)*1).toNat]?)=fun m=>xs[i+m]?:=by
  funext m
  have:((i:Int)+(m:Int)*1).toNat=i+m:=by omega
  rw[this]
 rw[e];have:=pick_run xs i k;rw[List.filterMap_map]at this;have e2:((fun x=>xs[x]?)∘fun x=>i+x)=fun m=>xs[i+m]?:=rfl;rw[e2]at this;rw[this]
theorem lX{t sl:Addr}{items:Array Value}{vl vu:Value}{lo hi:Option Int}{Q:Value->Shared->Prop}(ht:IsTup s.heap t items)(hs:s.heap.IsSliceOf sl vl vu .none)(pl:IsPart vl lo)(pu:IsPart vu hi)
  (hw:¬(sIx items.size 0 lo=0/\sIx items.size items.size hi=items.size))
  (h:Q (.ref s.heap.objs.size) { s with heap:=s.heap.push { cls:=.type "tuple",data:=.seq ((items.toList.drop (sIx items.size 0 lo)).take (sIx items.size items.size hi-sIx items.size 0 lo)).toArray } })
  (hsz:items.size<=E1):wpAny (model prog w) A (getItem (.ref t) (.ref sl)) Q E s:=by
 have htake:sizeOk (.seq ((items.toList.drop (sIx items.size 0 lo)).take (sIx items.size items.size hi-sIx items.size 0 lo)).toArray):=by
  show((items.toList.drop (sIx items.size 0 lo)).take (sIx items.size items.size hi-sIx items.size 0 lo)).toArray.size<=E1;rw[E7,Fo,Gz,E9];omega
 have hj:sIx items.size items.size hi<=items.size:=CB _ _ (EM _) hi;obtain⟨os,hos,hcs,hds⟩:=id hs;have hTs:s.TypeIs (.ref sl) "slice":=⟨os,hos,hcs⟩;unfold getItem
 try with_reducible refine FV ?_
 first|refine EF (EJ ?_)|skip
 refine EF (wpAny_sequenceKey ht.typeIs (by decide) ?_);refine EF (FX (name:=GA "__getitem__") ht.typeIs Ik
  (FD Ik ht.typeIs entry_tuple_getitem ?_ (args_tuple_getitem _ _)))
 show wpAny _ _ (Lj (.ref t)>>=_) _ _ s;refine EF (tupleItemsOf_ ht ?_);refine EF (Kl hTs ?_);rw[if_pos (by decide)];refine EF (mE hs pl pu ?_);have hno:¬((((sIx items.size 0 lo:Nat):Int)==0&&(1:Int)==1&&(sIx items.size items.size hi-sIx items.size 0 lo)==items.size)=true):=by
  intro q;rw[Gr,Gr]at q;have q1:((sIx items.size 0 lo:Nat):Int)=0:=eq_of_beq q.1.1;have q2:sIx items.size items.size hi-sIx items.size 0 lo=items.size:=eq_of_beq q.2;exact hw ⟨by omega,by omega⟩
 show wpAny _ _ (if(((sIx items.size 0 lo:Nat):Int)==0&&(1:Int)==1&&(sIx items.size items.size hi-sIx items.size 0 lo)==items.size)=true then _ else _) _ _ s;rw[if_neg hno,yR]
 first
  |exact EF (m:=Ig _) (F8 (EJ ⟨_,rfl,EJ h⟩) htake)
  |exact EF (m:=Ig _) (F8 (EF (EJ (EJ ⟨_,rfl,EJ h⟩))) htake)
  |exact EF (EF (m:=Ig _) (F8 (EJ (EJ ⟨_,rfl,EJ h⟩)) htake))
  |exact EF (EF (m:=Ig _) (F8 (EJ ⟨_,rfl,EJ h⟩) htake))
end
end HT
namespace L2
open PySem PySem.Spec PyProof.Rows
noncomputable abbrev TO:=St->Hp->(Option Int->Hp->Prop)->Prop
noncomputable def PO(X:Cx)(e:Option Expr)(t:TO):Prop:=
 ∀(pins:List (Addr×Obj))(s:Shared)(σ:St)(H:Hp)(Q:Option Int->Hp->Prop),Inv X pins σ H s->t σ H Q->
  wpAny (model X.prog X.w) X.A (evalPart e X.env) (fun u s'=>∃o H',Inv X pins σ H' s'/\IsPart u o/\Q o H') X.xe s
noncomputable def jK:TO:=fun _ H Q=>Q none H
noncomputable def nq(t:TE):TO:=fun σ H Q=>t σ H fun x H1=>∃i,x=.int i/\Q (some i) H1
theorem iz{ns:List Int}:∀{us:List Value},aA (ns.map V.int) us->IntsAre us ns:=by
 induction ns with
 |nil=>intro us r;rw[HG]at r;cases r;exact .nil
 |cons n ns ih=>
  intro us r;rw[E6]at r;cases r with
  |cons r1 r2=>
   obtain⟨t,e⟩:=r1;subst e;exact .cons n t (ih r2)
section
variable{X:Cx}{e:Expr}{te:TE}{lo hi:Option Expr}{tl th:TO}{pos p2:Pos}
theorem oO:PO X none jK:=by
 intro pins s σ H Q I h;rw[evalPart_none];exact EJ ⟨none,H,I,.none,h⟩
theorem oP(h:PE X e te):PO X (some e) (nq te):=by
 intro pins s σ H Q I hw;rw[evalPart_some];refine thn (h pins s σ H _ I hw) fun u s1 ⟨x,H1,I1,r1,q1⟩=>?_;obtain⟨i,rfl,q⟩:=q1;obtain⟨t,rfl⟩:=r1;exact⟨some i,H1,I1,.int i t,q⟩
noncomputable def SlR(X:Cx)(r:V->Option Int->Option Int->Hp->VK->Prop):Prop:=
 ∀(pins:List (Addr×Obj))(s:Shared)(σ:St)(H:Hp)(x:V)(v vl vu:Value)(lo hi:Option Int)(sl:Addr)(Q:VK),Inv X pins σ H s->aB x v->s.heap.IsSliceOf sl vl vu .none->IsPart vl lo->IsPart vu hi->r x lo hi H Q->
  ∃T id,MU (.type T) "__getitem__"=pure (some (.builtin id))/\s.TypeIs v T/\wpAny (model X.prog X.w) X.A (getItem v (.ref sl)) (EP X pins σ Q) X.xe s
noncomputable def tSl(r:V->Option Int->Option Int->Hp->VK->Prop)(te:TE)(tl th:TO):TE:=fun σ H Q=>te σ H fun x H1=>tl σ H1 fun l H2=>th σ H2 fun u H3=>r x l u H3 Q
theorem mF{r:V->Option Int->Option Int->Hp->VK->Prop}(hr:SlR X r)(he:PE X e te)(hl:PO X lo tl)(hu:PO X hi th):PE X (.Subscript e (.Slice lo hi none p2) pos) (tSl r te tl th):=by
 intro pins s σ H Q I h;refine OF (thn (he pins s σ H _ I h) fun v s1 ⟨x,H1,I1,r1,q1⟩=>?_);refine wpAny_Slice (thn (hl pins s1 σ H1 _ I1 q1) fun vl s2 ⟨l,H2,I2,pl,q2⟩=>thn (hu pins s2 σ H2 _ I2 q2) fun vu s3 ⟨u,H3,I3,pu,q3⟩=>?_);rw[evalPart_none];refine EJ ?_;have I4:Inv X pins σ H3 { s3 with heap:=s3.heap.push { cls:=.type "slice",data:=.fields #[vl,vu,.none] } }:=I3.kept (t':=s3.toks) fun b ob q=>EH _ q;obtain⟨T,id,hT,ht,hg⟩:=hr pins { s3 with heap:=s3.heap.push { cls:=.type "slice",data:=.fields #[vl,vu,.none] } } σ H3 x v vl vu l u s3.heap.objs.size Q I4 r1 (Heap.IsSliceOf.new ..) pl pu q3;show wpAny (model X.prog X.w) X.A (M9 e (.Slice lo hi none p2) v (.ref s3.heap.objs.size)) (EP X pins σ Q) X.xe { s3 with heap:=s3.heap.push { cls:=.type "slice",data:=.fields #[vl,vu,.none] } };exact tail_any (ops:=[.ref s3.heap.objs.size,v]) ht hT hg (by with_unfolding_all rfl)
noncomputable def eN(xs:List V)(lo hi:Option Int):List V:=(xs.drop (HT.sIx xs.length 0 lo)).take (HT.sIx xs.length xs.length hi-HT.sIx xs.length 0 lo)
theorem ma(xs:List V)(lo hi:Option Int):(eN xs lo hi).length<=xs.length:=by
 unfold eN;rw[Fo,Gz];omega
noncomputable def Ef(K:Fg):V->Option Int->Option Int->Hp->VK->Prop:=fun x lo hi H Q=>∃a xs,x=.ref a/\SqT K H a xs/\
 ¬(HT.sIx xs.length 0 lo=0/\HT.sIx xs.length xs.length hi=xs.length)/\∀p,H p=none->Q (.ref p) (upd H p (.tup (eN xs lo hi)))
theorem CC:SlR X (Ef X.K):=by
 intro pins s σ H x v vl vu lo hi sl Q I rx hs pl pu h;obtain⟨a,xs,rfl,hx,hw,q⟩:=h;cases rx;obtain⟨its,r,ht,hz⟩:=I.tuple hx;have hlen:its.toArray.size=xs.length:=by rw[E7];exact r.length.symm
 refine⟨"tuple",_,Ik.lookup,ht.typeIs,?_⟩;refine HT.lX ht hs pl pu (by rw[hlen];exact hw) ?_ (by rw[hlen];exact hz);rw[hlen];refine⟨.ref s.heap.objs.size,_,I.laid (t':=s.toks) (o:=.tup (eN xs lo hi)) (fun b ob q=>EH _ q) (EM _) ?_,rfl,q _ (I.hok.fresh (EM _))⟩;exact⟨Fz (ma xs lo hi) hz,_,(r.drop (HT.sIx xs.length 0 lo)).take (HT.sIx xs.length xs.length hi-HT.sIx xs.length 0 lo),dz.new _ _⟩
noncomputable def DC(K:Fg):R2:=fun x y H Q=>∃a b xs ys,x=.ref a/\y=.ref b/\SqT K H a xs/\SqT K H b ys/\xs≠[]/\xs.length+ys.length<=E1/\
 (ys=[]->Q (.ref a) H)/\(ys≠[]->∀p,H p=none->Q (.ref p) (upd H p (.tup (xs++ys))))
theorem aA.nil_iff{xs:List V}{us:List Value}(r:aA xs us):us=[]↔xs=[]:=by
 cases r with
 |nil=>simp
 |cons _ _=>simp
theorem Bt:OpR X (Ie .Add) (DC X.K):=by
 intro pins s σ H x y v u Q I rx ry h;obtain⟨a,b,xs,ys,rfl,rfl,ha,hb,hx,hz,q1,q2⟩:=h;cases rx;cases ry;obtain⟨its,r1,p1,_⟩:=I.tuple ha;obtain⟨its2,r2,p2,_⟩:=I.tuple hb;refine HT.Bs p1 p2 (fun z=>hx (r1.nil_iff.mp z)) (fun z=>⟨.ref a,H,I,rfl,q1 (r2.nil_iff.mp z)⟩) (fun z=>?_) (by rw[<-r1.length,<-r2.length];exact hz);refine⟨.ref s.heap.objs.size,_,I.laid (t':=s.toks) (o:=.tup (xs++ys)) (fun b ob q=>EH _ q) (EM _) ?_,rfl,q2 (fun w=>z (r2.nil_iff.mpr w)) _ (I.hok.fresh (EM _))⟩;exact⟨by rw[EX];exact hz,_,r1.append r2,dz.new _ _⟩
end
end L2
namespace L2
open PySem PySem.Spec PyProof.Rows
noncomputable def ixN(n:Nat)(i:Int):Option Nat:=if 0<=i then(if i<n then some i.toNat else none)else if -(n:Int)<=i then some (i+n).toNat else none
noncomputable def atI{α:Type}(xs:List α)(i:Int):Option α:=(ixN xs.length i).bind fun j=>xs[j]?
theorem Bu{n:Nat}{i:Int}{j:Nat}(h:ixN n i=some j):NA i n=some j/\j<n/\-(n:Int)<=i/\i<n:=by
 unfold ixN at h;by_cases h0:0<=i
 ·rw[if_pos h0]at h
  by_cases h1:i<n
  ·rw[if_pos h1]at h
   have e:i.toNat=j:=Fd h;exact⟨by rw[seqIndex_of h0 h1,e],by omega,by omega,h1⟩
  ·rw[if_neg h1]at h;cases h
 ·rw[if_neg h0]at h
  by_cases h1:-(n:Int)<=i
  ·rw[if_pos h1]at h
   have e:(i+n).toNat=j:=Fd h;exact⟨by rw[seqIndex_neg (by omega) h1,e],by omega,h1,by omega⟩
  ·rw[if_neg h1]at h;cases h
theorem ur{α:Type}{xs:List α}{i:Int}{v:α}(h:atI xs i=some v):∃j,NA i xs.length=some j/\xs[j]?=some v/\j<xs.length/\-(xs.length:Int)<=i/\i<xs.length:=by
 unfold atI at h;cases e:ixN xs.length i with
 |none=>rw[e]at h;cases h
 |some j=>
  rw[e]at h;obtain⟨h1,h2,h3,h4⟩:=Bu e;exact⟨j,h1,h,h2,h3,h4⟩
theorem fK{α:Type}{xs:List α}{j:Nat}{v:α}(h:xs[j]?=some v):atI xs (j:Int)=some v:=by
 have hj:j<xs.length:=(EK.mp h).1;have e:ixN xs.length (j:Int)=some j:=by
  unfold ixN;rw[if_pos (by omega),if_pos (by omega)];simp
 unfold atI;rw[e];exact h
noncomputable def Bv(b:Expr):Prop:=∀o i,Mw b false o i=operate [o,i] (getItem o i)
noncomputable def IxR(X:Cx)(r:R2):Prop:=
 ∀(value slice:Expr)(pins:List (Addr×Obj))(s:Shared)(σ:St)(H:Hp)(x y:V)(v u:Value)(Q:VK),Inv X pins σ H s->aB x v->aB y u->r x y H Q->
  Mw slice false v u=operate [v,u] (getItem v u)->wpAny (model X.prog X.w) X.A (M9 value slice v u) (EP X pins σ Q) X.xe s
noncomputable def MtR(X:Cx)(id:String)(r:V->List V->Hp->VK->Prop):Prop:=
 ∀(pins:List (Addr×Obj))(s:Shared)(σ:St)(H:Hp)(x:V)(xs:List V)(v:Value)(us:List Value)(Q:VK),Inv X pins σ H s->aB x v->aA xs us->r x xs H Q->
  wpAny (model X.prog X.w) X.A (call (.builtin id) (v::us)) (EP X pins σ Q) X.xe s
section
variable{X:Cx}{a b:Expr}{ta tb:TE}{pos:Pos}
theorem aD{r:R2}(hr:IxR X r)(ha:PE X a ta)(hb:PE X b tb)(hs:Bv b):PE X (.Subscript a b pos) (tOp r ta tb):=by
 intro pins s σ H Q I h;exact OF (yK ha hb I h fun v u s2 x y H2 I2 rx ry q=>hr a b pins s2 σ H2 x y v u Q I2 rx ry q (hs _ _))
noncomputable def aU(K:Fg):R2:=fun x y H Q=>∃p xs i v,x=.ref p/\y=.int i/\SqL K H p xs/\atI xs i=some v/\Q v H
noncomputable def kT(K:Fg):R2:=fun x y H Q=>∃p xs i v,x=.ref p/\y=.int i/\SqT K H p xs/\atI xs i=some v/\Q v H
theorem av:IxR X (aU X.K):=by
 intro value slice pins s σ H x y v u Q I rx ry h hs;obtain⟨p,xs,i,z,rfl,rfl,hq,he,q⟩:=h;cases rx;obtain⟨t,rfl⟩:=ry;obtain⟨its,r,pl,hz⟩:=I.list hq;obtain⟨j,h1,h2,h3,h4,h5⟩:=ur he;obtain⟨w,ew,rw'⟩:=r.get h2;have hl:=r.length;have hn:=rf;have fin:EP X pins σ Q w s:=⟨z,H,I,rw',q⟩;by_cases h0:0<=i
 ·have hj:i.toNat=j:=by
   rw[seqIndex_of h0 h5]at h1;exact Fd h1
  exact item_listR pl.isList h0 (by omega) (by rw[hj];simpa using ew) fin hs
 ·have hj:(i+(its.toArray.size:Int)).toNat=j:=by
   rw[seqIndex_neg (by omega) h4]at h1;rw[E7,<-hl];exact Fd h1
  exact Mx (x:=w) pl.isList.typeIs NQ.lookup
   (wpAny_getItem_list_neg (Q:=fun r s'=>r=w/\EP X pins σ Q r s') pl.isList (by omega) (by rw[E7]<;>omega) (by omega) (by rw[hj];simpa using ew) ⟨rfl,fin⟩) hs
theorem jL:IxR X (kT X.K):=by
 intro value slice pins s σ H x y v u Q I rx ry h hs;obtain⟨p,xs,i,z,rfl,rfl,hq,he,q⟩:=h;cases rx;obtain⟨t,rfl⟩:=ry;obtain⟨its,r,pl,hz⟩:=I.tuple hq;obtain⟨j,h1,h2,h3,h4,h5⟩:=ur he;obtain⟨w,ew,rw'⟩:=r.get h2;have hl:=r.length;have hn:=rf;have fin:EP X pins σ Q w s:=⟨z,H,I,rw',q⟩;exact Mx (x:=w) pl.typeIs slot_tuple_getitem.lookup
  (getItem_tuple (j:=j) (Q:=fun r s'=>r=w/\EP X pins σ Q r s') pl (by omega) (by omega) (by rw[E7,<-hl];exact h1) (by simpa using ew) ⟨rfl,fin⟩) hs
theorem Inv.lst{pins:List (Addr×Obj)}{σ:St}{H:Hp}{s:Shared}{p:Addr}{xs:List V}(I:Inv X pins σ H s)(h:H p=some (.lst xs)):
  ∃(its:List Value)(n:Nat),aA xs its/\s.heap.get? p=some { cls:=.type "list",data:=.seq its.toArray n }/\xs.length<=E1:=by
 obtain⟨z,its,n,r,e⟩:=I.hok p _ h;exact⟨its,n,r,e,z⟩
theorem rj(lo hi:Option Int)(n:Nat):(Jk lo hi none n).1=((HT.sIx n 0 lo:Nat):Int)/\(Jk lo hi none n).2.1=((HT.sIx n n hi:Nat):Int)/\(Jk lo hi none n).2.2=1:=by
 refine⟨?_,?_,rfl⟩
 ·cases lo with
  |none=>simp[Jk,HT.sIx]
  |some i=>
   simp only[Jk,HT.sIx,Oo,show(1:Int)>0 by decide,if_true];by_cases h:i<0
   ·simp only[h,if_true]<;>omega
   ·simp only[h,if_false]<;>omega
 ·cases hi with
  |none=>simp[Jk,HT.sIx]
  |some i=>
   simp only[Jk,HT.sIx,Oo,show(1:Int)>0 by decide,if_true];by_cases h:i<0
   ·simp only[h,if_true]<;>omega
   ·simp only[h,if_false]<;>omega
theorem qo(its:List Value)(lo hi:Option Int):slicePick its.toArray lo hi none=((its.drop (HT.sIx its.length 0 lo)).take (HT.sIx its.length its.length hi-HT.sIx its.length 0 lo)).toArray:=by
 obtain⟨h1,h2,h3⟩:=rj lo hi its.toArray.size;unfold slicePick;rw[h1,h2,h3];simp only[sliceRange_one,pick_run,E7]<;>rfl
noncomputable def Eg(K:Fg):V->Option Int->Option Int->Hp->VK->Prop:=fun x lo hi H Q=>∃a xs,x=.ref a/\SqL K H a xs/\∀p,H p=none->Q (.ref p) (upd H p (.lst (eN xs lo hi)))
theorem Bw:SlR X (Eg X.K):=by
 intro pins s σ H x v vl vu lo hi sl Q I rx hs pl pu h;obtain⟨a,xs,rfl,hx,q⟩:=h;cases rx;obtain⟨its,r,ht,hz⟩:=I.list hx;have hlen:=r.length;refine⟨"list",_,NQ.lookup,ht.isList.typeIs,?_⟩;refine wpAny_getItem_list_slice ht.isList hs pl pu .none (by simp) ?_ (by rw[E7]<;>omega);rw[qo,<-hlen];refine⟨.ref s.heap.objs.size,_,I.laid (t':=s.toks) (o:=.lst (eN xs lo hi)) (fun b ob q=>EH _ q) (EM _) ?_,rfl,q _ (I.hok.fresh (EM _))⟩;exact⟨Fz (ma xs lo hi) hz,_,0,(r.drop (HT.sIx xs.length 0 lo)).take (HT.sIx xs.length xs.length hi-HT.sIx xs.length 0 lo),ES _ rfl⟩
noncomputable def fh:V->Bool
 | .non=>true
 | .bl _=>true
 | .int _=>true
 | .str _=>true
 |_=>false
noncomputable def eqV:V->V->Bool
 | .non,.non=>true
 | .bl a,.bl b=>a==b
 | .bl a,.int b=>(if a then 1 else 0)==b
 | .int a,.bl b=>a==(if b then 1 else 0)
 | .int a,.int b=>a==b
 | .str a,.str b=>a==b
 |_,_=>false
theorem w5{A:Around}{s:Shared}{y x:V}{u v:Value}(ry:aB y u)(rx:aB x v)(fy:fh y=true)(fx:fh x=true):Fl A s u v (eqV y x):=by
 cases y with
 |non=>
  cases ry;cases x with
  |non=>cases rx;exact Mn _
  |bl b=>cases rx;exact MV b
  |int b=>obtain⟨t,rfl⟩:=rx;exact Nl b t
  |str b=>obtain⟨t,rfl⟩:=rx;exact Fl.none_str b t
  |_=>exact absurd (show false=true from fx) EU
 |bl a=>
  cases ry;cases x with
  |non=>cases rx;exact MW a
  |bl b=>cases rx;exact MX a b
  |int b=>obtain⟨t,rfl⟩:=rx;exact Nm a b t
  |str b=>obtain⟨t,rfl⟩:=rx;exact Fl.bool_str a b t
  |_=>exact absurd (show false=true from fx) EU
 |int a=>
  obtain⟨t',rfl⟩:=ry;cases x with
  |non=>cases rx;exact Nn a t'
  |bl b=>cases rx;exact Np a t' b
  |int b=>obtain⟨t,rfl⟩:=rx;exact KY a t' b t
  |str b=>obtain⟨t,rfl⟩:=rx;exact Nt a t' b t
  |_=>exact absurd (show false=true from fx) EU
 |str a=>
  obtain⟨t',rfl⟩:=ry;cases x with
  |non=>cases rx;exact Fl.str_none a t'
  |bl b=>cases rx;exact Fl.str_bool a t' b
  |int b=>obtain⟨t,rfl⟩:=rx;exact Nu a t' b t
  |str b=>obtain⟨t,rfl⟩:=rx;exact Fl.str_str a t' b t
  |_=>exact absurd (show false=true from fx) EU
 |_=>exact absurd (show false=true from fy) EU
noncomputable def eqU(x:V)(u:Value):Bool:=match u with
 | .none=>eqV .non x
 | .bool b=>eqV (.bl b) x
 | .int i _=>eqV (.int i) x
 | .str z _=>eqV (.str z) x
 |_=>false
theorem w6{x y:V}{u:Value}(r:aB y u)(f:fh y=true):eqU x u=eqV y x:=by
 cases y with
 |non=>cases r;rfl
 |bl b=>cases r;rfl
 |int i=>obtain⟨t,rfl⟩:=r;rfl
 |str z=>obtain⟨t,rfl⟩:=r;rfl
 |_=>exact absurd (show false=true from f) EU
theorem rk{A:Around}{s:Shared}{x:V}{v:Value}(rx:aB x v)(fx:fh x=true):∀{xs:List V} {us:List Value},aA xs us->xs.all fh=true->∀u∈us,Fl A s u v (eqU x u)
 |_,_,.nil,_=>fun u hu=>by cases hu
 |y::xs,u::us,.cons r t,f=>fun u' hu=>by
  rw[Jg,Gr]at f;rcases EV.mp hu with rfl|hu
  ·rw[w6 r f.1];exact w5 r rx f.1 fx
  ·exact rk rx fx t f.2 u' hu
theorem aI:cw X (.builtin "len") (fun xs H Q=>∃p ys,xs=[.ref p]/\(SqL X.K H p ys\/SqT X.K H p ys)/\Q (.int ys.length) H):=by
 intro pins s σ H xs us Q I r h;obtain⟨p,ys,rfl,hq,q⟩:=h;obtain⟨u,rfl,rx⟩:=nj r;cases rx;have hn:=rf;rcases hq with hq|hq
 ·obtain⟨its,r',pl,hz⟩:=I.list hq
  have hlen:=r'.length;exact Calls.call_len_list pl.isList (by simp only[E7]<;>omega) ⟨.int ys.length,H,I.tok _,⟨s.toks+1,by rw[E7,hlen]⟩,q⟩
 ·obtain⟨its,r',pl,hz⟩:=I.tuple hq
  have hlen:=r'.length;exact len_tuple pl (by simp only[E7]<;>omega) ⟨.int ys.length,H,I.tok _,⟨s.toks+1,by rw[E7,hlen]⟩,q⟩
theorem rq:cw X (.type "list") (fun xs H Q=>∃p ys,xs=[.ref p]/\(SqL X.K H p ys\/SqT X.K H p ys)/\∀l,H l=none->Q (.ref l) (upd H l (.lst ys))):=by
 intro pins s σ H xs us Q I r h;obtain⟨p,ys,rfl,hq,q⟩:=h;obtain⟨u,rfl,rx⟩:=nj r;cases rx;have fin:∀(its:List Value),aA ys its->ys.length<=E1->∀(h':Heap)(c':Nat),(∀b o',s.heap.get? b=some o'->h'.get? b=some o')->
   h'.get? s.heap.objs.size=some { cls:=.type "list",dict:=none,data:=.seq its.toArray c',slots:=#[] }->EP X pins σ Q (.ref s.heap.objs.size) { s with heap:=h' }:=fun its r' hz h' c' kp e=>
  ⟨.ref s.heap.objs.size,_,I.laid (t':=s.toks) kp (EM _) (show br X.prog X.w _ h' _ (.lst ys)from⟨hz,its,c',r',e⟩),rfl,q _ (I.hok.fresh (EM _))⟩
 rcases hq with hq|hq
 ·obtain⟨its,r',pl,hz⟩:=I.list hq
  have hlen:=r'.length;obtain⟨o,ho,hc,n,hd⟩:=pl.isList;exact call_list_seq p (.inl rfl) ho hc hd (fun h' c' kp e=>fin its r' hz h' c' kp e) (by simp only[E7]<;>omega)
 ·obtain⟨its,r',pl,hz⟩:=I.tuple hq
  have hlen:=r'.length;obtain⟨o,ho,hc,n,hd⟩:=pl;exact call_list_seq p (.inr rfl) ho hc hd (fun h' c' kp e=>fin its r' hz h' c' kp e) (by simp only[E7]<;>omega)
theorem kK:cw X (.type "tuple") (fun xs H Q=>∃p ys,xs=[.ref p]/\((SqL X.K H p ys/\∀l,H l=none->Q (.ref l) (upd H l (.tup ys)))\/(SqT X.K H p ys/\Q (.ref p) H))):=by
 intro pins s σ H xs us Q I r h;obtain⟨p,ys,rfl,h⟩:=h;obtain⟨u,rfl,rx⟩:=nj r;cases rx;rcases h with⟨hq,q⟩|⟨hq,q⟩
 ·obtain⟨its,r',pl,hz⟩:=I.list hq
  have hlen:=r'.length;refine call_tuple_list pl.isList (fun h' kp=>?_) (by simp only[E7]<;>omega);have I1:Inv X pins σ H { s with heap:=h' }:=I.kept (t':=s.toks) kp;have I2:Inv X pins σ (upd H h'.objs.size (.tup ys)) { s with heap:=h'.push { cls:=.type "tuple",data:=.seq its.toArray } }:=
   I1.laid (t':=s.toks) (fun b o e=>EH _ e) (EM _) (show br X.prog X.w _ _ _ (.tup ys)from⟨hz,its,r',dz.new _ _⟩)
  exact⟨.ref h'.objs.size,_,I2,rfl,q _ (I1.hok.fresh (EM _))⟩
 ·obtain⟨its,r',pl,hz⟩:=I.tuple hq
  exact call_tuple_same pl ⟨.ref p,H,I,rfl,q⟩
noncomputable def tyV(K:Fg)(T:String)(x:V)(H:Hp):Prop:=match x with
 | .str _=>T="str"
 | .int _=>T="int"
 | .ref p=>(T="list"/\∃xs,SqL K H p xs)\/(T="tuple"/\∃o,K.lookup p=some o/\o.cls=.type "tuple"/\o.dict=none)\/
   (T="dict"/\((∃kvs,H p=some (.dK kvs))\/∃kvs,H p=some (.dT kvs)))\/(T="set"/\∃S n,H p=some (.set S n))
 |_=>False
theorem CD{pins:List (Addr×Obj)}{σ:St}{H:Hp}{s:Shared}{T:String}{x:V}{v:Value}(I:Inv X pins σ H s)(r:aB x v)(ty:tyV X.K T x H):
  s.TypeIs v T/\∀a,v=.ref a->∃ob,s.heap.get? a=some ob/\ob.dict=none:=by
 cases x with
 |str z=>
  obtain⟨t,rfl⟩:=r;cases (show T="str" from ty);exact⟨typeIs_str s z t,fun _ e=>nomatch e⟩
 |int i=>
  obtain⟨t,rfl⟩:=r;cases (show T="int" from ty);exact⟨typeIs_int s i t,fun _ e=>nomatch e⟩
 |ref p=>
  cases r;rcases ty with⟨rfl,xs,hq⟩|⟨rfl,o,hk,hc,hd⟩|⟨rfl,hk⟩|⟨rfl,S,n,hk⟩
  ·obtain⟨its,_,pl,_⟩:=I.list hq
   refine⟨pl.isList.typeIs,fun a e=>?_⟩;cases e;obtain⟨o,n,e,c,hd,_⟩:=pl;exact⟨o,e,hd⟩
  ·refine⟨⟨o,I.kIn p o hk,hc⟩,fun a e=>?_⟩
   cases e;exact⟨o,I.kIn _ o hk,hd⟩
  ·have z:∃o,s.heap.get? p=some o/\o.ExactDict:=by
    rcases hk with⟨kvs,hk⟩|⟨kvs,hk⟩
    ·obtain⟨_,_,_,_,o,_,_,e,ex,_⟩:=I.hok p _ hk
     exact⟨o,e,ex⟩
    ·obtain⟨_,_,_,_,o,_,_,e,ex,_⟩:=I.hok p _ hk
     exact⟨o,e,ex⟩
   obtain⟨o,e,ex⟩:=z;refine⟨⟨o,e,ex.1⟩,fun a e2=>?_⟩;cases e2;exact⟨o,e,ex.2.1⟩
  ·obtain⟨o,_,_,_,e,ex,_⟩:=I.hok p _ hk
   refine⟨⟨o,e,ex.1⟩,fun a e2=>?_⟩;cases e2;exact⟨o,e,ex.2.1⟩
 |_=>exact G9 ty
noncomputable def tBM(K:Fg)(T:String)(r:V->List V->Hp->VK->Prop)(to:TE)(t:TA):TE:=fun σ H Q=>to σ H fun x H1=>tyV K T x H1/\t σ H1 fun xs H2=>r x xs H2 Q
variable{o e:Expr}{es:List Expr}{to:TE}{t:TA}{name:Str}{apos cpos:Pos}{T id:String}{r:V->List V->Hp->VK->Prop}
theorem lq(pa:PlainAttrs T)(slot:Slot T name id)(hty:typeOf (.builtin id)=pure (.type "method_descriptor"))(hm:MtR X id r)(ho:PE X o to)(ha:PA X (e::es) t)
  (hbase:Lk o name X.env (eval o X.env)=eval o X.env:=by rfl)
  (hfew:((backTo cpos (Fc (e::es) X.env)).all (fun x=>!x.1)&&(LF cpos (JZ [] X.env)).all (fun x=>x.1.isSome)
   &&decide ((e::es).length+([]:List Keyword).length+(if([]:List Keyword).isEmpty then 0 else 1)<30))=true:=by rfl)
  (hline:(apos.endLine==cpos.line)=true:=by rfl) (hs:Fc (e::es) X.env=(false,eval e X.env)::Fc es X.env:=by rfl) (hplain:(backTo cpos (Fc es X.env)).any (·.1)=false:=by rfl):
  PE X (.Call (.Attribute o name apos) (e::es) [] cpos) (tBM X.K T r to t):=by
 intro pins s σ H Q I h;refine J1 hbase hfew hline rfl (thn (ho pins s σ H _ I h) fun v s1 ⟨x,H1,I1,r1,ty,q1⟩=>?_);obtain⟨h1,h2⟩:=CD I1 r1 ty;refine⟨T,id,pa,slot,hty,h1,h2,?_⟩;have hA:=ha cpos pins s1 σ H1 _ I1 q1;rw[hs]at hA ⊢;refine J2 (by show(false||(backTo cpos (Fc es X.env)).any (·.1))=false;rw[hplain]<;>rfl) (IY ?_);exact thn hA fun us s2 ⟨vs,H2,I2,r2,q2⟩=>hm pins s2 σ H2 x vs v us Q I2 r1 r2 q2
end
end L2
namespace L2
open PySem PySem.Spec PyProof.Rows
noncomputable def MtM(X:Cx)(id:String)(r:V->List V->Hp->VK->Prop):Prop:=
 ∀(pins:List (Addr×Obj))(s:Shared)(σ:St)(H:Hp)(x:V)(xs:List V)(v:Value)(us:List Value)(Q:VK),Inv X pins σ H s->aB x v->aA xs us->r x xs H Q->
  wpAny (model X.prog X.w) X.A (call (.builtin id) (v::us)) (EP X pins σ Q) X.xe s
theorem aA.one{x:V}{us:List Value}(h:aA [x] us):∃u,us=[u]/\aB x u:=by
 cases h with
 |cons r t=>cases t;exact⟨_,rfl,r⟩
theorem aA.two{x y:V}{us:List Value}(h:aA [x,y] us):∃u v,us=[u,v]/\aB x u/\aB y v:=by
 cases h with
 |cons r t=>cases t with
  |cons q z=>cases z;exact⟨_,_,rfl,r,q⟩
theorem aA.zero:∀{us:List Value},aA [] us->us=[]
 |_,.nil=>rfl
theorem aA.eraseIdx:∀{xs:List V} {us:List Value} (i:Nat),aA xs us->aA (xs.eraseIdx i) (us.eraseIdx i)
 |_,_,_,.nil=>.nil
 |_,_,0,.cons _ t=>t
 |_,_,i+1,.cons r t=>.cons r (aA.eraseIdx i t)
theorem pL{α:Type}:∀(l:List α)(i:Nat),(l.eraseIdx i).length<=l.length
 | [],_=>EM _
 |_::_,0=>Jl _
 |_::r,i+1=>LJ (pL r i)
section
variable{X:Cx}{pins:List (Addr×Obj)}{σ:St}{H:Hp}{s:Shared}{l b:Addr}{xs ys zs:List V}
theorem Inv.lset{its its':List Value}{n:Nat}{f:Array Value->Array Value}{t':Nat}(I:Inv X pins σ H s)(hH:H l=some (.lst xs))
  (e:s.heap.get? l=some { cls:=.type "list",data:=.seq its.toArray n }) (hf:f its.toArray=its'.toArray) (hv:aA ys its') (hz:ys.length<=E1):
  Inv X pins σ (upd H l (.lst ys)) { s with heap:=s.heap.update l (GD f),toks:=t' }:=by
 have q:=PySem.IsL.update e f;rw[hf]at q;refine I.write (x:=l) (e:=l) (by rw[hH];exact trivial) (.inl rfl) (fun b' u hb hu=>(FU s.heap (GD f) (Ge hb)).trans hu) ⟨_,q⟩ ?_;exact⟨hz,its',_,hv,q⟩
theorem Inv.lnew{its:List Value}{t':Nat}(I:Inv X pins σ H s)(hv:aA ys its)(hz:ys.length<=E1):
  Inv X pins σ (upd H s.heap.objs.size (.lst ys)) { s with heap:=s.heap.push { cls:=.type "list",data:=.seq its.toArray },toks:=t' }:=
 I.laid (fun _ _ q=>EH _ q) (EM _) ⟨hz,its,0,hv,ES _ rfl⟩
theorem Inv.fresh(I:Inv X pins σ H s):H s.heap.objs.size=none:=I.hok.fresh (EM _)
theorem Inv.lstM(I:Inv X pins σ H s)(hH:H l=some (.lst xs)):xs.length<=E1/\∃(its:List Value)(n:Nat),aA xs its/\xs.length=its.length/\s.heap.get? l=some { cls:=.type "list",data:=.seq its.toArray n }:=by
 obtain⟨z,its,n,r,e⟩:=I.hok l _ hH;exact⟨z,its,n,r,r.length,e⟩
theorem yS{n:Nat}(h:n<=E1):JA n=false:=by
 unfold JA;exact decide_eq_false (by omega)
end
section
variable{X:Cx}
noncomputable def lr:V->List V->Hp->VK->Prop:=fun x vs H Q=>∃l xs y,x=.ref l/\vs=[y]/\H l=some (.lst xs)/\xs.length<E1/\Q .non (upd H l (.lst (xs++[y])))
theorem kU:MtM X "list.append" lr:=by
 intro pins s σ H x vs v us Q I rx rv h;obtain⟨l,xs,y,rfl,rfl,hH,hz,q⟩:=h;cases rx;obtain⟨u,rfl,ru⟩:=rv.one;obtain⟨z,its,n,r,hl,e⟩:=I.lstM hH;refine Km F.slot_list_append ⟨_,e,rfl⟩ F.entry_list_append (F.args_list_append_2 _ _) (PySem.list_append l its.toArray n u (by rw[E7];omega)) ⟨e,?_⟩;refine⟨.non,_,I.lset (its':=its++[u]) hH e (by simp) (r.append (.cons ru .nil)) ?_,rfl,q⟩;rw[EX,Kc];omega
noncomputable def jM:V->List V->Hp->VK->Prop:=fun x vs H Q=>∃l b xs zs,x=.ref l/\vs=[.ref b]/\H l=some (.lst xs)/\H b=some (.lst zs)/\xs.length+zs.length<=E1/\Q .non (upd H l (.lst (xs++zs)))
theorem pM:MtM X "list.extend" jM:=by
 intro pins s σ H x vs v us Q I rx rv h;obtain⟨l,b,xs,zs,rfl,rfl,hH,hB,hz,q⟩:=h;cases rx;obtain⟨u,rfl,ru⟩:=rv.one;cases ru;obtain⟨z,its,n,r,hl,e⟩:=I.lstM hH;obtain⟨z2,its2,n2,r2,hl2,e2⟩:=I.lstM hB;have hsz:its.toArray.size+its2.toArray.size<=E1:=by rw[E7,E7];omega
 have hlong:¬(!its.toArray.isEmpty&&JA (its.toArray.size+its2.toArray.size))=true:=by
  rw[yS hsz,MC];exact EU
 refine Km F.slot_list_extend ⟨_,e,rfl⟩ F.entry_list_extend (F.args_list_extend_2 _ _)
  (AutoSeq1.list_extend_list_list_0 l its.toArray n b its2.toArray n2 hlong (by rw[E7];omega) (by omega)) ⟨e,e2,?_⟩
 refine⟨.non,_,I.lset (its':=its++its2) hH e (by simp) (r.append r2) ?_,rfl,q⟩;rw[EX];omega
noncomputable def rA:V->List V->Hp->VK->Prop:=fun x vs H Q=>∃l xs i k y,x=.ref l/\vs=[.int i]/\H l=some (.lst xs)/\-(2^63)<=i/\i<2^63/\NA i xs.length=some k/\xs[k]?=some y/\Q y (upd H l (.lst (xs.eraseIdx k)))
theorem yT:MtM X "list.pop" rA:=by
 intro pins s σ H x vs v us Q I rx rv h;obtain⟨l,xs,i,k,y,rfl,rfl,hH,h1,h2,hk,hy,q⟩:=h;cases rx;obtain⟨u,rfl,ru⟩:=rv.one;obtain⟨t,rfl⟩:=ru;obtain⟨z,its,n,r,hl,e⟩:=I.lstM hH;obtain⟨w,hw,rw'⟩:=r.get hy;refine Km F.slot_list_pop ⟨_,e,rfl⟩ F.entry_list_pop (F.args_list_pop_2 _ _)
  (MeetsSeq.list_pop_at l its.toArray n i t k w (fitsIndex_both h1 h2) (by rw[E7,<-hl];exact hk) (by rw[<-Fq];exact hw) (by rw[E7];omega)) ⟨e,?_⟩
 refine⟨y,_,I.lset (its':=its.eraseIdx k) hH e ?_ (r.eraseIdx k) ?_,rw',q⟩
 ·show its.toArray.eraseIdxIfInBounds k=(its.eraseIdx k).toArray
  rw[List.eraseIdxIfInBounds_toArray]
 ·have:=pL xs k
  omega
noncomputable def CG:R2:=fun x y H Q=>∃l b xs zs,x=.ref l/\y=.ref b/\H l=some (.lst xs)/\H b=some (.lst zs)/\xs.length+zs.length<=E1/\∀p,H p=none->Q (.ref p) (upd H p (.lst (xs++zs)))
theorem rB:OpR X (Ie .Add) CG:=by
 intro pins s σ H x y v u Q I rx ry h;obtain⟨l,b,xs,zs,rfl,rfl,hH,hB,hz,q⟩:=h;cases rx;cases ry;obtain⟨z,its,n,r,hl,e⟩:=I.lstM hH;obtain⟨z2,its2,n2,r2,hl2,e2⟩:=I.lstM hB;refine PySem.P.add_list e e2 ?_ (by rw[E7,E7];omega);have ea:its.toArray++its2.toArray=(its++its2).toArray:=by simp
 rw[ea];exact⟨.ref _,_,I.lnew (t':=s.toks) (r.append r2) (by rw[EX];omega),rfl,q _ I.fresh⟩
end
section
variable{prog:Program}{w:World}{A:Around}{E:Value->Shared->Prop}{s:Shared}
end
section
variable{X:Cx}
end
end L2
namespace Att
open PySem PySem.W PySem.Calls PyProof.Rows
theorem nr{P:Params}{h:Heap}:∀(ns:List Int)(vs:List Value),WellAll P h vs (ns.map WData.int)->IntsAre vs ns:=by
 intro ns
 induction ns with
 |nil=>
  intro vs w;rw[HG]at w;cases w;exact .nil
 |cons n ns ih=>
  intro vs w;rw[E6]at w;cases w with
  |cons a b=>
   cases a;exact .cons _ _ (ih _ b)
theorem w9{l:OpenLaw}{n:Nat}(hn:l.most=some n){P:Params}{h:Heap}{args:List WData}{vals:List Value}
  (hpre:l.row.toRowW.claim.pre args=true) (hwl:WellAll P h vals args):
  ∃a vs ns,vals=[Fh a]/\args=[WData.list (ns.map WData.int)]/\h.get? a=some { cls:=.type "list",data:=.seq vs.toArray }/\IntsAre vs ns/\ns.length<=n:=by
 have hsh:WShape.hasAll [] args [.list .int]=true:=(pre_splitW hpre).1;have hc:l.pre.holds [] { args:=args }=true:=(pre_splitW hpre).2;obtain⟨d,r,rfl,h1,h2⟩:=hasAllW_cons hsh;obtain rfl:=hasAllW_nil h2;obtain⟨xs,rfl,h3⟩:=hasW_list h1;obtain⟨ns,rfl⟩:=items_int h3;have hlen:ns.length<=n:=by
  unfold OpenLaw.pre at hc;have h4:(WTm.not (.lt (.lit (.int (n:Int))) (.len (.arg 0)))).holds [] { args:=[.list (ns.map .int)] }=true:=by
   have h4:=(holds_andW hc).1;rw[hn]at h4;exact h4
  have h5:=condW_of h4 (w_not (w_lt w_lit (w_len_list (w_arg rfl))));rw[EI]at h5;refine Nat.le_of_not_lt fun q=>?_;have q':(n:Int)<((ns.length:Nat):Int):=by omega
  first
   | (rw[decide_eq_true q']at h5;exact absurd h5 (by decide))
   | (simp at h5;omega)
 cases hwl with
 |cons w1 w2=>
  cases w2;cases w1 with
  |list ho hall=>exact⟨_,_,ns,rfl,rfl,ho,nr ns _ hall,hlen⟩
theorem xa(l:OpenLaw)(args:List WData):l.row.toRowW.claim.post args (.bool true) args=true:=
 postW_of (r:=l.row.toRowW) (X:=(true==true))
  (show WShape.has [] (.bool true) .bool=true by first|rfl|decide|simp[WShape.has,WShape.arms,WShape.armsAll])
  (show(WTm.eq .res (.lit (.bool true))).value [] { args:=args,res:=some (.bool true),after:=args }=some (.bool (true==true))from w_eq_bool (w_res rfl) w_lit) rfl
section
variable{prog:Program}{w:World}{A:Around}{E:Value->Shared->Prop}{s:Shared}{K:Frag}
end
end Att
namespace L2
open PySem PySem.Spec PyProof.Rows
theorem pN:∀{vs:List Value} {ns:List Int},IntsAre vs ns->aA (ns.map V.int) vs
 |_,_,.nil=>.nil
 |_,_,.cons n t h=>.cons ⟨t,rfl⟩ (pN h)
noncomputable def CH(H:Hp):Prop:=∀b,H b=none\/∃o xs,H b=some (.frz o (.lst xs))
theorem yU{P:Program}{w:World}{K:Fg}{mg mb:Str->Option Value}{CX:CXT}{k:Nat}{fa a:Addr}{fd:Fk}{x:Str}{sp:Sp}{s₁:Shared}{vs:List Value}{ns:List Int}
  (KX:K.In s₁.heap) (hns:s₁.heap.Ns Fj mg) (hb:s₁.heap.Ns OB mb) (hbb:∀x:Str,x≠"__name__"->mb x=IJ x) (hlim:s₁.heap.NoLimit) (hg:s₁.gens=#[])
  (ha:s₁.heap.get? a=some { cls:=.type "list",data:=.seq vs.toArray }) (hi:IntsAre vs ns) (hl:ns.length<=E1) (hr:b7 k callerA)
  (F:∀base:Heap,K.In base->base.Ns Fj mg->bU P w K mg base CX k fa fd [x] sp) (hbind:∀(s:Shared)(u:Value),BindsTo s fd ⟨[u],[]⟩ [(x,u)])
  (hsp:∀H:Hp,CH H->SqL K H a (ns.map V.int)->sp [.ref a] H (fun v _=>v=.bl true) fun _ _ _=>False)
  (hCX:∀H e s',CX [] H s₁ (fun _ _ _=>False) e s'->False):
  codeAny (model P w) callerA (.call (.ref fa) ⟨[.ref a],[]⟩) (fun r s'=>r=.ok (.ret (.bool true))/\OldK s₁.heap s'.heap/\s'.os=s₁.os/\AllBare s'.gens) s₁:=by
 have rv:=pN hi;have lenV:=hi.length;have core:∀H:Hp,CH H->SqL K H a (ns.map V.int)->HOk P w H s₁.heap->(∀b,H b≠none->b=a)->(H a≠none->K.lookup a=none)->
   codeAny (model P w) callerA (.call (.ref fa) ⟨[.ref a],[]⟩) (fun r s'=>r=.ok (.ret (.bool true))/\OldK s₁.heap s'.heap/\s'.os=s₁.os/\AllBare s'.gens) s₁:=by
  intro H hO hS hok hA hK;have base_of:∀{b:Addr} {o:Obj},s₁.heap.get? b=some o->H b=none->(jY s₁.heap H).get? b=some o:=fun e n=>yG e n;have noA:∀{b:Addr} {o:Obj} {es:Array Nx} {ep:Nat},s₁.heap.get? b=some o->o.data=.dict es ep->H b=none:=fun{b o es ep} e d=>by
   cases q:H b with
   |none=>rfl
   |some u=>
    have e':b=a:=hA b (by rw[q];simp);subst e';rw[ha]at e;cases e;have d':Data.seq vs.toArray _=Data.dict es ep:=d;cases d'
  have nsK:∀{b:Addr} {m:Str->Option Value},s₁.heap.Ns b m->(jY s₁.heap H).Ns b m:=fun{b m} ⟨o,es,ep,e,d,r⟩=>⟨o,es,ep,base_of e (noA e d),d,r⟩;have hKb:K.In (jY s₁.heap H):=fun b o e=>base_of (KX b o e) (by
   cases q:H b with
   |none=>rfl
   |some u=>
    have e':b=a:=hA b (by rw[q];simp);subst e';rw[hK (by rw[q];simp)]at e;cases e)
  have hM:Mod K mg (jY s₁.heap H):=⟨hKb,nsK hns,⟨mb,nsK hb,hbb⟩,let⟨mc,h1,h2⟩:=hlim;⟨mc,nsK h1,h2⟩⟩;have e0:vf P w K mg (jY s₁.heap H) callerA [] s₁ H:=⟨rfl,hM,fun b o e=>Bm e,Jx (wO _ _),trivial,fun b hb=>absurd (show b∈([]:List Addr)from hb) (by simp),hok,.of_eq hg⟩;refine IM ((F _ hKb (nsK hns)).run callerA [] s₁ H ⟨[.ref a],[]⟩ [.ref a] [.ref a] _ _ hr e0 (hbind s₁ (.ref a)) (.cons rfl .nil) (hsp H hO hS)) fun r s' h=>?_;cases r with
  |error e=>exact(hCX H e s' h).elim
  |ok fl=>
   cases fl with
   |next=>exact G9 h
   |brk=>exact G9 h
   |cont=>exact G9 h
   |ret u=>
    obtain⟨v,H',os,bare,un,hok',r',q⟩:=h;have q':v=.bl true:=q;subst q';obtain rfl:u=GN true:=r';refine⟨rfl,OldK.of_keep fun b o e=>?_,os,bare⟩;cases q:H b with
    |none=>exact un.keep b o e q (by intro z;exact absurd (show b∈([]:List Addr)from z) (by simp)) (by simp)
    |some u=>
     rcases hO b with z|⟨ob,xs,z⟩
     ·rw[q]at z;cases z
     ·have z2:=un.frzs b ob _ z
      obtain⟨e1,_⟩:=hok b _ z;obtain⟨e2,_⟩:=hok' b _ z2;rw[e]at e1;cases e1;exact e2
 cases hk:K.lookup a with
 |some o=>
  have e:=KX a o hk;rw[ha]at e;cases e;refine core (fun _=>none) (fun _=>.inl rfl) (.inr ⟨_,vs.toArray,_,hk,rfl,rfl,rfl,by rw[E7,lenV];exact hl,by simpa using rv⟩) (fun b u z=>by have z':(none:Option HO)=some u:=z;cases z') (fun b z=>absurd rfl z) fun z=>absurd rfl z
 |none=>
  refine core (fun b=>if b=a then some (.frz { cls:=.type "list",data:=.seq vs.toArray } (.lst (ns.map V.int)))else none) (fun b=>?_) (.inl (.inr ⟨{ cls:=.type "list",data:=.seq vs.toArray },if_pos rfl⟩)) (fun b u z=>?_) (fun b z=>?_) fun _=>hk
  ·by_cases hb:b=a
   ·exact .inr ⟨_,_,if_pos hb⟩
   ·exact .inl (if_neg hb)
  ·by_cases hb:b=a
   ·have z':=(if_pos hb).symm.trans z
    cases z';subst hb;exact⟨ha,by rw[EI];exact hl,vs,_,rv,ha⟩
   ·have z':=(if_neg hb).symm.trans z
    cases z'
  ·by_cases hb:b=a
   ·exact hb
   ·exact absurd (if_neg hb) z
end L2
namespace L2
open PySem PySem.Spec PyProof.Rows
end L2
namespace L2
open PySem PySem.Spec PyProof.Rows
noncomputable def gH(s:Stmt):Arguments:=match s with
 | .FunctionDef _ a _ _ _ _ _ _ _ _=>a
 |_=>{ posonlyargs:=[],args:=[],vararg:=none,kwonlyargs:=[],kw_defaults:=[],kwarg:=none,defaults:=[] }
noncomputable def cz(s:Stmt):List Stmt:=match s with
 | .FunctionDef _ _ b _ _ _ _ _ _ _=>b
 |_=>[]
noncomputable def am(s:Stmt):Scope:=match s with
 | .FunctionDef _ _ _ _ _ _ sc _ _ _=>sc
 |_=>{ kind:=.function,names:=[],isGenerator:=false,isCoroutine:=false }
noncomputable abbrev CX0:CXT:=fun _ _ _ _ _ _=>False
noncomputable abbrev E0:XK:=fun _ _ _=>False
theorem DD{X:Cx}:iR CX0 X E0:=fun _ _ _ _ _ _ _ h=>h.elim
structure Fun(K:Fg)(x qual:Str)(st:Stmt)(f:Addr)(fd:Fk):Prop where
 ex:∃(oc:Value)(od:Option Addr)(kV doc pm:Value)(an:Option Addr)(cdv ct:Value)(osl:Array (Option Value)),
  fd=Jy x qual (gH st) (cz st) (am st) .none kV doc pm an cdv ct/\K.lookup f=some ⟨oc,od,.func fd,osl⟩/\MB K cdv qual=true
 kp:IL K (.ref f)=true
section
variable{P:Program}{w:World}{K:Fg}{mg:Str->Option Value}{base:Heap}
theorem Fun.ok{x qual:Str}{st:Stmt}{f:Addr}{fd:Fk}{N ps:List Str}{k:Nat}{sp:Sp}(F:Fun K x qual st f fd)(S:aK N ps (am st))(len:∀vs H Q E,sp vs H Q E->vs.length=ps.length)
  (hbody:∀(cdv:Value)(A:Around)(outer:List Env)(s:Shared)(H:Hp)(vs:List V)(Q:VK)(E:XK),b7 k (A.deeper (envOfC qual (am st) s.heap.objs.size f cdv))->sp vs H Q E->
   ∃t,PSs (cq CX0 P w K mg base N qual (am st) f cdv A outer s H E).nox (cz st) t/\t { nx:=fun _ H'=>Q .non H',rt:=Q } (start N vs) H):bU P w K mg base CX0 (k+1) f fd ps sp:=by
 obtain⟨oc,od,kV,doc,pm,an,cdv,ct,osl,rfl,lk,hcd⟩:=F.ex;refine vg lk hcd S len fun A outer s H vs Q E hr hsp=>?_;obtain⟨t,h,q⟩:=hbody cdv A outer s H vs Q E hr hsp;exact⟨t,h.nox,q⟩
theorem Fun.binds{x qual:Str}{st:Stmt}{f:Addr}{fd:Fk}{ps:List Str}(F:Fun K x qual st f fd)
  (h:∀(kV doc pm:Value)(an:Option Addr)(cdv ct:Value)(us:List Value),us.length=ps.length->bindArgs (Jy x qual (gH st) (cz st) (am st) .none kV doc pm an cdv ct) ⟨us,[]⟩=pure (ps.zip us)):fg K fd ps []:=by
 obtain⟨oc,od,kV,doc,pm,an,cdv,ct,osl,rfl,lk,hcd⟩:=F.ex;exact .all (h kV doc pm an cdv ct)
theorem xc{x qual:Str}{st:Stmt}{f:Addr}{oc:Value}{od an:Option Addr}{osl:Array (Option Value)}{kV doc pm cdv ct:Value}(l:K.lookup f=some ⟨oc,od,.func (Jy x qual (gH st) (cz st) (am st) .none kV doc pm an cdv ct),osl⟩)
  (c:MB K cdv qual=true) (k:IL K (.ref f)=true):Fun K x qual st f (Jy x qual (gH st) (cz st) (am st) .none kV doc pm an cdv ct):=⟨⟨oc,od,kV,doc,pm,an,cdv,ct,osl,rfl,l,c⟩,k⟩
end
theorem xf{n:Nat}(h:n<=1000):n<E1:=JB h (by decide)
section
variable{X:Cx}
theorem pv(i:Nat){x:Str}{pos:Pos}(hN:X.N[i]?=some x:=by rfl)(hv:Vis X.env.scope x:=by first|exact MD rfl|exact Ht (MD rfl)|exact Ht (Ht rfl))(hd:(x==("__debug__":Str))=false:=by decide)
  (hcd:(x==("__classdict__":Str))=false:=by decide):PE X (.Name x pos) (ae i):=Cr hN hv hd hcd
end
theorem mG{A B:Prop}(h:B):if false=true then A else B:=by
 rw[if_neg EU];exact h
theorem mH{A B:Prop}(h:A):if true=true then A else B:=by
 rw[if_pos rfl];exact h
noncomputable def ak(H H':Hp):Prop:=∀b o,H b=some o->H' b=some o
theorem ak.refl(H:Hp):ak H H:=fun _ _ h=>h
theorem ak.trans{H H1 H2:Hp}(a:ak H H1)(b:ak H1 H2):ak H H2:=fun c o h=>b c o (a c o h)
theorem ak.free{H H':Hp}(e:ak H H'){l:Addr}(h:H' l=Option.none):H l=Option.none:=by
 cases q:H l with
 |none=>rfl
 |some o=>
  rw[e l o q]at h;cases h
theorem ak.seq{K:Fg}{H H':Hp}{a:Addr}{xs:List V}(e:ak H H')(h:SqL K H a xs):SqL K H' a xs:=by
 rcases h with(h|⟨o,h⟩)|h
 ·exact .inl (.inl (e _ _ h))
 ·exact .inl (.inr ⟨o,e _ _ h⟩)
 ·exact .inr h
end L2
end
namespace L2
open PySem PyProof.Rows
section
open PySem.Spec
theorem j6{a b:Addr}{n:Nat}(h:a<n)(h':n<=b):a≠b:=Fi (E8 h h')
theorem CI{a b:Addr}{n:Nat}(h:n<=a)(h':b<n):a≠b:=G5 (E8 h' h)
noncomputable def dh(env:Env):List (Str×FP)->List (Str×Addr)->List (Str×Addr)
 | [],acc=>acc
 | (n,k)::r,acc=>if k=.free then(match env.cells.lookup n with|some c=>dh env r ((n,c)::acc)|none=>dh env r acc)else dh env r acc
theorem iA{env:Env}:∀(ns:List (Str×FP))(acc:List (Str×Addr)),(∀p∈acc,env.cells.lookup p.1=some p.2)->∀p∈dh env ns acc,env.cells.lookup p.1=some p.2
 | [],acc,h=>by intro p hp;exact h p hp
 | (n,k)::r,acc,h=>by
  intro p hp;rw[dh]at hp
  split at hp
  ·split at hp
   ·rename_i c hc
    refine iA r _ (fun q hq=>?_) p hp;rcases EV.mp hq with rfl|hq
    ·exact hc
    ·exact h q hq
   ·exact iA r acc h p hp
  ·exact iA r acc h p hp
theorem j7{env:Env}:∀(ns:List (Str×FP))(acc:List (Str×Addr)),∀p∈acc,p∈dh env ns acc
 | [],acc=>fun p hp=>hp
 | (n,k)::r,acc=>fun p hp=>by
  rw[dh]
  split
  ·split
   ·exact j7 r _ p (E3 _ hp)
   ·exact j7 r acc p hp
  ·exact j7 r acc p hp
theorem j8{env:Env}:∀(ns:List (Str×FP))(acc:List (Str×Addr))(x:Str)(c:Addr),(x,GH)∈ns->env.cells.lookup x=some c->(x,c)∈dh env ns acc
 | [],acc,x,c=>fun h _=>(nomatch h)
 | (n,k)::r,acc,x,c=>fun h hc=>by
  rw[dh];rcases EV.mp h with e|h
  ·cases e
   rw[if_pos rfl,hc];exact j7 r _ _ EW
  ·split
   ·split
    ·exact j8 r _ x c h hc
    ·exact j8 r acc x c h hc
   ·exact j8 r acc x c h hc
theorem kL{α:Type}{x:Str}{c:α}:∀{l:List (Str×α)},(x,c)∈l->∃d,l.lookup x=some d
 | (y,d)::r,h=>by
  rw[GJ];cases e:x==y with
  |true=>exact⟨d,rfl⟩
  |false=>
   rcases EV.mp h with q|q
   ·cases q
    rw[beq_self_eq_true]at e;cases e
   ·exact kL q
theorem dL{env:Env}{ns:List (Str×FP)}{x:Str}{c:Addr}(h:(dh env ns []).lookup x=some c):env.cells.lookup x=some c:=
 iA ns [] (fun _ hp=>(nomatch hp)) (x,c) (Gn h)
theorem pO{env:Env}{ns:List (Str×FP)}{x:Str}{c:Addr}(hm:(x,GH)∈ns)(hc:env.cells.lookup x=some c):(dh env ns []).lookup x=some c:=by
 obtain⟨d,hd⟩:=kL (j8 ns [] x c hm hc);have e:=dL hd;rw[hc]at e;cases e;exact hd
theorem nu{scope:Scope}{env:Env}(h:∀y∈scope.names,y.2=.free->∃c,env.cells.lookup y.1=some c):MY scope env=pure (dh env scope.names []):=by
 have go:∀(ns:List (Str×FP))(acc:List (Str×Addr)),(∀y∈ns,y.2=.free->∃c,env.cells.lookup y.1=some c)->
   (forIn ns acc fun(x:Str×FP)(cs:List (Str×Addr))=>(match x with
    | (name,kind)=>if(kind==GH)=true then(do let c <-cellOf env name;pure (Ir ((name,c)::cs)))else pure (Ir cs):Sem (ForInStep (List (Str×Addr)))))=(pure (dh env ns acc):Sem (List (Str×Addr))):=by
  intro ns
  induction ns with
  |nil=>intro acc _;rfl
  |cons y r ih=>
   intro acc hy;obtain⟨n,k⟩:=y;have ih':=fun acc=>ih acc fun z hz=>hy z (E3 _ hz);rw[Jt,dh];by_cases hk:k=.free
   ·subst hk
    obtain⟨c,hc⟩:=hy (n,.free) EW rfl;have hc':env.cells.lookup n=some c:=hc;simp only[beq_self_eq_true,if_true,cellOf,hc',pure_bind];exact ih' _
   ·have hb:(k==GH)=false:=by simpa using hk
    simp only[hb,Fe,if_false,pure_bind,if_neg hk];exact ih' _
 unfold MY;have g:=go scope.names [] h;simp only[bind_pure];exact g
structure kW(sc scope:Scope)(NX N:List Str)(ix:List (Option Nat)):Prop where
 kind:scope.kind=.function
 nocell:∀y∈scope.names,y.2≠.cell
 names:∀y∈scope.names,y.2=.local->scope.names.lookup y.1=some .local
 free:∀y∈scope.names,y.2=.free->sc.names.lookup y.1=some .cell\/sc.names.lookup y.1=some .free
 nd:N.Nodup
 len:ix.length=N.length
 at_:∀p∈N.zip ix,∀i∈p.2,NX[i]?=some p.1/\scope.names.lookup p.1=some .free
noncomputable def sub(ix:List (Option Nat))(σ:St):St:=ix.map fun o=>match o with|some i=>(match σ[i]? with|some v=>v|none=>none)|none=>none
noncomputable def bR(X:Cx)(N:List Str)(scope:Scope)(C:Addr)(s:Shared)(H:Hp)(fp:List Addr):Cx where
 prog:=X.prog
 w:=X.w
 K:=X.K
 mg:=X.mg
 base:=X.base
 A:=X.A
 N:=N
 s₀:=s
 H₀:=H
 env:=MZ scope (dh X.env scope.names []) C X.env
 outer:=X.stack
 stack:=X.stack
 ex:=fp
 fn:=fun _=>false
 calm:=X.calm
 pn:=[]
 xe:=fun _ _=>False
theorem kX{scope:Scope}{env:Env}{x:Str}{k:FP}(h:(relabel scope env).names.lookup x=some k):scope.names.lookup x=some k\/(k=.cell/\scope.names.lookup x=some .free):=by
 have go:∀ns:List (Str×FP),(ns.map fun(n,k)=>if(k==GH&&env.scope.kind== .function&&env.kindOf n==some .cell)then(n,J5)else(n,k)).lookup x=some k->
   ns.lookup x=some k\/(k=.cell/\ns.lookup x=some .free):=by
  intro ns
  induction ns with
  |nil=>intro q;simp at q
  |cons y r ih=>
   obtain⟨n,k'⟩:=y;intro q;rw[E6]at q;by_cases hc:(k'==GH&&env.scope.kind== .function&&env.kindOf n==some .cell)=true
   ·simp only[hc,if_true]at q
    have hk':k'=.free:=by
     have:=(Gr _ _▸hc);have h1:=(Gr _ _▸this.1);exact eq_of_beq h1.1
    subst hk';rw[GJ]at q ⊢;cases e:x==n with
    |true=>
     rw[e]at q;cases q;exact .inr ⟨rfl,rfl⟩
    |false=>
     rw[e]at q;exact ih q
   ·simp only[hc]at q
    rw[if_neg (by simp)]at q;rw[GJ]at q ⊢;cases e:x==n with
    |true=>rw[e]at q;exact .inl q
    |false=>rw[e]at q;exact ih q
 exact go scope.names h
theorem rC{scope:Scope}{env:Env}{x:Str}(h:scope.names.lookup x=some .free):(relabel scope env).names.lookup x=some .cell\/(relabel scope env).names.lookup x=some .free:=by
 have go:∀ns:List (Str×FP),ns.lookup x=some .free->
   (ns.map fun(n,k)=>if(k==GH&&env.scope.kind== .function&&env.kindOf n==some .cell)then(n,J5)else(n,k)).lookup x=some .cell\/
   (ns.map fun(n,k)=>if(k==GH&&env.scope.kind== .function&&env.kindOf n==some .cell)then(n,J5)else(n,k)).lookup x=some .free:=by
  intro ns
  induction ns with
  |nil=>intro q;simp at q
  |cons y r ih=>
   obtain⟨n,k'⟩:=y;intro q;rw[E6];rw[GJ]at q;cases e:x==n with
   |true=>
    rw[e]at q;cases q;by_cases hc:(GH==GH&&env.scope.kind== .function&&env.kindOf n==some .cell)=true
    ·simp only[hc,if_true]
     rw[GJ,e];exact .inl rfl
    ·simp only[hc]
     rw[if_neg (by simp),GJ,e];exact .inr rfl
   |false=>
    rw[e]at q;have z:=ih q;by_cases hc:(k'==GH&&env.scope.kind== .function&&env.kindOf n==some .cell)=true
    ·simp only[hc,if_true]
     rw[GJ,e];exact z
    ·simp only[hc]
     rw[if_neg (by simp),GJ,e];exact z
 exact go scope.names h
theorem Inv.gone{X:Cx}{pins:List (Addr×Obj)}{σ σ₂:St}{H H₂:Hp}{s s₂:Shared}{C:Addr}{h'':Heap}(I:Inv X pins σ H s)(I2:Inv X pins σ₂ H₂ s₂)(hC:s₂.heap.objs.size<=C)(hn:H C=none)(hs:Fb C s.heap h''):Inv X pins σ H { s with heap:=h'' }:=
 I.turned (t':=s.toks) (it:=C) (fun b o hb e=>hs.extBut b o hb e) hn (G5 (E8 I2.lt hC)) (.inr (Fz I2.sz hC))
  (fun x c e=>by
   obtain⟨v,o,ho,_⟩:=I2.cell x c e;exact j6 (EN ho) hC) fun q hq=>j6 (EN (I2.pin q hq).1) hC
noncomputable def PTL(X:Cx)(ifs:List Expr)(t:TT):Prop:=
 ∀(pins:List (Addr×Obj))(s:Shared)(σ:St)(H:Hp)(Q:Bool->Hp->Prop),Inv X pins σ H s->t σ H Q->
  wpAny (model X.prog X.w) X.A (forIn ifs true fun c r=>if r=true then do let ok <-isTrue c X.env (eval c X.env);pure (Ir ok)else pure (Ir r)) (TP X pins σ Q) X.xe s
noncomputable def bB:TT:=fun _ H Q=>Q true H
theorem bW{X:Cx}:PTL X [] bB:=fun _ _ _ H _ I h=>wpAny_tests_nil ⟨H,I,h⟩
theorem jN{X:Cx}{c:Expr}{t:TT}(h:PT X c t):PTL X [c] t:=fun pins s σ H Q I q=>wpAny_tests_one (h pins s σ H Q I q)
noncomputable def bO(J:It)(g:TG)(tt:TT)(te:TE)(σ₀:St)(p:Addr)(Q:VK)(W:Nat->Nat->List V->Hp->Prop):Prop:=
 ∀i m acc H,W i m acc H->H p=some (.lst acc)/\
  ((J.stop i H/\Q (.ref p) H)\/(J.go i H/\acc.length<E1/\∃N:List V->Hp->Prop,(∀acc' H',N acc' H'->∃m',m'<m/\W (i+1) m' acc' H')/\
   ∀x H1,J.yld i H x H1->g x σ₀ H1 fun σ2 H2=>tt σ2 H2 fun b H3=>if b=true then te σ2 H3 fun y H4=>H4 p=some (.lst acc)/\N (acc++[y]) (upd H4 p (.lst (acc++[y])))else N acc H3))
noncomputable abbrev CF(α:Type):=Addr->Shared->Hp->List Addr->α
noncomputable def bL(wi:TI)(g:CF TG)(tt:CF TT)(te:CF TE)(ix:List (Option Nat)):TE:=fun σ H Q=>wi σ H fun J H1=>∀p,H1 p=none->
 ∃W:Nat->Nat->List V->Hp->Prop,(∃m,W 0 m [] (upd H1 p (.lst [])))/\∀C s' H' fp,bO J (g C s' H' fp) (tt C s' H' fp) (te C s' H' fp) (sub ix σ) p Q W
section
variable{X:Cx}{elt tg iter:Expr}{ifs:List Expr}{scope sc:Scope}{pos:Pos}{NX N:List Str}{ix:List (Option Nat)}{wi:TI}{g:CF TG}{tt:CF TT}{te:CF TE}
theorem xg{prog:Program}{w:World}{A:Around}{R:Result->Shared->Prop}{s:Shared}{it acc:Value}{env:Env}(I:Nat->Shared->Prop)
  (turn:∀n s,I n s->wpAny (model prog w) A (pyNext it) (fun r s₁=>match r with
   |none=>R (.ok .next) s₁
   |some v=>wpAny (model prog w) A (Kj tg it v) (fun _ s₁'=>wpAny (model prog w) A (assign tg env v) (fun _ s₂=>
     wpAny (model prog w) A (forIn ifs true fun c r=>if r=true then do let ok <-isTrue c env (eval c env);pure (Ir ok)else pure (Ir r)) (fun ok s₃=>
      if ok=true then wpAny (model prog w) A (eval elt env) (fun x s₄=>
       wpAny (model prog w) A (call (.builtin "list.append") [acc,x]) (fun _ s₅=>∃m,m<n/\I m s₅) (fun _ _=>False) s₄) (fun _ _=>False) s₃
      else∃m,m<n/\I m s₃) (fun _ _=>False) s₂) (fun _ _=>False) s₁') (fun _ _=>False) s₁) (fun _ _=>False) s)
  (n:Nat) (h:I n s):codeAny (model prog w) A (.compLoop (.ListComp elt [⟨tg,iter,ifs,0⟩] scope pos) 0 it acc env) R s:=by
 refine codeAny_loop rfl I (fun n s hI=>?_) n h;show wpAny _ A ((compTurn (.ListComp elt [⟨tg,iter,ifs,0⟩] scope pos) 0 it acc env).onRaise (fun x=>do noteFrame x env;theTreesLotGoes x)) _ _ s;refine wpAny_noted ?_;rw[compTurn_list];refine EF (Lf (EF (F7 (turn n s hI) (fun r s₁ h₁=>?_) fun _ _ z=>z.elim)));cases r with
 |none=>exact EJ h₁
 |some v=>
  refine EF (F7 h₁ (fun _ s₁' h₁'=>?_) fun _ _ z=>z.elim);refine EF (F7 h₁' (fun _ s₂ h₂=>EF (F7 h₂ (fun ok s₃ h₃=>?_) fun _ _ z=>z.elim)) fun _ _ z=>z.elim);cases ok with
  |false=>exact EJ ⟨rfl,h₃⟩
  |true=>exact EF (EF (F7 h₃ (fun x s₄ h₄=>EF (F7 h₄ (fun _ s₅ h₅=>EJ (EJ ⟨rfl,h₅⟩)) fun _ _ z=>z.elim)) fun _ _ z=>z.elim))
theorem nv{pins:List (Addr×Obj)}{σ:St}{H:Hp}{s:Shared}{fp:List Addr}{it:Addr}{J:It}{tn:Nat->Heap->Prop}{Q:VK}{E:Value->Shared->Prop}{RR:Value->Addr->Result->Shared->Prop}
  (hc:X.calm=true) (hsc:X.env.scope=sc) (hNX:X.N=NX) (S:kW sc scope NX N ix)
  (hg:∀C s H fp,PG (bR X N scope C s H fp) tg (g C s H fp)) (ht:∀C s H fp,PTL (bR X N scope C s H fp) ifs (tt C s H fp)) (he:∀C s H fp,PE (bR X N scope C s H fp) elt (te C s H fp))
  (I:Inv X pins σ H s) (T:mC X.prog X.w X.K tg J fp it tn) (st:tn 0 s.heap) (hf:∀b∈fp,ik X pins H b)
  (hq:∀p,H p=none->∃W:Nat->Nat->List V->Hp->Prop,(∃m,W 0 m [] (upd H p (.lst [])))/\∀C s' H' fp,bO J (g C s' H' fp) (tt C s' H' fp) (te C s' H' fp) (sub ix σ) p Q W)
  (hR:∀p C s' H' m,s.heap.objs.size<=p->s.heap.objs.size<=C->s'.heap.Ns C m->H' C=none->Q (.ref p) H'->Inv X pins σ H' s'->RR (.ref p) C (.ok .next) s'):
  wpAny (model X.prog X.w) X.A (newList []) (fun acc s₃=>wpAny (model X.prog X.w) X.A (newFunctionEnv scope X.env.globals (dh X.env scope.names []) [] X.env.qual none .none (some X.env)) (fun cenv s₄=>
   codeAny (model X.prog X.w) X.A (.compStart (.ListComp elt [⟨tg,iter,ifs,0⟩] scope pos) 0 (.ref it) acc { cenv with scope:=relabel scope X.env }) (RR acc cenv.locals) s₄) E s₃) E s:=by
 refine F8 (wpAny_newFunctionEnv S.nocell (by intro y hy;simp at hy) (fun h₁ hns₁ hsb₁=>?_) S.kind);dsimp only at hns₁ hsb₁ ⊢;have hsz:(s.heap.push { cls:=.type "list",dict:=none,data:=.seq ([]:List Value).toArray }).objs.size=s.heap.objs.size+1:=FA ..;generalize hC:(s.heap.push { cls:=.type "list",dict:=none,data:=.seq ([]:List Value).toArray }).objs.size=C at hns₁ hsb₁ ⊢;rw[hsz]at hC;generalize hp:s.heap.objs.size=p at hC;have pC:p≠C:=by omega
 have old:∀b o,s.heap.get? b=some o->h₁.get? b=some o:=fun b o e=>hsb₁.extBut b o (j6 (EN e) (by omega)) (EH _ (EH _ e));have hnew:h₁.get? p=some { cls:=.type "list",data:=.seq ([]:List Value).toArray }:=hsb₁.extBut _ _ pC (EH _ (by rw[<-hp];exact ES _ rfl));have hfp:H p=none:=I.hok.fresh (by omega);have hfC:H C=none:=I.hok.fresh (by omega);have lt:∀b∈fp,b<p:=fun b hb=>by
  obtain⟨o,e,_⟩:=T.obj 0 _ st b hb;rw[<-hp];exact EN e
 have hcells:∀y∈scope.names,y.2=.free->∃c,X.env.cells.lookup y.1=some c:=fun y hy hk=>by
  refine I.ok.has y.1 ?_;show X.env.scope.names.lookup y.1=some .cell\/X.env.scope.names.lookup y.1=some .free;rw[hsc];exact S.free y hy hk
 have noown:∀x,scope.names.lookup x≠some .cell:=fun x e=>S.nocell _ (Gn e) rfl;have hok:(bR X N scope C s H fp).Ok:=by
  refine⟨I.ok.mod,S.kind,I.ok.glob,I.ok.blt,by show s.heap.objs.size<=C;omega,fun x y c h1 h2=>I.ok.inj x y c (dL h1) (dL h2),fun x hx=>?_,fun x c z=>(by cases z),I.ok.hd,I.ok.frames,.inl rfl,fun b hb=>?_,I.bs,Fz I.ok.bsz I.sz,fun b o e hb=>?_,fun b hb z=>?_,I.stack,I.stkFree⟩
  ·have hx':scope.names.lookup x=some .free:=by
    rcases hx with hx|hx
    ·rcases kX hx with q|q
     ·exact absurd q (noown x)
     ·exact q.2
    ·rcases kX hx with q|q
     ·exact q
     ·exact q.2
   obtain⟨c,hc'⟩:=hcells _ (Gn hx') rfl;exact⟨c,pO (Gn hx') hc'⟩
  ·refine⟨?_,fun x c e=>(hf b hb).2.2.2.2.1 x c (dL e)⟩
   show b≠C;exact j6 (lt b hb) (by omega)
  ·rcases(hf b hb).2.2.2.1 with z|z
   ·exact I.ok.noex b o e z
   ·exact absurd (E8 (EN e) (Fz I.ok.bsz z)) (FM _)
  ·rcases EV.mp (I.stkSub b z)with q|q
   ·exact(hf b hb).2.1 q
   ·exact(hf b hb).2.2.1 q
 have locs:∀h':Heap,(∀x c o,X.env.cells.lookup x=some c->s.heap.get? c=some o->∃sl,h'.get? c=some { o with slots:=sl })->
   ∀(i:Nat)(x:Str)(v:V),N[i]?=some x->(sub ix σ)[i]?=some (some v)->∃u,aB v u/\∀m,Cq (MZ scope (dh X.env scope.names []) C X.env) h' m x u:=by
  intro h' hk i x v h1 h2;obtain⟨k,hk',hv⟩:∃k,ix[i]?=some (some k)/\σ[k]?=some (some v):=by
   unfold sub at h2;rw[EO]at h2;cases e:ix[i]? with
   |none=>rw[e]at h2;cases h2
   |some o=>
    rw[e]at h2;cases o with
    |none=>cases h2
    |some k=>
     refine⟨k,rfl,?_⟩;have h2':(match σ[k]? with|some v=>v|none=>none)=some v:=Fd h2;cases e2:σ[k]? with
     |none=>rw[e2]at h2';cases h2'
     |some z=>
      rw[e2]at h2';rw[show z=some v from h2']
  have hm:(x,some k)∈N.zip ix:=by
   refine E2 (i:=i) ?_;rw[HW];exact⟨h1,hk'⟩
  obtain⟨a1,a2⟩:=S.at_ _ hm k (by simp);have hX:=S.free _ (Gn a2) rfl;have hvis:Vis X.env.scope x:=by
   show _\/_\/_;rw[hsc];exact .inr hX
  obtain⟨m,hn,hl⟩:=I.loc;obtain⟨u,r,l⟩:=hl k x v (by rw[hNX];exact a1) hv hvis;refine⟨u,r,fun m'=>.inr ⟨rC a2,?_⟩⟩;rcases l with⟨l,_⟩|⟨_,c,e,z⟩
  ·have l':X.env.scope.names.lookup x=some .local:=l
   rw[hsc]at l';rcases hX with q|q<;>(rw[q]at l';cases l')
  ·obtain⟨o,ho,hd⟩:=z
   obtain⟨sl,e'⟩:=hk x c o e ho;exact⟨c,pO (Gn a2) e,_,e',hd⟩
 have hlen:(sub ix σ).length=N.length:=by
  unfold sub;rw[EI];exact S.len
 have I1:Inv (bR X N scope C s H fp) [] (sub ix σ) (upd H p (.lst [])) { s with heap:=h₁,toks:=s.toks+([]:List (Str×Value)).length }:=by
  refine⟨hok,rfl,I.bare,Un.laid old (Jx hp) hfp,⟨_,hns₁,fun i x v h1 h2 h3=>?_⟩,fun x c e=>?_,?_,fun x c e=>?_,fun q hq=>(nomatch hq),I.hok.laid old (Jx hp) ⟨Fy _,[],0,.nil,hnew⟩,hlen⟩
  ·obtain⟨u,r,l⟩:=locs h₁ (fun y c o _ ho=>⟨o.slots,old c o ho⟩) i x v h1 h2
   exact⟨u,r,l _⟩
  ·obtain⟨v,o,ho,hd⟩:=I.cell x c (dL e)
   exact⟨v,o,old c o ho,hd⟩
  ·show upd H p _ C=none
   rw[aQ (Ge pC)];exact hfC
  ·have e':=dL e
   obtain⟨v,o,ho,hd⟩:=I.cell x c e';rw[aQ (j6 (EN ho) (Jx hp))];exact I.freeC x c e'
 have back:∀{pl:List (Addr×Obj)} {σ':St} {H':Hp} {s':Shared},Inv (bR X N scope C s H fp) pl σ' H' s'->Inv (bR X N scope C s H fp) pl (sub ix σ) H' s':=fun{pl σ' H' s'} J=>by
  obtain⟨m,hn,_⟩:=J.loc;refine⟨J.ok,J.os,J.bare,J.base,⟨m,hn,fun i x v h1 h2 h3=>?_⟩,J.cell,J.free,J.freeC,J.pin,J.hok,hlen⟩;obtain⟨u,r,l⟩:=locs s'.heap (fun y c o hc' ho=>J.base.any ho (I.freeC y c hc') fun hb=>(hf c hb).2.2.2.2.1 y c hc' rfl) i x v h1 h2;exact⟨u,r,l _⟩
 obtain⟨W,⟨m0,w0⟩,turn⟩:=hq p hfp;have st1:tn 0 h₁:=T.keep 0 _ _ st fun b _ o e=>old b o e;have fp1:∀{H':Hp},(∀b∈fp,H' b=none)->∀b∈fp,ik (bR X N scope C s H fp) [] H' b:=fun{H'} hn b hb=>
  ⟨hn b hb,(hok.exf b hb).1,hok.exfs b hb,.inl hb,(hok.exf b hb).2,fun q hq=>(nomatch hq)⟩
 have loop:codeAny (model X.prog X.w) X.A (.compLoop (.ListComp elt [⟨tg,iter,ifs,0⟩] scope pos) 0 (.ref it) (.ref p) (MZ scope (dh X.env scope.names []) C X.env)) (RR (.ref p) C) { s with heap:=h₁,toks:=s.toks+([]:List (Str×Value)).length }:=by
  refine xg (fun n s'=>∃i acc H',Inv (bR X N scope C s H fp) [] (sub ix σ) H' s'/\tn i s'.heap/\(∀b∈fp,H' b=none)/\W i n acc H') ?_ m0
   ⟨0,[],_,I1,st1,fun b hb=>by rw[aQ (j6 (lt b hb) (EM _))];exact(hf b hb).1,w0⟩
  rintro n s3 ⟨i,acc,H3,I3,st3,fr3,w3⟩;obtain⟨hacc,w4⟩:=turn C s H fp i n acc H3 w3;rcases w4 with⟨stop,qn⟩|⟨go,hln,N',hN',step⟩
  ·refine thn (T.done (bR X N scope C s H fp) rfl rfl rfl hc i [] s3 _ H3 (fun _ _=>False) I3 (fp1 fr3) st3 stop) fun r s4 ⟨hr,I4⟩=>?_
   subst hr;obtain⟨m,hn,_⟩:=I4.loc;refine hR p C s4 H3 m (by omega) (by omega) hn I4.free qn ?_;exact I.call' I4.os I4.base I4.hok I4.bare fun b hb=>⟨(hf b hb).2.2.2.1,(hf b hb).2.1,(hf b hb).2.2.2.2.1,(hf b hb).2.2.2.2.2⟩
  ·refine thn (T.item (bR X N scope C s H fp) rfl rfl rfl hc i [] s3 _ H3 (fun _ _=>False) I3 (fp1 fr3) st3 go) fun r s4 ⟨u,hr,h4⟩=>?_
   subst hr;refine thn h4 fun _ s5 ⟨x,H5,I5,r5,y5,st5,fr5⟩=>?_;have I5':=I5.pinned (fp1 fr5) (T.obj _ _ st5);refine thn (hg C s H fp _ s5 _ H5 x u _ I5' r5 (step x H5 y5)) fun _ s6 ⟨σ6,H6,I6,q6⟩=>?_;have later:∀{s7:Shared} {H7:Hp} {acc':List V} {σ7:St},Inv (bR X N scope C s H fp) ([]++kP fp s5.heap) σ7 H7 s7->(∃m',m'<n/\W (i+1) m' acc' H7)->
     ∃m,m<n/\∃i acc H',Inv (bR X N scope C s H fp) [] (sub ix σ) H' s7/\tn i s7.heap/\(∀b∈fp,H' b=none)/\W i m acc H':=fun{s7 H7 acc' σ7} I7 ⟨m',hm,w7⟩=>by
    refine⟨m',hm,i+1,acc',H7,back (I7.unpinned (pins:=[])),T.keep _ _ _ st5 fun b hb o e=>(I7.pin (b,o) (FY _ (FY _ (iw hb e)))).1,fun b hb=>?_,w7⟩;obtain⟨o,e,d⟩:=T.obj _ _ st5 b hb;exact(I7.pin (b,o) (FY _ (FY _ (iw hb e)))).2.1
   refine thn (ht C s H fp _ s6 σ6 H6 _ I6 q6) fun ok s7 ⟨H7,I7,q7⟩=>?_;cases ok with
   |false=>exact later I7 (hN' _ _ q7)
   |true=>
    refine thn (he C s H fp _ s7 σ6 H7 _ I7 q7) fun y s8 ⟨v8,H8,I8,r8,hacc8,w8⟩=>?_;refine thn (kU (X:=bR X N scope C s H fp) _ s8 σ6 H8 (.ref p) [v8] (.ref p) [y] (fun _ H9=>H9=upd H8 p (.lst (acc++[v8]))) I8 rfl (.cons r8 .nil) ⟨p,acc,v8,rfl,rfl,hacc8,hln,rfl⟩) fun _ s9 ⟨_,H9,I9,_,e9⟩=>?_;subst e9;exact later I9 (hN' _ _ w8)
 exact codeAny_compStart_list loop (T.self _ 0 _ _ _ st1 loop)
theorem bX(hc:X.calm=true)(S:kW sc scope NX N ix)(hi:PI X tg iter wi)
  (hg:∀C s H fp,PG (bR X N scope C s H fp) tg (g C s H fp)) (ht:∀C s H fp,PTL (bR X N scope C s H fp) ifs (tt C s H fp)) (he:∀C s H fp,PE (bR X N scope C s H fp) elt (te C s H fp))
  (hsc:X.env.scope=sc:=by rfl) (hNX:X.N=NX:=by rfl) (hs:∀x,Lq iter X.env x=pure x:=by intro _;rfl):
  PE X (.ListComp elt [⟨tg,iter,ifs,0⟩] scope pos) (bL wi g tt te ix):=by
 intro pins s σ H Q I h;rw[eval_ListComp];have hcells:MY scope X.env=pure (dh X.env scope.names []):=nu fun y hy hk=>by
  refine I.ok.has y.1 ?_;show X.env.scope.names.lookup y.1=some .cell\/X.env.scope.names.lookup y.1=some .free;rw[hsc];exact S.free y hy hk
 refine LK (use:=none) rfl hs hcells S.kind S.names (thn (hi pins s σ H _ I h) fun v s1 h1=>thn h1 fun itv s2 h2=>?_);obtain⟨it,fp,tn,J,H2,e,I2,T,st2,f2,hq⟩:=h2;subst e;refine nv (Q:=Q) (RR:=fun acc C=>compPost (model X.prog X.w) X.A X.xe none (EP X pins σ Q) acc C) hc hsc hNX S hg ht he I2 T st2 f2 hq ?_;intro p C s' H' m hp hC hn hfree q I';exact⟨m,hn,fun h'' hs''=>⟨.ref p,H',I'.gone I2 hC hfree hs'',rfl,q⟩⟩
theorem fU{i:Nat}{y:Str}{py spos:Pos}(hN:X.N.Nodup)(hy:X.N[i]?=some y)(hl:X.env.scope.names.lookup y=some .local)(hc:X.calm=true)(S:kW sc scope NX N ix)(hi:PI X tg iter wi)
  (hg:∀C s H fp,PG (bR X N scope C s H fp) tg (g C s H fp)) (ht:∀C s H fp,PTL (bR X N scope C s H fp) ifs (tt C s H fp)) (he:∀C s H fp,PE (bR X N scope C s H fp) elt (te C s H fp))
  (hsw:Nw (.ListComp elt [⟨tg,iter,ifs,0⟩] scope pos) (some (.Name y py)) spos.line X.env=pure true:=by rfl)
  (hsc:X.env.scope=sc:=by rfl) (hNX:X.N=NX:=by rfl) (hs:∀x,Lq iter X.env x=pure x:=by intro _;rfl):
  PS X (.Assign [.Name y py] (.ListComp elt [⟨tg,iter,ifs,0⟩] scope pos) spos) (aF (bL wi g tt te ix) (aj i)):=by
 intro pins s σ H D I h;rw[exec_Assign_Name_used _ _ _ _ hsw];have hcells:MY scope X.env=pure (dh X.env scope.names []):=nu fun z hz hk=>by
  refine I.ok.has z.1 ?_;show X.env.scope.names.lookup z.1=some .cell\/X.env.scope.names.lookup z.1=some .free;rw[hsc];exact S.free z hz hk
 refine EF (Lf (EF ?_));show wpAny _ X.A (do let _ <-comprehension (.ListComp elt [⟨tg,iter,ifs,0⟩] scope pos) scope X.env _ (newList []) false (eval iter X.env) (some (assign (.Name y py) X.env))) _ _ s;refine EF (thn (LK (use:=some (assign (.Name y py) X.env)) (Q:=fun _ s'=>SP X pins D .next s') rfl hs hcells S.kind S.names (thn (hi pins s σ H _ I h) fun v s1 h1=>thn h1 fun itv s2 h2=>?_)) fun _ s' q=>EJ (EJ q));obtain⟨it,fp,tn,J,H2,e,I2,T,st2,f2,hq⟩:=h2;subst e;refine nv (Q:=fun x H1=>aj i x σ H1 D.nx) (RR:=fun acc C=>compPost (model X.prog X.w) X.A X.xe (some (assign (.Name y py) X.env)) (fun _ s'=>SP X pins D .next s') acc C) hc hsc hNX S hg ht he I2 T st2 f2 hq ?_;intro p C s' H' m hp hC hn hfree q I';refine NM (kM (v:=.ref p) I' hN hy (.inl hl) rfl (fun s'' I'' ⟨a,hsb,ha⟩=>?_) (.inr hl));have ne:C≠a:=by
  rcases ha with rfl|ha
  ·exact G5 (E8 I2.lt hC)
  ·obtain⟨v,o,ho,_⟩:=I2.cell y a ha
   exact G5 (E8 (EN ho) hC)
 exact⟨m,hn.sameBut hsb ne,fun h'' hs''=>⟨_,H',I''.gone I2 hC hfree hs'',q⟩⟩
end
section
variable{g:CF TG}{tt:CF TT}{te:CF TE}{σ₀:St}{p:Addr}{Q:VK}{H:Hp}
theorem lx{J:It}{n:Nat}{Y:Nat->Hp->V->Hp->Prop}(Pv:Nat->List V->Hp->Prop)(h0:Pv 0 [] (upd H p (.lst [])))(hp:∀i acc H,i<=n->Pv i acc H->H p=some (.lst acc)/\acc.length<=i)(hz:n<=E1)
  (hgo:∀i acc H,i<n->Pv i acc H->J.go i H) (hst:∀acc H,Pv n acc H->J.stop n H) (hy:∀i acc H x H1,i<n->Pv i acc H->J.yld i H x H1->Y i H x H1)
  (hs:∀C s' H' fp,∀i x acc H H1,i<n->Pv i acc H->Y i H x H1->g C s' H' fp x σ₀ H1 fun σ2 H2=>tt C s' H' fp σ2 H2 fun b H3=>if b=true then te C s' H' fp σ2 H3 fun y H4=>H4 p=some (.lst acc)/\Pv (i+1) (acc++[y]) (upd H4 p (.lst (acc++[y])))else Pv (i+1) acc H3)
  (hd:∀acc H,Pv n acc H->Q (.ref p) H):
  ∃W:Nat->Nat->List V->Hp->Prop,(∃m,W 0 m [] (upd H p (.lst [])))/\∀C s' H' fp,bO J (g C s' H' fp) (tt C s' H' fp) (te C s' H' fp) σ₀ p Q W:=by
 refine⟨fun i m acc H=>m=n-i/\i<=n/\Pv i acc H,⟨n,by simp,Fy _,h0⟩,?_⟩;rintro C s' H' fp i m acc H ⟨rfl,hi,w⟩;obtain⟨h1,h2⟩:=hp i acc H hi w;refine⟨h1,?_⟩;by_cases hlt:i<n
 ·exact .inr ⟨hgo i acc H hlt w,by omega,Pv (i+1),fun acc' H' q=>⟨n-(i+1),by omega,rfl,hlt,q⟩,fun x H1 y=>hs C s' H' fp i x acc H H1 hlt w (hy i acc H x H1 hlt w y)⟩
 ·have e:i=n:=by omega
  subst e;exact .inl ⟨hst acc H w,hd acc H w⟩
theorem kY{K:Fg}{a:Addr}{xs:List V}(Pv:Nat->List V->Hp->Prop)(h0:Pv 0 [] (upd H p (.lst [])))(hp:∀i acc H,i<=xs.length->Pv i acc H->H p=some (.lst acc)/\acc.length<=i)(hl:∀i acc H,i<=xs.length->Pv i acc H->SqL K H a xs)(hz:xs.length<=E1)
  (hs:∀C s' H' fp,∀i x acc H,xs[i]?=some x->Pv i acc H->g C s' H' fp x σ₀ H fun σ2 H2=>tt C s' H' fp σ2 H2 fun b H3=>if b=true then te C s' H' fp σ2 H3 fun y H4=>H4 p=some (.lst acc)/\Pv (i+1) (acc++[y]) (upd H4 p (.lst (acc++[y])))else Pv (i+1) acc H3)
  (hd:∀acc H,Pv xs.length acc H->Q (.ref p) H):
  ∃W:Nat->Nat->List V->Hp->Prop,(∃m,W 0 m [] (upd H p (.lst [])))/\∀C s' H' fp,bO (Itl K a) (g C s' H' fp) (tt C s' H' fp) (te C s' H' fp) σ₀ p Q W:=
 lx (Y:=fun i H x H1=>H1=H/\xs[i]?=some x) Pv h0 hp hz (fun i acc H hi w=>⟨xs,xs[i],hl i acc H (Gs hi) w,by simp[hi]⟩) (fun acc H w=>⟨xs,hl _ acc H (EM _) w,EM _⟩)
  (fun i acc H x H1 hi w y=>⟨y.1,y.2 xs (hl i acc H (Gs hi) w)⟩) (fun C s' H' fp i x acc H H1 hi w y=>by
   obtain⟨e,y⟩:=y;subst e;exact hs C s' H' fp i x acc _ y w) hd
theorem j9{lo:Int}{n:Nat}(Pv:Nat->List V->Hp->Prop)(h0:Pv 0 [] (upd H p (.lst [])))(hp:∀i acc H,i<=n->Pv i acc H->H p=some (.lst acc)/\acc.length<=i)(hz:n<=E1)
  (hs:∀C s' H' fp,∀i acc H,i<n->Pv i acc H->g C s' H' fp (.int (lo+i)) σ₀ H fun σ2 H2=>tt C s' H' fp σ2 H2 fun b H3=>if b=true then te C s' H' fp σ2 H3 fun y H4=>H4 p=some (.lst acc)/\Pv (i+1) (acc++[y]) (upd H4 p (.lst (acc++[y])))else Pv (i+1) acc H3)
  (hd:∀acc H,Pv n acc H->Q (.ref p) H):
  ∃W:Nat->Nat->List V->Hp->Prop,(∃m,W 0 m [] (upd H p (.lst [])))/\∀C s' H' fp,bO (Itr lo n) (g C s' H' fp) (tt C s' H' fp) (te C s' H' fp) σ₀ p Q W:=
 lx (Y:=fun i H x H1=>H1=H/\x=.int (lo+i)) Pv h0 hp hz (fun i acc H hi w=>hi) (fun acc H w=>EM _) (fun i acc H x H1 hi w y=>y) (fun C s' H' fp i x acc H H1 hi w y=>by
   obtain⟨e,e2⟩:=y;subst e e2;exact hs C s' H' fp i acc _ hi w) hd
end
end
section
open PySem.Spec
section
variable{prog:Program}{w:World}{A:Around}{E:Value->Shared->Prop}{s:Shared}
theorem ny{jt t:Addr}{i:Nat}{its:Array Value}{y:Value}{Q:Value->Shared->Prop}(h1:s.heap.IsTupleIter jt t i)(h2:s.heap.IsTuple t its)(hy:its[i]?=some y)
  (k:∀h',h'.IsTupleIter jt t (i+1)->Fb jt s.heap h'->Q y { s with heap:=h' }):wpAny (model prog w) A (FF (.ref jt)) Q E s:=by
 obtain⟨o,ho,hc,hd⟩:=id h1;obtain⟨ot,hot,_,nt,hdt⟩:=h2;unfold FF;refine EF (FX (name:=GA "__next__") h1.typeIs HP (FD HP h1.typeIs K0 ?_ (KH _)));show wpAny _ _ (field (.ref jt) 0>>=_) _ _ s;refine EF (Ga ho hd (x:=.ref t) rfl ?_);show wpAny _ _ (if(Fh t==GC)=true then _ else _) _ _ s;rw[if_neg (show¬((Fh t==GC)=true)from EU)];show wpAny _ _ (field (.ref jt) 1>>=_) _ _ s;refine EF (Ga ho hd (x:=.int i 0) rfl ?_);show wpAny _ _ (K1 (.ref t)>>=_) _ _ s;refine EF (FG hot hdt ?_);simp only[IF,hy];refine EF (Hw ho hd (by simp) (EJ ⟨y,rfl,EJ (k _ ?_ (F5 ..))⟩));exact⟨_,FH _ ho (Kd (HH hd _)),(Lu ..).trans hc,by rw[HH hd];simp[rawInt]⟩
theorem oQ{jt t:Addr}{i:Nat}{its:Array Value}{Q:Value->Shared->Prop}(hh:A.handled=none)(h1:s.heap.IsTupleIter jt t i)(h2:s.heap.IsTuple t its)(hy:its[i]?=none)
  (k:∀h' e,Jm jt s.heap h'->(∃o,h'.get? e=some o/\o.cls=.type "StopIteration")->E (.ref e) { s with heap:=h' }):wpAny (model prog w) A (FF (.ref jt)) Q E s:=by
 obtain⟨o,ho,hc,hd⟩:=id h1;obtain⟨ot,hot,_,nt,hdt⟩:=h2;unfold FF;refine EF (FX (name:=GA "__next__") h1.typeIs HP (FD HP h1.typeIs K0 ?_ (KH _)));show wpAny _ _ (field (.ref jt) 0>>=_) _ _ s;refine EF (Ga ho hd (x:=.ref t) rfl ?_);show wpAny _ _ (if(Fh t==GC)=true then _ else _) _ _ s;rw[if_neg (show¬((Fh t==GC)=true)from EU)];show wpAny _ _ (field (.ref jt) 1>>=_) _ _ s;refine EF (Ga ho hd (x:=.int i 0) rfl ?_);show wpAny _ _ (K1 (.ref t)>>=_) _ _ s;refine EF (FG hot hdt ?_);simp only[IF,hy];refine EF (Ha (EF (Hw ho hd (by simp) ?_)));show wpAny _ _ (newExc (.type "StopIteration") []>>=_) _ _ _;refine EF ?_;simp only[newExc,Oq];refine EF (F8 ?_ (by size_fits));refine EF (m:=firstArgMember _ _) (HZ (a:=GC) (by first|rfl| (simp only[firstArgMember];rfl)) ?_);refine F8 ?_ (by size_fits);simp only[raiseNew];refine EF (Na ?_)
 first|rw[show A.in1.handled=none from hh]|rw[hh]
 refine EF (EJ (Oc ?_));exact k _ _ (((F5 ..).extBut.push _).push _) ⟨_,ES _ rfl,rfl⟩
end
theorem tL{prog:Program}{w:World}{A:Around}(hh:A.handled=none)(jt t:Addr)(hne:t≠jt)(its:Array Value):
  Draws prog w A jt [jt,t] its.size (fun i v=>its[i]?=some v) (fun i h=>h.IsTupleIter jt t i/\h.IsTuple t its) where
 live:=fun _ _ st=>let⟨o,ho,_⟩:=st.1;⟨o,ho⟩
 frame:=fun _ _ _ st hk=>⟨st.1.at fun o e=>hk jt (by simp) o e,let⟨o,ho,r⟩:=st.2;⟨o,hk t (by simp) o ho,r⟩⟩
 item:=fun i s Q E hi st hQ=>ny st.1 st.2 (y:=its[i]) (by simp[hi]) fun h' a b=>hQ _ h' s.toks (by simp[hi]) ⟨a,st.2.extBut b.extBut hne⟩ b
 done:=fun s Q E st hE=>oQ hh st.1 st.2 (by simp) hE
theorem Inv.offBase{X:Cx}{pins:List (Addr×Obj)}{σ:St}{H:Hp}{s:Shared}{c:Addr}{o:Obj}(I:Inv X pins σ H s)(f:ik X pins H c)(e:X.base.get? c=some o):False:=by
 rcases f.2.2.2.1 with z|z
 ·exact I.ok.noex c o e z
 ·exact absurd (E8 (EN e) (Fz I.ok.bsz z)) (FM _)
set_option genInjectivity false in
structure Src where
 Sq:Fg->Hp->Addr->List V->Prop
 Is:Heap->Addr->Array Value->Prop
 It:Heap->Addr->Addr->Nat->Prop
 icls:String
 get:∀{X:Cx} {pins:List (Addr×Obj)} {σ:St} {H:Hp} {s:Shared} {a:Addr} {xs:List V},Inv X pins σ H s->Sq X.K H a xs->∃its:List Value,aA xs its/\Is s.heap a its.toArray/\xs.length<=E1
 inj:∀{X:Cx} {pins:List (Addr×Obj)} {σ:St} {H:Hp} {s:Shared} {a:Addr} {xs ys:List V},Inv X pins σ H s->Sq X.K H a xs->Sq X.K H a ys->xs=ys
 off:∀{X:Cx} {pins:List (Addr×Obj)} {σ:St} {H:Hp} {s:Shared} {a c:Addr} {xs:List V},Inv X pins σ H s->Sq X.K H a xs->ik X pins H c->c≠a
 isSeq:∀{h:Heap} {a:Addr} {its:Array Value},Is h a its->∃o n,h.get? a=some o/\o.data=.seq its n
 isIt:∀{h:Heap} {jt a:Addr} {i:Nat},It h jt a i->∃o,h.get? jt=some o/\o.cls=.type icls/\o.data=.fields #[.ref a,.int i 0]
 mkI:∀{h:Heap} {jt a:Addr} {i:Nat} {o:Obj},h.get? jt=some o->o.cls=.type icls->o.data=.fields #[.ref a,.int i 0]->It h jt a i
 itKeep:∀{h h':Heap} {jt a:Addr} {i:Nat},It h jt a i->(∀o,h.get? jt=some o->h'.get? jt=some o)->It h' jt a i
 isKeep:∀{h h':Heap} {a:Addr} {its:Array Value},Is h a its->(∀o,h.get? a=some o->h'.get? a=some o)->Is h' a its
 draws:∀{prog:Program} {w:World} {A:Around},A.handled=none->∀(jt a:Addr),a≠jt->∀its:Array Value,Draws prog w A jt [jt,a] its.size (fun i v=>its[i]?=some v) (fun i h=>It h jt a i/\Is h a its)
 iter:∀{prog:Program} {w:World} {A:Around} {E:Value->Shared->Prop} {s:Shared} {a:Addr} {its:Array Value} {Q:Value->Shared->Prop},Is s.heap a its->
  Q (.ref s.heap.objs.size) { s with heap:=s.heap.push { cls:=.type icls,data:=.fields #[.ref a,.int 0 0] } }->wpAny (model prog w) A (pyIter (.ref a)) Q E s
noncomputable def bP:Src where
 Sq:=SqL
 Is:=fun h a its=>h.IsList a its
 It:=fun h jt a i=>h.IsListIter jt a i
 icls:="list_iterator"
 get:=fun I h=>let⟨its,r,p,z⟩:=I.list h;⟨its,r,p.isList,z⟩
 inj:=fun I h h'=>I.list_inj h h'
 off:=fun{X pins σ H s a c xs} I h f e=>by
  subst e;rcases h with(h|⟨o,h⟩)|⟨o,its,n,hk,_⟩
  ·rw[f.1]at h;cases h
  ·rw[f.1]at h;cases h
  ·exact I.offBase f (I.ok.mod.kin _ _ hk)
 isSeq:=fun h=>let⟨o,ho,_,n,hd⟩:=h;⟨o,n,ho,hd⟩
 isIt:=fun h=>h
 mkI:=fun h1 h2 h3=>⟨_,h1,h2,h3⟩
 itKeep:=fun h k=>h.at k
 isKeep:=fun h k=>h.at k
 draws:=fun hh jt a hne its=>Draws.list hh jt a hne its
 iter:=fun h q=>IE h q
noncomputable def ka:Src where
 Sq:=SqT
 Is:=fun h a its=>h.IsTuple a its
 It:=fun h jt a i=>h.IsTupleIter jt a i
 icls:="tuple_iterator"
 get:=fun I h=>let⟨its,r,p,z⟩:=I.tuple h;⟨its,r,p,z⟩
 inj:=fun I h h'=>I.tuple_inj h h'
 off:=fun{X pins σ H s a c xs} I h f e=>by
  subst e;rcases h with(h|⟨o,h⟩)|⟨o,its,n,hk,_⟩
  ·rw[f.1]at h;cases h
  ·rw[f.1]at h;cases h
  ·exact I.offBase f (I.ok.mod.kin _ _ hk)
 isSeq:=fun h=>let⟨o,ho,_,n,hd⟩:=h;⟨o,n,ho,hd⟩
 isIt:=fun h=>h
 mkI:=fun h1 h2 h3=>⟨_,h1,h2,h3⟩
 itKeep:=fun h k=>h.at k
 isKeep:=fun h k=>let⟨o,ho,r⟩:=h;⟨o,k o ho,r⟩
 draws:=fun hh jt a hne its=>tL hh jt a hne its
 iter:=fun h q=>Jw h q
theorem Inv.turns{X:Cx}{pins:List (Addr×Obj)}{σ:St}{H:Hp}{s:Shared}{h':Heap}{t':Nat}{ch:List Addr}{T:Addr}{o:HO}(I:Inv X pins σ H s)(hf:∀b∈ch,ik X pins H b)
  (k:∀b ob,b∉ch->s.heap.get? b=some ob->h'.get? b=some ob) (hT:s.heap.objs.size<=T) (new:br X.prog X.w (upd H T o) h' T o):Inv X pins σ (upd H T o) { s with heap:=h',toks:=t' }:=by
 have hn:H T=none:=I.hok.fresh hT;have nc:∀b u,H b=some u->b∉ch:=fun b u e z=>by
  have:=(hf b z).1;rw[e]at this;cases this
 refine I.step (g':=s.gens) (d':=s.drawn) (ch:=ch) (fun b hb=>⟨(hf b hb).2.2.2.1,(hf b hb).2.1,(hf b hb).2.2.2.2.1,(hf b hb).2.2.2.2.2⟩) (fun b ob _ _ hc e _=>k b ob hc e) (fun b ob _ _ hc e _=>⟨ob.slots,k b ob hc e⟩)
  (fun b ob _ e n=>?_) (fun b ob hc e=>⟨ob,k b ob hc e⟩) (fun b xs e=>?_) (fun b ob xs e=>?_) (fun b ps e=>⟨#[],?_⟩) (fun m hm=>?_) (fun b u e=>?_) I.bare
 ·rw[aQ (j6 (EN e) hT)]
  exact n
 ·rw[aQ (aT e hn)]
  exact e
 ·rw[aQ (aT e hn)]
  exact e
 ·rw[aQ (aT e hn),e]
  simp
 ·obtain⟨ob,es,ep,ho,r⟩:=hm
  exact⟨ob,es,ep,k _ ob (fun z=>(hf _ z).2.1 rfl) ho,r⟩
 ·by_cases hb:b=T
  ·subst hb
   rw[ay]at e;cases e;exact new
  ·rw[aQ hb]at e
   refine(I.hok b u e).stay (fun c v hc q=>k c v ?_ q) (fun c q=>by rw[aQ (aT q hn)];exact q) fun c xs q=>by rw[aQ (aT q hn)];exact q
   rcases hc with z|z
   ·rw[z];exact nc b u e
   ·exact nc c _ z
theorem Inv.turnsN{X:Cx}{pins:List (Addr×Obj)}{σ:St}{H:Hp}{s:Shared}{h':Heap}{t':Nat}{ch:List Addr}(I:Inv X pins σ H s)(hf:∀b∈ch,ik X pins H b)
  (k:∀b ob,b∉ch->s.heap.get? b=some ob->h'.get? b=some ob):Inv X pins σ H { s with heap:=h',toks:=t' }:=by
 have nc:∀b u,H b=some u->b∉ch:=fun b u e z=>by
  have:=(hf b z).1;rw[e]at this;cases this
 refine I.step (g':=s.gens) (d':=s.drawn) (ch:=ch) (fun b hb=>⟨(hf b hb).2.2.2.1,(hf b hb).2.1,(hf b hb).2.2.2.2.1,(hf b hb).2.2.2.2.2⟩) (fun b ob _ _ hc e _=>k b ob hc e) (fun b ob _ _ hc e _=>⟨ob.slots,k b ob hc e⟩)
  (fun b ob _ e n=>n) (fun b ob hc e=>⟨ob,k b ob hc e⟩) (fun b xs e=>e) (fun b ob xs e=>e) (fun b ps e=>⟨#[],by rw[e];simp⟩) (fun m hm=>?_) (fun b u e=>?_) I.bare
 ·obtain⟨ob,es,ep,ho,r⟩:=hm
  exact⟨ob,es,ep,k _ ob (fun z=>(hf _ z).2.1 rfl) ho,r⟩
 ·refine(I.hok b u e).stay (fun c v hc q=>k c v ?_ q) (fun c q=>q) fun c xs q=>q
  rcases hc with z|z
  ·rw[z];exact nc b u e
  ·exact nc c _ z
noncomputable def Ite(S:Src)(K:Fg)(a:Addr):It:=
 ⟨fun i H=>∃xs x,S.Sq K H a xs/\xs[i]?=some x,fun i H x H'=>∃T v,H T=none/\x=.ref T/\H'=upd H T (.tup [.int i,v])/\∀xs,S.Sq K H a xs->xs[i]?=some v,fun i H=>∃xs,S.Sq K H a xs/\xs.length=i⟩
theorem xh{P:Program}{w:World}{K:Fg}{elts:List Expr}{k0:Nat}{pos:Pos}(S:Src)(a e it:Addr)(hl:S.icls≠"enumerate"):
  mC P w K (.Tuple elts k0 pos) (Ite S K a) [e,it] e (fun i h=>(∃old,IsEnum h e it i old)/\S.It h it a i) where
 mem:=by simp
 obj:=fun i h st b hb=>by
  obtain⟨⟨old,he⟩,hi⟩:=st;rcases EV.mp hb with rfl|hb
  ·exact⟨_,he,fun v z=>nomatch z⟩
  ·obtain rfl:=E5.mp hb
   obtain⟨o,ho,_,hd⟩:=S.isIt hi;exact⟨o,ho,fun v z=>by rw[hd]at z;cases z⟩
 keep:=fun i h h' st k=>by
  obtain⟨⟨old,he⟩,hi⟩:=st;exact⟨⟨old,k e (by simp) _ he⟩,S.itKeep hi fun o q=>k it (by simp) o q⟩
 item:=by
  intro X hP hw hK hc i pins s σ H E I hf st hg;subst hP hw hK;obtain⟨xs,x,hq,hx⟩:=hg;obtain⟨its,rv,p,hz⟩:=S.get I hq;obtain⟨⟨old,he⟩,hi⟩:=st;obtain⟨u,hu,ru⟩:=rv.get hx;obtain⟨oa,na,hoa,hda⟩:=S.isSeq p;obtain⟨oi,hoi,hci,hdi⟩:=S.isIt hi;have nei:e≠it:=fun z=>by
   have he':s.heap.get? e=some _:=he;rw[z,hoi]at he';cases he';exact hl (by simpa using hci.symm)
  have nae:e≠a:=S.off I hq (hf e (by simp));have nai:a≠it:=fun z=>by
   rw[z,hoi]at hoa;cases hoa;rw[hdi]at hda;cases hda
  have hlt:i<its.toArray.size:=by
   have:=(EK.mp hu).1;simpa using this
  refine wpAny_pyNext_enum_itemD (S.draws (A:=X.A.in1) (show X.A.in1.handled=none from I.ok.hd hc) it a nai its.toArray) he ⟨hi,p⟩ hlt nei (by simp[nei,nae]) fun y h1 tk hP ho hs1 hT hsz hk=>⟨_,rfl,?_⟩;have hy:y=u:=by
   have:its.toArray[i]?=some u:=by simpa using hu
   rw[this]at hP;exact(Fd hP).symm
  subst hy;refine wpAny_letOwnedTupleGo_enum ho fun h2 he2 hs2=>?_;have elt:e<s.heap.objs.size:=EN he;have hT2:h2.get? s.heap.objs.size=some { cls:=.type "tuple",data:=.seq #[.int i tk,y] }:=hs2.extBut _ _ (CI (EM _) elt) hT;have kept:∀b ob,b∉[e,it]->s.heap.get? b=some ob->h2.get? b=some ob:=fun b ob hb q=>by
   have h1':b≠e:=fun z=>hb (by simp[z]);exact hs2.extBut _ _ h1' (hk b ob h1' (fun z=>hb (by simp[z])) q)
  refine⟨.ref s.heap.objs.size,upd H s.heap.objs.size (.tup [.int i,x]),?_,rfl,⟨_,x,I.fresh,rfl,rfl,fun ys hy=>by rw[S.inj I hy hq];exact hx⟩,⟨⟨_,he2⟩,S.itKeep hs1.1 fun o q=>hs2.extBut _ _ (Ge nei) q⟩,fun b hb=>?_⟩
  ·refine I.turns (t':=tk+1) hf kept (EM _) ⟨(by show 2<=E1;decide),[.int i tk,y],.cons ⟨tk,rfl⟩ (.cons ru .nil),_,hT2,rfl,⟨0,rfl⟩,rfl⟩
  ·have lt:b<s.heap.objs.size:=by
    rcases EV.mp hb with rfl|hb
    ·exact elt
    ·obtain rfl:=E5.mp hb
     exact EN hoi
   rw[aQ (j6 lt (EM _))];exact(hf b hb).1
 done:=by
  intro X hP hw hK hc i pins s σ H E I hf st hg;subst hP hw hK;obtain⟨xs,hq,hx⟩:=hg;obtain⟨its,rv,p,hz⟩:=S.get I hq;obtain⟨⟨old,he⟩,hi⟩:=st;obtain⟨oa,na,hoa,hda⟩:=S.isSeq p;obtain⟨oi,hoi,hci,hdi⟩:=S.isIt hi;have nai:a≠it:=fun z=>by
   rw[z,hoi]at hoa;cases hoa;rw[hdi]at hda;cases hda
  have hsz:i=its.toArray.size:=by
   have:=rv.length;simp only[E7];omega
  subst hsz;exact wpAny_pyNext_enum_endD (S.draws (A:=X.A.in1) (show X.A.in1.handled=none from I.ok.hd hc) it a nai its.toArray) he ⟨hi,p⟩ fun h' hx'=>⟨rfl,I.turnsN (t':=s.toks) hf fun b ob hb q=>hx' b ob (fun z=>hb (by simp[z])) q⟩
 self:=fun _ _ _ _ _ st h=>by
  obtain⟨⟨old,he⟩,_⟩:=st;exact NR he h
section
variable{X:Cx}{elts:List Expr}{k0:Nat}{tpos:Pos}
theorem yV(S:Src)(l:Addr)(its:Array Value):
  Meets (Builtin.«enumerate.__new__» ⟨[.type "enumerate",.ref l],[]⟩) (fun _ R s=>S.Is s.heap l its/\
   R (.ok (.ret (.ref (s.heap.push { cls:=.type S.icls,data:=.fields #[.ref l,.int 0 0] }).objs.size)))
    { s with heap:=(s.heap.push { cls:=.type S.icls,data:=.fields #[.ref l,.int 0 0] }).push { cls:=.type "enumerate",data:=.fields #[.none,.bool false,.ref s.heap.objs.size,rawInt 0,.none,.none] } }):=
 .of_wp fun prog w A R s h=>by
  obtain⟨hp,g,d,tk,os⟩:=s;obtain⟨hl,h⟩:=h;have hsub:=sub_enumerate;have hL:S.Is (Od ⟨hp,g,d,tk,os⟩) l its:=hl
  wp_walk
  refine wpAny_stack_any fun st=>EJ ?_
  split
  ·rename_i c _ _ _ _ _
   cases (c==FE "enumerate")
   ·wp_walk using S.iter hL
    exact⟨_,rfl,h⟩
   ·wp_walk using S.iter hL
    exact⟨_,rfl,h⟩
  ·wp_walk using S.iter hL
   exact⟨_,rfl,h⟩
theorem xj(S:Src){prog:Program}{w:World}{A:Around}{E:Value->Shared->Prop}{s:Shared}{l:Addr}{its:Array Value}{Q:Value->Shared->Prop}(hL:S.Is s.heap l its)
  (h:∀h',IsEnum h' (s.heap.objs.size+1) s.heap.objs.size 0 .none->S.It h' s.heap.objs.size l 0->(∀b o,s.heap.get? b=some o->h'.get? b=some o)->Q (.ref (s.heap.objs.size+1)) { s with heap:=h' }):
  wpAny (model prog w) A (call (.type "enumerate") [.ref l]) Q E s:=by
 refine NB F.called_enumerate (by decide) (F.typeCall_enumerate_1 _) (F.newCall_enumerate_1 _) (fun obj=>F.args_object_init_2 obj _) F.entry_enumerate_new (yV S l its) ⟨hL,?_⟩;have hz:(s.heap.push { cls:=.type S.icls,data:=.fields #[.ref l,.int 0 0] }).objs.size=s.heap.objs.size+1:=FA ..;show _/\_;rw[hz];have he:=ES (s.heap.push { cls:=.type S.icls,data:=.fields #[.ref l,.int 0 0] }) (o:={ cls:=.type "enumerate",data:=.fields #[.none,.bool false,.ref s.heap.objs.size,rawInt 0,.none,.none] }) rfl;rw[hz]at he;exact⟨⟨_,he,rfl⟩,h _ he (S.mkI (EH _ (ES _ rfl)) rfl rfl) fun b o q=>EH _ (EH _ q)⟩
noncomputable def gU(S:Src)(K:Fg)(ta:TA):TI:=fun σ H R=>ta σ H fun vs H1=>∃a xs,vs=[.ref a]/\S.Sq K H1 a xs/\R (Ite S K a) H1
theorem fL(S:Src){a:Expr}{ta:TA}{p pos:Pos}(hg:Gl X "enumerate")(hm:X.mg "enumerate"=none)(hS:S.icls≠"enumerate")(ha:PA X [a] ta)(hs:Fc [a] X.env=[(false,eval a X.env)]:=by rfl):
  PI X (.Tuple elts k0 tpos) (.Call (.Name "enumerate" p) [a] [] pos) (gU S X.K ta):=by
 intro pins s σ H R I h;refine Call_ (dC I hg hm boot_enumerate (Gh (thn (ha pos pins s σ H _ I h) fun us s1 ⟨vs,H1,I1,r1,q1⟩=>?_) hs rfl));obtain⟨l,xs,e,hq,q⟩:=q1;subst e;obtain⟨u,rfl,ru⟩:=r1.one;cases ru;obtain⟨its,rv,p',hz⟩:=S.get I1 hq;refine xj S p' fun h' he hi kp=>NR he ?_;have I2:Inv X pins σ H1 { s1 with heap:=h' }:=I1.kept (t':=s1.toks) kp;refine⟨s1.heap.objs.size+1,[s1.heap.objs.size+1,s1.heap.objs.size],_,_,H1,rfl,I2,xh S l _ _ hS,⟨⟨_,he⟩,hi⟩,fun b hb=>?_,q⟩;have hb':s1.heap.objs.size<=b:=by
  rcases EV.mp hb with rfl|hb
  ·exact Jl _
  ·obtain rfl:=E5.mp hb
   exact EM _
 exact I1.fpOk hb' (I1.hok.fresh hb')
end
end
section
open PySem.Spec
section
variable{X:Cx}
noncomputable def kc(K:Fg):List V->Hp->VK->Prop:=fun xs H Q=>∃x T t b,xs=[x,.ty T]/\du K H x t/\Gk K t (.type T)=some b/\Q (.bl b) H
theorem fC:cw X (.builtin "isinstance") (kc X.K):=by
 intro pins s σ H xs us Q I r h;obtain⟨x,T,t,b,rfl,ty,e,q⟩:=h;obtain⟨u,v,rfl,ru,rv⟩:=r.two;cases (show v=FE T from rv);exact wY I ru ty e fun tk=>⟨.bl b,H,I.tok tk,rfl,q⟩
theorem md(K:Fg):Gk K (.type "int") (.type "int")=some true:=by unfold Gk;rw[if_pos (beq_self_eq_true _)]
theorem kZ(K:Fg):Gk K (.type "int") (.type "bool")=some false:=by show(if(FE "int"==FE "bool")=true then some true else if Mo "bool"=true then(ME "int").map (·.contains (.type "bool"))else none)=some false;decide+kernel
theorem tM(K:Fg):Gk K (.type "tuple") (.type "tuple")=some true:=by unfold Gk;rw[if_pos (beq_self_eq_true _)]
theorem tN(K:Fg):Gk K (.type "list") (.type "list")=some true:=by unfold Gk;rw[if_pos (beq_self_eq_true _)]
theorem Bx:∀(bs:List Bool),(EY bs.length).all (fun i=>bs.getD i false)=bs.all id:=by
 intro bs
 induction bs with
 |nil=>rfl
 |cons b r ih=>
  rw[Fu,List.range_succ_eq_map,Jg,IP,Jg];show(b&&_)=(b&&_);rw[<-ih];rfl
theorem By{bs:List Bool}{us:List Value}(r:aA (bs.map V.bl) us):us=bs.map GN:=by
 induction bs generalizing us with
 |nil=>cases r;rfl
 |cons b t ih=>
  cases r with
  |cons q r'=>
   rw[E6,<-ih r',show _=GN b from q]
theorem Inv.walked{pins:List (Addr×Obj)}{σ:St}{H:Hp}{s:Shared}{h':Heap}{tk:Nat}{o:Obj}(I:Inv X pins σ H s)(hk:∀b ob,b∉[s.heap.objs.size]->(s.heap.push o).get? b=some ob->h'.get? b=some ob):Inv X pins σ H { s with heap:=h',toks:=tk }:=
 I.kept fun b ob e=>hk b ob (fun z=>absurd (E5.mp z) (Fi (EN e))) (EH _ e)
theorem pP(hc:X.calm=true):cw X (.builtin "all") (fun xs H Q=>∃(p:Addr)(bs:List Bool),xs=[.ref p]/\SqL X.K H p (bs.map V.bl)/\Q (.bl (bs.all id)) H):=by
 intro pins s σ H xs us Q I r h;obtain⟨p,bs,rfl,hq,q⟩:=h;obtain⟨u,rfl,rx⟩:=r.one;cases rx;obtain⟨its,rv,pl,hz⟩:=I.list hq;have e:=By rv;subst e;refine call_all_walk (IE pl.isList ⟨s.heap.objs.size,_,_,_,_,_,fun i=>bs.getD i false,rfl,OG (show X.A.in1.handled=none from I.ok.hd hc) _ p (by obtain⟨o,ho,_⟩:=pl.isList;exact Fi (EN ho)) (bs.map GN).toArray,
  ⟨⟨_,ES _ rfl,rfl,rfl⟩,pl.isList.push _⟩,?_,fun h' tk hk=>?_⟩)
 ·intro i v s' Q' E' hP hQ
  have hP':(bs.map GN)[i]?=some v:=by simpa using hP
  rw[EO]at hP';cases e:bs[i]? with
  |none=>rw[e]at hP';cases hP'
  |some b=>
   rw[e]at hP';cases hP';have:bs.getD i false=b:=by rw[ER,e];rfl
   have hQ':Q' (bs.getD i false) s':=hQ;rw[this]at hQ';exact GR hQ'
 ·refine⟨.bl (bs.all id),H,I.walked hk,?_,q⟩
  show GN _=GN _;rw[<-Bx];simp
theorem me(ns:List Int):∀k,k<=ns.length->preSum (fun i=>ns.getD i 0) k=(ns.take k).sum:=by
 intro k
 induction k with
 |zero=>intro _;simp[preSum]
 |succ k ih=>
  intro hk;have hlt:k<ns.length:=hk;rw[preSum,ih (Gs hlt),HS,Gc,EG hlt,ER,EG hlt];simp
theorem jd(hc:X.calm=true):cw X (.builtin "sum") (fun xs H Q=>∃(p:Addr)(ns:List Int),xs=[.ref p]/\SqL X.K H p (ns.map V.int)/\Q (.int ns.sum) H):=by
 intro pins s σ H xs us Q I r h;obtain⟨p,ns,rfl,hq,q⟩:=h;obtain⟨u,rfl,rx⟩:=r.one;cases rx;obtain⟨its,rv,pl,hz⟩:=I.list hq;have hlen:ns.length=its.length:=by have:=rv.length;simpa using this
 have ia:=iz rv;refine call_sum_walkG (IE pl.isList ⟨s.heap.objs.size,_,_,_,_,_,fun i=>ns.getD i 0,rfl,OG (show X.A.in1.handled=none from I.ok.hd hc) _ p (by obtain⟨o,ho,_⟩:=pl.isList;exact Fi (EN ho)) its.toArray,
  ⟨⟨_,ES _ rfl,rfl,rfl⟩,pl.isList.push _⟩,fun b hb=>?_,?_,fun h' tk t' hk=>?_⟩)
 ·have hp:p<s.heap.objs.size:=by
   obtain⟨o,ho,_⟩:=pl.isList;exact EN ho
  show b<(s.heap.push _).objs.size;rw[FA];rcases EV.mp hb with rfl|hb
  ·exact Gq _
  ·obtain rfl:=E5.mp hb
   exact FS hp
 ·intro i v hP
  have hP':its[i]?=some v:=by simpa using hP
  have hlt:i<ns.length:=by
   have:=(EK.mp hP').1;omega
  obtain⟨u',hu',ru'⟩:=rv.get (x:=.int ns[i]) (i:=i) (by rw[EO,EG hlt]<;>rfl);rw[hP']at hu';cases hu';obtain⟨t,e⟩:=(show∃t,v=HE ns[i] t from ru');refine⟨t,?_⟩;show v=HE (ns.getD i 0) t;rw[e,ER,EG hlt];rfl
 ·refine⟨.int ns.sum,H,I.walked hk,⟨t',?_⟩,q⟩
  rw[show its.toArray.size=ns.length by simp;omega,me ns _ (EM _),FT]
noncomputable def EqE(x y:V)(b:Bool):Prop:=(fh x=true/\fh y=true/\b=eqV x y)\/(∃a,x=.ref a/\y=.ref a/\b=true)
theorem EqE.at{A:Around}{s:Shared}{x y:V}{b:Bool}{u v:Value}(h:EqE x y b)(ru:aB x u)(rv:aB y v):Fl A s u v b:=by
 rcases h with⟨f1,f2,rfl⟩|⟨a,rfl,rfl,rfl⟩
 ·exact w5 ru rv f1 f2
 ·cases ru
  cases rv;exact Mn _
noncomputable def yW(xs ys:List V)(e:Nat->Bool):Prop:=∀j x y,xs[j]?=some x->ys[j]?=some y->EqE x y (e j)
theorem Bz{A:Around}{s:Shared}{xs ys:List V}{e:Nat->Bool}{us vs:List Value}(h:yW xs ys e)(ru:aA xs us)(rv:aA ys vs):
  ∀j (h1:j<us.toArray.size) (h2:j<vs.toArray.size),Fl A s us.toArray[j] vs.toArray[j] (e j):=by
 intro j h1 h2;have h1':j<xs.length:=by rw[ru.length];simpa using h1
 have h2':j<ys.length:=by rw[rv.length];simpa using h2
 obtain⟨u,eu,r1⟩:=ru.get (EG h1');obtain⟨v,ev,r2⟩:=rv.get (EG h2');have q:=(h j _ _ (EG h1') (EG h2')).at (A:=A) (s:=s) r1 r2;have e1:us.toArray[j]=u:=by
  have:=(EK.mp eu).2;simpa using this
 have e2:vs.toArray[j]=v:=by
  have:=(EK.mp ev).2;simpa using this
 rw[e1,e2];exact q
noncomputable def ly(xs ys:List V)(e:Nat->Bool):Bool:=(EY (min xs.length ys.length)).all e&&xs.length==ys.length
noncomputable def yX(Sq:Hp->Addr->List V->Prop)(neg:Bool):R2:=fun x y H Q=>∃a b xs ys e,x=.ref a/\y=.ref b/\Sq H a xs/\Sq H b ys/\yW xs ys e/\Q (.bl (if neg then !ly xs ys e else ly xs ys e)) H
theorem CJ(hu:X.A.units<cLine):OpR X (GE .NotEq) (yX (SqT X.K) true):=by
 intro pins s σ H x y v u Q I r1 r2 h;obtain⟨a,b,xs,ys,e,rfl,rfl,ha,hb,he,q⟩:=h;cases r1;cases r2;obtain⟨us,ru,pu,_⟩:=I.tuple ha;obtain⟨vs,rv,pv,_⟩:=I.tuple hb;refine SeqAt.RcNeAt.tuples (e:=e) pu pv hu (Bz he ru rv) _ _ _ _ ⟨.bl (!ly xs ys e),H,I,?_,q⟩;show GN _=GN _;unfold ly;rw[E7,E7,ru.length,rv.length]
end
theorem xk(ns ms:List Int):yW (ns.map V.int) (ms.map V.int) (fun j=>decide (ns[j]?=ms[j]?)):=by
 intro j x y hx hy;rw[EO]at hx hy;cases e1:ns[j]? with
 |none=>rw[e1]at hx;cases hx
 |some n=>
  cases e2:ms[j]? with
  |none=>rw[e2]at hy;cases hy
  |some m=>
   rw[e1]at hx;rw[e2]at hy;cases hx;cases hy;refine .inl ⟨rfl,rfl,?_⟩;show decide (ns[j]?=ms[j]?)=(n==m);rw[e1,e2];by_cases h:n=m
   ·subst h;simp
   ·simp[h]
theorem vk(ns ms:List Int):ly (ns.map V.int) (ms.map V.int) (fun j=>decide (ns[j]?=ms[j]?))=decide (ns=ms):=by
 unfold ly;rw[EI,EI];by_cases h:ns=ms
 ·subst h
  simp
 ·rw[decide_eq_false h]
  by_cases hl:ns.length=ms.length
  ·rw[Bool.and_eq_false_iff]
   left
   rw[<-Bool.not_eq_true,IZ];intro q;apply h;apply G2;intro j;by_cases hj:j<ns.length
   ·have:=q j (by rw[Ff];omega)
    exact of_decide_eq_true this
   ·rw[FI (by omega),FI (by omega)]
  ·rw[beq_eq_false_iff_ne.mpr hl,MC]
end
section
open PySem.Spec
noncomputable def FnB(P:Program)(w:World)(K:Fg)(mg:Str->Option Value)(base:Heap)(k:Nat)(x:Str)(ps:List Str)(sp:Sp):Prop:=
 ∃f fd,bU P w K mg base CX0 k f fd ps sp/\mg x=some (.ref f)/\IL K (.ref f)=true/\fg K fd ps []
theorem au{X:Cx}{k:Nat}{x:Str}{ps:List Str}{sp:Sp}{p pos:Pos}{e:Expr}{es:List Expr}{t:TA}(F:FnB X.prog X.w X.K X.mg X.base k x ps sp)(hr:b7 k X.A)(ha:PA X (e::es) t)(hg:Gl X x:=by rfl)
  (hdb:(x==("__debug__":Str))=false:=by decide) (he:Fc (e::es) X.env=(false,eval e X.env)::Fc es X.env:=by rfl) (hpl:(backTo pos (Fc es X.env)).any (·.1)=false:=by rfl):
  PE X (.Call (.Name x p) (e::es) [] pos) (aJ sp [] E0 t):=by
 obtain⟨f,fd,ok,m,kp,b⟩:=F;exact uo ok hr hg m kp b .nil DD ha hdb he hpl
structure Def(K:Fg)(mg:Str->Option Value)(x:Str)(st:Stmt)(ps:List Str)(f:Addr)(fd:Fk):Prop where
 fn:Fun K x x st f fd
 m:mg x=some (.ref f)
 b:fg K fd ps []
theorem Def.ok{P:Program}{w:World}{K:Fg}{mg:Str->Option Value}{base:Heap}{x:Str}{st:Stmt}{N ps:List Str}{f:Addr}{fd:Fk}{k:Nat}{sp:Sp}(D:Def K mg x st ps f fd)(S:aK N ps (am st))(len:∀vs H Q E,sp vs H Q E->vs.length=ps.length)
  (hbody:∀(cdv:Value)(A:Around)(outer:List Env)(s:Shared)(H:Hp)(vs:List V)(Q:VK)(E:XK),b7 k (A.deeper (envOfC x (am st) s.heap.objs.size f cdv))->sp vs H Q E->
   ∃t,PSs (cq CX0 P w K mg base N x (am st) f cdv A outer s H E).nox (cz st) t/\t { nx:=fun _ H'=>Q .non H',rt:=Q } (start N vs) H):FnB P w K mg base (k+1) x ps sp:=
 ⟨f,fd,D.fn.ok S len hbody,D.m,D.fn.kp,D.b⟩
theorem cN{X:Cx}:OpR X (Ie .Mult) (rI Hv fun i j=>.int (i*j)):=opI fun _ _ _ _ _ _ _ hc q=>mul_int q hc
theorem nA:∀(ns:List Int),∀n∈ns,Jn n<=Mf (ns.map JS)
 | [],n,h=>(nomatch h)
 |m::r,n,h=>by
  rw[E6,Mf];have e:I0 (.int m)=Jn m:=by
   rw[I0];rfl
  rw[e];rcases EV.mp h with rfl|h
  ·omega
  ·have:=nA r n h
   omega
theorem tO{ns:List Int}(h:LL [K3 (ns.map JS)]=true):∀n∈ns,Jn n<=1048576:=by
 intro n hn;have h1:MF (K3 (ns.map JS))=true:=by
  unfold LL at h;rw[Jg,Gr]at h;exact h.1
 unfold MF at h1;rw[Gr]at h1;have h2:I0 (K3 (ns.map JS))<=2^20:=of_decide_eq_true h1.2;rw[I0]at h2;have h3:=nA ns n hn;have e:(2:Nat)^20=1048576:=by decide
 omega
noncomputable def iS(K:Fg)(H:Hp)(a:Addr)(ns:List Int):Prop:=SqL K H a (ns.map V.int)/\ns.length<=63/\∀n∈ns,Jn n<=1048576
noncomputable def nB(K:Fg):Sp:=fun vs H Q _=>∃(a:Addr)(ns:List Int),vs=[.ref a]/\iS K H a ns/\∀H',Q (.bl true) H'
theorem yY{l:PySem.W.OpenLaw}{k:Nat}{q:Program}{loose:List Str}{XP:(Str->Option Value)->Heap->Prop}{YP:World->Heap->Prop}{d:DefRec}{K:Params->Fg}{x:Str}
  (hn:l.most=some 63) (hdf:d.params.defaults=[]) (hr:b7 k callerA) (hY:∀(w:World)(h:Heap),YP w h->(K w.params).In h)
  (F:∀(w:World)(mg:Str->Option Value)(fa:Addr)(h:Heap),(K w.params).In h->h.Ns Fj mg->mg d.name=some (.ref fa)->
   ∃fd:Fk,(∀(s:Shared)(u:Value),BindsTo s fd ⟨[u],[]⟩ [(x,u)])/\
    ∀base:Heap,(K w.params).In base->base.Ns Fj mg->bU l.prog w (K w.params) mg base CX0 k fa fd [x] (nB (K w.params))):
  PySem.W.WalkO q loose XP YP l.row.toRowW d [] (fun f vs=>PySem.call f vs):=by
 intro w s₀ s₁ mg mb G Y fa o pm cd doc dV kV ho hd hcd hD hmg hg args vals as hpre hlay hrd hwl hlo;obtain rfl:dV=.none:=PySem.W.Dflts.none hD hdf;obtain rfl:kV=.none:=PySem.W.Dflts.noKw hD;obtain⟨a,vs,ns,rfl,rfl,hobj,hints,hlen⟩:=Att.w9 hn hpre hwl;have hbits:=tO hlay;have KX:=hY w _ Y;obtain⟨fd,hb,hF⟩:=F w mg fa _ KX G.T.g hmg;have c:=yU KX G.T.g G.T.b G.T.builtins G.T.nolimit hg hobj hints (Fz hlen (by decide)) hr hF hb (fun H hO hS=>⟨a,ns,rfl,⟨hS,hlen,hbits⟩,fun _=>rfl⟩) fun H e s' z=>z;refine PySem.W.enter_call (IM c fun r s' hq=>?_);obtain⟨rfl,h2,h3,h4⟩:=hq;exact⟨.inl ⟨.bool true,.bool true,[],rfl,fun _=>rfl,.bool true,Att.xa l _,fun _=>⟨Lv,fun _ hm=>(nomatch hm)⟩⟩,h2,h3,h4⟩
theorem xl{J:It}{n:Nat}{g:TG}{tb:TS}{D:ij}{σ:St}{H:Hp}{Y:Nat->Hp->V->Hp->Prop}(Pv:Nat->St->Hp->Prop)(h0:Pv 0 σ H)(hgo:∀i σ H,i<n->Pv i σ H->J.go i H)(hst:∀σ H,Pv n σ H->J.stop n H)
  (hy:∀i σ H x H1,i<n->Pv i σ H->J.yld i H x H1->Y i H x H1) (hs:∀i x σ H H1,i<n->Pv i σ H->Y i H x H1->g x σ H1 fun σ2 H2=>tb { D with nx:=Pv (i+1),ct:=Pv (i+1),bk:=D.nx } σ2 H2) (hd:∀σ H,Pv n σ H->D.nx σ H):
  ∃W:Nat->Nat->St->Hp->Prop,(∃m,W 0 m σ H)/\∀i m σ H,W i m σ H->
   (J.stop i H/\D.nx σ H)\/(J.go i H/\∃N:St->Hp->Prop,(∀σ' H',N σ' H'->∃m',m'<m/\W (i+1) m' σ' H')/\∀x H',J.yld i H x H'->g x σ H' fun σ2 H2=>tb { D with nx:=N,ct:=N,bk:=D.nx } σ2 H2):=by
 refine⟨fun i m σ H=>m=n-i/\i<=n/\Pv i σ H,⟨n,by simp,Fy _,h0⟩,?_⟩;rintro i m σ H ⟨rfl,hi,p⟩;by_cases hlt:i<n
 ·exact .inr ⟨hgo i σ H hlt p,Pv (i+1),fun σ' H' p'=>⟨n-(i+1),by omega,rfl,hlt,p'⟩,fun x H' y=>hs i x σ H H' hlt p (hy i σ H x H' hlt p y)⟩
 ·have e:i=n:=by omega
  subst e;exact .inl ⟨hst σ H p,hd σ H p⟩
theorem rD{S:Src}{K:Fg}{a:Addr}{xs:List V}{g:TG}{tb:TS}{D:ij}{σ:St}{H:Hp}(Pv:Nat->St->Hp->Prop)(h0:Pv 0 σ H)(hl:∀i σ H,i<=xs.length->Pv i σ H->S.Sq K H a xs)
  (hs:∀i x T σ H,xs[i]?=some x->Pv i σ H->H T=none->g (.ref T) σ (upd H T (.tup [.int i,x])) fun σ2 H2=>tb { D with nx:=Pv (i+1),ct:=Pv (i+1),bk:=D.nx } σ2 H2) (hd:∀σ H,Pv xs.length σ H->D.nx σ H):
  ∃W:Nat->Nat->St->Hp->Prop,(∃m,W 0 m σ H)/\∀i m σ H,W i m σ H->
   ((Ite S K a).stop i H/\D.nx σ H)\/((Ite S K a).go i H/\∃N:St->Hp->Prop,(∀σ' H',N σ' H'->∃m',m'<m/\W (i+1) m' σ' H')/\∀x H',(Ite S K a).yld i H x H'->g x σ H' fun σ2 H2=>tb { D with nx:=N,ct:=N,bk:=D.nx } σ2 H2):=
 xl (J:=Ite S K a) (n:=xs.length) (Y:=fun i H x H1=>∃T v,H T=none/\x=.ref T/\H1=upd H T (.tup [.int i,v])/\xs[i]?=some v) Pv h0 (fun i σ H hi w=>⟨xs,xs[i],hl i σ H (Gs hi) w,by simp[hi]⟩) (fun σ H w=>⟨xs,hl _ σ H (EM _) w,rfl⟩)
  (fun i σ H x H1 hi w y=>by
   obtain⟨T,v,e1,e2,e3,e4⟩:=y;exact⟨T,v,e1,e2,e3,e4 xs (hl i σ H (Gs hi) w)⟩) (fun i x σ H H1 hi w y=>by
   obtain⟨T,v,e1,rfl,rfl,e4⟩:=y;exact hs i v T σ H e4 w e1) hd
theorem pQ{S:Src}{K:Fg}{a:Addr}{xs:List V}{g:CF TG}{tt:CF TT}{te:CF TE}{σ₀:St}{p:Addr}{Q:VK}{H:Hp}(Pv:Nat->List V->Hp->Prop)(h0:Pv 0 [] (upd H p (.lst [])))(hp:∀i acc H,i<=xs.length->Pv i acc H->H p=some (.lst acc)/\acc.length<=i)(hl:∀i acc H,i<=xs.length->Pv i acc H->S.Sq K H a xs)(hz:xs.length<=E1)
  (hs:∀C s' H' fp,∀i x T acc H,xs[i]?=some x->Pv i acc H->H T=none->g C s' H' fp (.ref T) σ₀ (upd H T (.tup [.int i,x])) fun σ2 H2=>tt C s' H' fp σ2 H2 fun b H3=>if b=true then te C s' H' fp σ2 H3 fun y H4=>H4 p=some (.lst acc)/\Pv (i+1) (acc++[y]) (upd H4 p (.lst (acc++[y])))else Pv (i+1) acc H3)
  (hd:∀acc H,Pv xs.length acc H->Q (.ref p) H):
  ∃W:Nat->Nat->List V->Hp->Prop,(∃m,W 0 m [] (upd H p (.lst [])))/\∀C s' H' fp,bO (Ite S K a) (g C s' H' fp) (tt C s' H' fp) (te C s' H' fp) σ₀ p Q W:=
 lx (Y:=fun i H x H1=>∃T v,H T=none/\x=.ref T/\H1=upd H T (.tup [.int i,v])/\xs[i]?=some v) Pv h0 hp hz (fun i acc H hi w=>⟨xs,xs[i],hl i acc H (Gs hi) w,by simp[hi]⟩) (fun acc H w=>⟨xs,hl _ acc H (EM _) w,rfl⟩)
  (fun i acc H x H1 hi w y=>by
   obtain⟨T,v,e1,e2,e3,e4⟩:=y;exact⟨T,v,e1,e2,e3,e4 xs (hl i acc H (Gs hi) w)⟩) (fun C s' H' fp i x acc H H1 hi w y=>by
   obtain⟨T,v,e1,rfl,rfl,e4⟩:=y;exact hs C s' H' fp i v T acc H e4 w e1) hd
theorem aH{H:Hp}{p:Addr}(h:H p=none)(o:HO):ak H (upd H p o):=fun b u q=>by rw[aQ (aT q h)];exact q
theorem ak.upd{H H':Hp}{p:Addr}(s:ak H H')(h:H p=none)(o:HO):ak H (upd H' p o):=fun b u q=>by rw[aQ (aT q h)];exact s b u q
theorem ak.tup{K:Fg}{H H':Hp}{a:Addr}{xs:List V}(e:ak H H')(h:SqT K H a xs):SqT K H' a xs:=by
 rcases h with(h|⟨o,h⟩)|h
 ·exact .inl (.inl (e _ _ h))
 ·exact .inl (.inr ⟨o,e _ _ h⟩)
 ·exact .inr h
theorem small{n:Nat}(h:n<=1000):n<=E1:=Gs (xf h)
theorem rE{ns:List Int}{k:Int}(h0:0<=k)(h1:k<(ns.length:Int)):atI (ns.map V.int) k=some (.int (ns.getD k.toNat 0)):=by
 have hk:k.toNat<ns.length:=by omega
 have e:k=((k.toNat:Nat):Int):=by omega
 have q:atI (ns.map V.int) ((k.toNat:Nat):Int)=some (.int (ns.getD k.toNat 0)):=fK (by rw[EO,EG hk,ER,EG hk]<;>rfl);rw[<-e]at q;exact q
theorem fV{c:Bool}{A B:Prop}(h1:c=true->A)(h2:c=false->B):if c=true then A else B:=by
 cases c with
 |true=>rw[if_pos rfl];exact h1 rfl
 |false=>rw[if_neg EU];exact h2 rfl
theorem iS.same{K:Fg}{H H':Hp}{a:Addr}{ns:List Int}(h:iS K H a ns)(s:ak H H'):iS K H' a ns:=⟨s.seq h.1,h.2⟩
structure Blt(mg:Str->Option Value):Prop where
 len:mg "len"=none
 range:mg "range"=none
 tuple:mg "tuple"=none
 list:mg "list"=none
 int:mg "int"=none
 bool:mg "bool"=none
 str:mg "str"=none
 dict:mg "dict"=none
 sum:mg "sum"=none
 all:mg "all"=none
 min:mg "min"=none
 max:mg "max"=none
 sorted:mg "sorted"=none
 enumerate:mg "enumerate"=none
 zip:mg "zip"=none
 isinstance:mg "isinstance"=none
end
section
open PySem.Spec
structure fW(z TI TO j1 j2:Addr)(fp1 fp2:List Addr):Prop where
 a1:TI≠z
 a2:TO≠z
 a3:j1≠z
 a4:j2≠z
 a5:TI≠TO
 a6:TI≠j1
 a7:TI≠j2
 a8:TO≠j1
 a9:TO≠j2
 b0:j1≠j2
 b1:z∉fp1
 b2:TO∉fp1
 b3:j2∉fp1
 b4:z∉fp2
 b5:TO∉fp2
 b6:j1∉fp2
section
variable{prog:Program}{w:World}{A:Around}{E:Value->Shared->Prop}{s:Shared}
theorem _root_.PySem.Draws.but{it:Addr}{fp:List Addr}{n i:Nat}{P:Nat->Value->Prop}{St:Nat->Heap->Prop}{h h':Heap}{c:Addr}(D:Draws prog w A it fp n P St)(hst:St i h)(hs:Fb c h h')(hc:c∉fp):St i h':=
 D.frame i _ _ hst fun b hb o e=>hs.extBut b o (fun z=>hc (by rw[<-z];exact hb)) e
theorem pR{z TI TO j1 j2:Addr}{fp1 fp2:List Addr}{n1 n2 k:Nat}{P1 P2:Nat->Value->Prop}{S1 S2:Nat->Heap->Prop}{a b:Value}{Q:Value->Shared->Prop}(Z:fW z TI TO j1 j2 fp1 fp2)
  (D1:Draws prog w A j1 fp1 n1 P1 S1) (D2:Draws prog w A j2 fp2 n2 P2 S2) (hz:IsZip s.heap z TI TO .none) (hTI:IsPair s.heap TI (.ref j1) (.ref j2)) (hTO:IsPair s.heap TO a b) (h1:S1 k s.heap) (h2:S2 k s.heap) (l1:k<n1) (l2:k<n2)
  (hQ:∀x y h' tk,P1 k x->P2 k y->IsZip h' z TI TO (rawInt s.heap.objs.size)->(∃a b,IsPair h' TO a b)->S1 (k+1) h'->S2 (k+1) h'->IsPair h' s.heap.objs.size x y->
   (∀c o,c∉[z,TI,TO,j1,j2]->s.heap.get? c=some o->h'.get? c=some o)->IsPair h' TI (.ref j1) (.ref j2)->Q (.ref s.heap.objs.size) { s with heap:=h',toks:=tk }):
  wpAny (model prog w) A (Builtin.«zip.__next__» ⟨[.ref z],[]⟩) (fun fin s'=>∃v,fin=.done (.ret v)/\Q v s') E s:=by
 obtain⟨hp,g,d,tk₀,os⟩:=s;show wpAny _ _ (field (.ref z) 2>>=_) _ _ _;refine EF (Ga hz rfl (x:=.bool false) rfl ?_);show wpAny _ _ (field (.ref z) 3>>=_) _ _ _;refine EF (Ga hz rfl (x:=.ref TI) rfl ?_);refine EF (FG hTI rfl ?_);show wpAny _ _ (FQ (.ref z)>>=_) _ _ _;refine EF ?_;unfold FQ;refine EF (Ga hz rfl (x:=.none) rfl (EJ ?_));simp only[if_true];refine EF (Ha ?_);refine EF (Ga hz rfl (x:=.ref TO) rfl ?_);refine EF (Hf hz (by simp) fun g1 hz1 hs1=>?_);replace hz1:IsZip g1 z TI TO .ellipsis:=hz1;replace hs1:Fb z hp g1:=hs1;refine EF ?_;simp only[Os,OH,Jt,KI];refine EF (EF (J7 ?_));show wpAny _ _ (FF (.ref j1)>>=_) _ _ _;refine EF (D1.item k ⟨g1,g,d,tk₀,os⟩ _ _ l1 (D1.but h1 hs1 Z.b1) fun x g2 tk1 px st1 hs2=>EJ ?_);replace hs2:Fb j1 g1 g2:=hs2;have hTO2:IsPair g2 TO a b:=hs2.extBut _ _ Z.a8 (hs1.extBut _ _ Z.a2 hTO);refine EF (FG hTO2 rfl ?_);refine EF (Kn hTO2 fun g3 hTO3 hs3=>?_);replace hTO3:IsPair g3 TO x b:=hTO3;replace hs3:Fb TO g2 g3:=hs3;refine EF (Iy (EJ ?_));refine EF (EF (J7 ?_));show wpAny _ _ (FF (.ref j2)>>=_) _ _ _;refine EF (D2.item k ⟨g3,g,d,tk1,os⟩ _ _ l2 (D2.but (D2.but (D2.but h2 hs1 Z.b4) hs2 Z.b6) hs3 Z.b5) fun y g4 tk2 py st2 hs4=>EJ ?_);replace hs4:Fb j2 g3 g4:=hs4;have hTO4:IsPair g4 TO x b:=hs4.extBut _ _ Z.a9 hTO3;refine EF (FG hTO4 rfl ?_);refine EF (Kn hTO4 fun g5 hTO5 hs5=>?_);replace hTO5:IsPair g5 TO x y:=hTO5;replace hs5:Fb TO g4 g5:=hs5;refine EF (Iy (EJ (EJ ?_)));refine EF (FG hTO5 rfl ?_);refine EF (KJ ?_);have hsz:g5.objs.size=hp.objs.size:=by rw[hs5.1,hs4.1,hs3.1,hs2.1,hs1.1]
 have hz5:IsZip g5 z TI TO .ellipsis:=hs5.extBut _ _ Z.a2.symm (hs4.extBut _ _ Z.a4.symm (hs3.extBut _ _ Z.a2.symm (hs2.extBut _ _ Z.a3.symm hz1)));have k5:∀c o,c≠z->c≠TO->c≠j1->c≠j2->hp.get? c=some o->g5.get? c=some o:=fun c o c1 c2 c3 c4 e=>
  hs5.extBut _ _ c2 (hs4.extBut _ _ c4 (hs3.extBut _ _ c2 (hs2.extBut _ _ c3 (hs1.extBut _ _ c1 e))))
 have st15:S1 (k+1) g5:=D1.but (D1.but (D1.but st1 hs3 Z.b2) hs4 Z.b3) hs5 Z.b2;have st25:S2 (k+1) g5:=D2.but st2 hs5 Z.b5;have zlt:z<g5.objs.size:=EN hz5;show wpAny _ _ (JC (.ref z) (.ref g5.objs.size)>>=_) _ _ _;refine EF ?_;unfold JC;have hz6:IsZip (g5.push { cls:=.type "tuple",data:=.seq #[x,y] }) z TI TO .ellipsis:=EH _ hz5;refine EF (Hf hz6 (by simp) fun g7 hz7 hs7=>?_);replace hz7:IsZip g7 z TI TO (rawInt g5.objs.size):=hz7;refine Hf hz7 (by simp) fun g8 hz8 hs8=>?_;replace hz8:IsZip g8 z TI TO (rawInt g5.objs.size):=hz8;have up:∀c o,c≠z->g5.get? c=some o->g8.get? c=some o:=fun c o c1 e=>hs8.extBut _ _ c1 (hs7.extBut _ _ c1 (EH _ e));have hT8:IsPair g8 g5.objs.size x y:=hs8.extBut _ _ (G5 zlt) (hs7.extBut _ _ (G5 zlt) (ES _ rfl));rw[hsz]at hz8 hT8;refine EJ ⟨_,rfl,?_⟩;show Q (.ref g5.objs.size) _;rw[hsz];exact hQ x y g8 tk2 px py hz8 ⟨x,y,up _ _ Z.a2 hTO5⟩ (D1.frame _ _ _ st15 fun c hc o e=>up c o (fun q=>Z.b1 (by rw[<-q];exact hc)) e) (D2.frame _ _ _ st25 fun c hc o e=>up c o (fun q=>Z.b4 (by rw[<-q];exact hc)) e) hT8
  (fun c o hc e=>by
   simp only[EV,FJ,or_false,not_or]at hc;exact up c o hc.1 (k5 c o hc.1 hc.2.2.1 hc.2.2.2.1 hc.2.2.2.2 e)) (up _ _ Z.a1 (k5 _ _ Z.a1 Z.a5 Z.a6 Z.a7 hTI))
theorem rF{z TI TO j1 j2:Addr}{fp1 fp2:List Addr}{n1 n2 k:Nat}{P1 P2:Nat->Value->Prop}{S1 S2:Nat->Heap->Prop}{a b:Value}{Q:Fin->Shared->Prop}(Z:fW z TI TO j1 j2 fp1 fp2)
  (D1:Draws prog w A j1 fp1 n1 P1 S1) (D2:Draws prog w A j2 fp2 n2 P2 S2) (hz:IsZip s.heap z TI TO .none) (hTI:IsPair s.heap TI (.ref j1) (.ref j2)) (hTO:IsPair s.heap TO a b) (h1:S1 k s.heap) (h2:S2 k s.heap) (l:k=min n1 n2)
  (hE:∀h' e tk,(∀c o,c∉[z,TI,TO,j1,j2]->s.heap.get? c=some o->h'.get? c=some o)->(∃o,h'.get? e=some o/\o.cls=.type "StopIteration")->E (.ref e) { s with heap:=h',toks:=tk }):
  wpAny (model prog w) A (Builtin.«zip.__next__» ⟨[.ref z],[]⟩) Q E s:=by
 obtain⟨hp,g,d,tk₀,os⟩:=s;have kp:∀{h':Heap},(∀c o,c≠z->c≠TO->c≠j1->c≠j2->hp.get? c=some o->h'.get? c=some o)->∀c o,c∉[z,TI,TO,j1,j2]->hp.get? c=some o->h'.get? c=some o:=fun{h'} q c o hc e=>by
  simp only[EV,FJ,or_false,not_or]at hc;exact q c o hc.1 hc.2.2.1 hc.2.2.2.1 hc.2.2.2.2 e
 show wpAny _ _ (field (.ref z) 2>>=_) _ _ _;refine EF (Ga hz rfl (x:=.bool false) rfl ?_);show wpAny _ _ (field (.ref z) 3>>=_) _ _ _;refine EF (Ga hz rfl (x:=.ref TI) rfl ?_);refine EF (FG hTI rfl ?_);show wpAny _ _ (FQ (.ref z)>>=_) _ _ _;refine EF ?_;unfold FQ;refine EF (Ga hz rfl (x:=.none) rfl (EJ ?_));simp only[if_true];refine EF (Ha ?_);refine EF (Ga hz rfl (x:=.ref TO) rfl ?_);refine EF (Hf hz (by simp) fun g1 hz1 hs1=>?_);replace hz1:IsZip g1 z TI TO .ellipsis:=hz1;replace hs1:Fb z hp g1:=hs1;refine EF ?_;simp only[Os,OH,Jt,KI];refine EF (EF (J7 ?_));show wpAny _ _ (FF (.ref j1)>>=_) _ _ _;by_cases hk:k=n1
 ·subst hk
  refine EF (D1.done ⟨g1,g,d,tk₀,os⟩ _ _ (D1.but h1 hs1 Z.b1) fun g2 e hs2 he=>?_);replace hs2:Jm j1 g1 g2:=hs2;obtain⟨oe,hoe,hce⟩:=he;have hz2:IsZip g2 z TI TO .ellipsis:=hs2 _ _ Z.a3.symm hz1;have nez:e≠z:=fun q=>by
   subst q;rw[hz2]at hoe;cases hoe;simp at hce
  refine Hf hz2 (by simp) fun g3 _ hs3=>hE g3 e tk₀ (kp fun c o c1 _ c3 _ q=>hs3.extBut _ _ c1 (hs2 _ _ c3 (hs1.extBut _ _ c1 q))) ⟨oe,hs3.extBut _ _ nez hoe,hce⟩
 ·have hlt:k<n1:=by omega
  have hk2:k=n2:=by omega
  refine EF (D1.item k ⟨g1,g,d,tk₀,os⟩ _ _ hlt (D1.but h1 hs1 Z.b1) fun x g2 tk1 px st1 hs2=>EJ ?_);replace hs2:Fb j1 g1 g2:=hs2;have hTO2:IsPair g2 TO a b:=hs2.extBut _ _ Z.a8 (hs1.extBut _ _ Z.a2 hTO);refine EF (FG hTO2 rfl ?_);refine EF (Kn hTO2 fun g3 hTO3 hs3=>?_);replace hs3:Fb TO g2 g3:=hs3;refine EF (Iy (EJ ?_));refine EF (EF (J7 ?_));show wpAny _ _ (FF (.ref j2)>>=_) _ _ _;subst hk2;refine EF (D2.done ⟨g3,g,d,tk1,os⟩ _ _ (D2.but (D2.but (D2.but h2 hs1 Z.b4) hs2 Z.b6) hs3 Z.b5) fun g4 e hs4 he=>?_);replace hs4:Jm j2 g3 g4:=hs4;obtain⟨oe,hoe,hce⟩:=he;have hz4:IsZip g4 z TI TO .ellipsis:=hs4 _ _ Z.a4.symm (hs3.extBut _ _ Z.a2.symm (hs2.extBut _ _ Z.a3.symm hz1));have nez:e≠z:=fun q=>by
   subst q;rw[hz4]at hoe;cases hoe;simp at hce
  refine Hf hz4 (by simp) fun g5 _ hs5=>hE g5 e tk1 (kp fun c o c1 c2 c3 c4 q=>hs5.extBut _ _ c1 (hs4 _ _ c4 (hs3.extBut _ _ c2 (hs2.extBut _ _ c3 (hs1.extBut _ _ c1 q))))) ⟨oe,hs5.extBut _ _ nez hoe,hce⟩
end
noncomputable abbrev zh1(S1:Src)(h:Heap)(l1:Addr):Heap:=h.push { cls:=.type S1.icls,data:=.fields #[.ref l1,.int 0 0] }
noncomputable abbrev zh2(S1 S2:Src)(h:Heap)(l1 l2:Addr):Heap:=(zh1 S1 h l1).push { cls:=.type S2.icls,data:=.fields #[.ref l2,.int 0 0] }
noncomputable abbrev zh3(S1 S2:Src)(h:Heap)(l1 l2:Addr):Heap:=(zh2 S1 S2 h l1 l2).push { cls:=.type "tuple",data:=.seq #[.ref h.objs.size,.ref (zh1 S1 h l1).objs.size] }
noncomputable abbrev zh4(S1 S2:Src)(h:Heap)(l1 l2:Addr):Heap:=(zh3 S1 S2 h l1 l2).push { cls:=.type "tuple",data:=.seq #[.none,.none] }
noncomputable abbrev zh5(S1 S2:Src)(h:Heap)(l1 l2:Addr):Heap:=(zh4 S1 S2 h l1 l2).push { cls:=.type "zip",data:=.fields #[.none,.bool false,.bool false,.ref (zh2 S1 S2 h l1 l2).objs.size,.ref (zh3 S1 S2 h l1 l2).objs.size] }
theorem ut(S1 S2:Src)(l1 l2:Addr)(xs ys:Array Value):
  Meets (Builtin.«zip.__new__» ⟨[.type "zip",.ref l1,.ref l2],[]⟩) (fun _ R s=>S1.Is s.heap l1 xs/\S2.Is s.heap l2 ys/\R (.ok (.ret (.ref (zh4 S1 S2 s.heap l1 l2).objs.size))) { s with heap:=zh5 S1 S2 s.heap l1 l2 }):=
 .of_wp fun prog w A R s h=>by
  obtain⟨hp,g,d,tk,os⟩:=s;obtain⟨q1,q2,h⟩:=h;have hsub:=sub_zip;have hL1:S1.Is (Od ⟨hp,g,d,tk,os⟩) l1 xs:=q1;have hL2:S2.Is (Od ⟨zh1 S1 hp l1,g,d,tk,os⟩) l2 ys:=S2.isKeep q2 fun o e=>EH _ e
  wp_walk using S1.iter hL1,S2.iter hL2
  exact⟨_,rfl,h⟩
noncomputable def Itz(S1 S2: Src)(K: Fg)(a b: Addr): It:=
  ⟨fun i H=> ∃xs ys x y, S1.Sq K H a xs ∧ S2.Sq K H b ys ∧ xs[i]? = some x ∧ ys[i]? = some y,
   fun i H x H'=> ∃T u v, H T= none ∧ x= .ref T ∧ H'= upd H T (.tup [u, v]) ∧ ∀xs ys, S1.Sq K H a xs → S2.Sq K H b ys → xs[i]? = some u ∧ ys[i]? = some v,
   fun i H=> ∃xs ys, S1.Sq K H a xs ∧ S2.Sq K H b ys ∧ min xs.length ys.length= i⟩
theorem zap{z TI TO j1 j2 a b:Addr}(nd:[z,TI,TO,j1,j2].Nodup)(h1:∀c∈[z,TI,TO,j1,j2],c≠a)(h2:∀c∈[z,TI,TO,j1,j2],c≠b):fW z TI TO j1 j2 [j1,a] [j2,b]:=by
 simp only[GT,EV,FJ,or_false,not_or]at nd;obtain⟨⟨c1,c2,c3,c4⟩,⟨c5,c6,c7⟩,⟨c8,c9⟩,c10,_⟩:=nd;have g1:=h1 z (by simp);have g2:=h1 TO (by simp);have g3:=h1 j2 (by simp);have g4:=h2 z (by simp);have g5:=h2 TO (by simp);have g6:=h2 j1 (by simp);exact⟨Ge c1,Ge c2,Ge c3,Ge c4,c5,c6,c7,c8,c9,c10,by simp[c3,g1],by simp[c8,g2],by simp[Ge c10,g3],by simp[c4,g4],by simp[c9,g5],by simp[c10,g6]⟩
theorem yZ{P:Program}{w:World}{K:Fg}{elts:List Expr}{k0:Nat}{pos:Pos}(S1 S2:Src)(a b z TI TO j1 j2:Addr)(nd:[z,TI,TO,j1,j2].Nodup):
  mC P w K (.Tuple elts k0 pos) (Itz S1 S2 K a b) [z,TI,TO,j1,j2] z (fun i h=>IsZip h z TI TO .none/\IsPair h TI (.ref j1) (.ref j2)/\(∃u v,IsPair h TO u v)/\S1.It h j1 a i/\S2.It h j2 b i) where
 mem:=by simp
 obj:=fun i h st c hc=>by
  obtain⟨q1,q2,⟨u,v,q3⟩,q4,q5⟩:=st;simp only[EV,FJ,or_false]at hc;rcases hc with rfl|rfl|rfl|rfl|rfl
  ·exact⟨_,q1,fun v z=>nomatch z⟩
  ·exact⟨_,q2,fun v z=>nomatch z⟩
  ·exact⟨_,q3,fun v z=>nomatch z⟩
  ·obtain⟨o,ho,_,hd⟩:=S1.isIt q4
   exact⟨o,ho,fun v z=>by rw[hd]at z;cases z⟩
  ·obtain⟨o,ho,_,hd⟩:=S2.isIt q5
   exact⟨o,ho,fun v z=>by rw[hd]at z;cases z⟩
 keep:=fun i h h' st k=>by
  obtain⟨q1,q2,⟨u,v,q3⟩,q4,q5⟩:=st;exact⟨k z (by simp) _ q1,k TI (by simp) _ q2,⟨u,v,k TO (by simp) _ q3⟩,S1.itKeep q4 fun o q=>k j1 (by simp) o q,S2.itKeep q5 fun o q=>k j2 (by simp) o q⟩
 item:=by
  intro X hP hw hK hc i pins s σ H E I hf st hg;subst hP hw hK;obtain⟨xs,ys,x,y,hq1,hq2,hx,hy⟩:=hg;obtain⟨us,r1,p1,_⟩:=S1.get I hq1;obtain⟨vs,r2,p2,_⟩:=S2.get I hq2;obtain⟨q1,q2,⟨u0,v0,q3⟩,q4,q5⟩:=st;obtain⟨u,hu,ru⟩:=r1.get hx;obtain⟨v,hv,rv⟩:=r2.get hy;have Z:=zap nd (fun c hc'=>S1.off I hq1 (hf c hc')) (fun c hc'=>S2.off I hq2 (hf c hc'));have hh:X.A.in1.handled=none:=I.ok.hd hc;have n1:a≠j1:=Ge (S1.off I hq1 (hf j1 (by simp)));have n2:b≠j2:=Ge (S2.off I hq2 (hf j2 (by simp)));have l1:i<us.toArray.size:=by have:=(EK.mp hu).1;simpa using this
  have l2:i<vs.toArray.size:=by have:=(EK.mp hv).1;simpa using this
  have hT:s.TypeIs (.ref z) "zip":=⟨_,q1,rfl⟩;unfold pyNext;refine EF (Hs (FX (name:=GA "__next__") hT Hj (FD Hj hT J9
   (pR (A:=X.A.in1) Z (S1.draws hh j1 a n1 us.toArray) (S2.draws hh j2 b n2 vs.toArray) q1 q2 q3 ⟨q4,p1⟩ ⟨q5,p2⟩ l1 l2 fun x' y' h' tk px py z1 z2 z3 z4 z5 z6 z7=>EJ ?_) (JT _))))
  have ex:x'=u:=by
   have:us.toArray[i]?=some u:=by simpa using hu
   rw[this]at px;exact(Fd px).symm
  have ey:y'=v:=by
   have:vs.toArray[i]?=some v:=by simpa using hv
   rw[this]at py;exact(Fd py).symm
  subst ex ey;refine⟨_,rfl,wpAny_letOwnedTupleGo_zip z1 fun h2 w1 hs2=>?_⟩;have nz:∀c,c∈[TI,TO,j1,j2]->c≠z:=fun c hc' e=>by
   subst e;exact(GT.mp nd).1 hc'
  have zlt:z<s.heap.objs.size:=EN q1;have hT2:h2.get? s.heap.objs.size=some { cls:=.type "tuple",data:=.seq #[x',y'] }:=hs2.extBut _ _ (CI (EM _) zlt) z5;have kept:∀c ob,c∉[z,TI,TO,j1,j2]->s.heap.get? c=some ob->h2.get? c=some ob:=fun c ob hc' q=>hs2.extBut _ _ (fun e=>hc' (by simp[e])) (z6 c ob hc' q);obtain⟨u1,v1,z2⟩:=z2;refine⟨.ref s.heap.objs.size,upd H s.heap.objs.size (.tup [x,y]),?_,rfl,⟨_,x,y,I.fresh,rfl,rfl,fun xs' ys' h1 h2=>by rw[S1.inj I h1 hq1,S2.inj I h2 hq2];exact⟨hx,hy⟩⟩,
   ⟨w1,hs2.extBut _ _ (nz TI (by simp)) z7,⟨u1,v1,hs2.extBut _ _ (nz TO (by simp)) z2⟩,S1.itKeep z3.1 fun o q=>hs2.extBut _ _ (nz j1 (by simp)) q,S2.itKeep z4.1 fun o q=>hs2.extBut _ _ (nz j2 (by simp)) q⟩,fun c hc'=>?_⟩
  ·exact I.turns (t':=tk) hf kept (EM _) ⟨(by show 2<=E1;decide),[x',y'],.cons ru (.cons rv .nil),_,hT2,rfl,⟨0,rfl⟩,rfl⟩
  ·have lt:c<s.heap.objs.size:=by
    have st':IsZip s.heap z TI TO .none/\IsPair s.heap TI (.ref j1) (.ref j2)/\(∃u v,IsPair s.heap TO u v)/\S1.It s.heap j1 a i/\S2.It s.heap j2 b i:=⟨q1,q2,⟨u0,v0,q3⟩,q4,q5⟩;simp only[EV,FJ,or_false]at hc';rcases hc' with rfl|rfl|rfl|rfl|rfl
    ·exact zlt
    ·exact EN q2
    ·exact EN q3
    ·obtain⟨o,ho,_⟩:=S1.isIt q4
     exact EN ho
    ·obtain⟨o,ho,_⟩:=S2.isIt q5
     exact EN ho
   rw[aQ (j6 lt (EM _))];exact(hf c hc').1
 done:=by
  intro X hP hw hK hc i pins s σ H E I hf st hg;subst hP hw hK;obtain⟨xs,ys,hq1,hq2,hi⟩:=hg;obtain⟨us,r1,p1,_⟩:=S1.get I hq1;obtain⟨vs,r2,p2,_⟩:=S2.get I hq2;obtain⟨q1,q2,⟨u0,v0,q3⟩,q4,q5⟩:=st;have Z:=zap nd (fun c hc'=>S1.off I hq1 (hf c hc')) (fun c hc'=>S2.off I hq2 (hf c hc'));have hh:X.A.in1.handled=none:=I.ok.hd hc;have n1:a≠j1:=Ge (S1.off I hq1 (hf j1 (by simp)));have n2:b≠j2:=Ge (S2.off I hq2 (hf j2 (by simp)));have hT:s.TypeIs (.ref z) "zip":=⟨_,q1,rfl⟩;have hl:i=min us.toArray.size vs.toArray.size:=by
   have:=r1.length;have:=r2.length;simp only[E7];omega
  unfold pyNext;refine EF (Hs (FX (name:=GA "__next__") hT Hj (FD Hj hT J9
   (rF (A:=X.A.in1) Z (S1.draws hh j1 a n1 us.toArray) (S2.draws hh j2 b n2 vs.toArray) q1 q2 q3 ⟨q4,p1⟩ ⟨q5,p2⟩ hl fun h' e tk kp he=>?_) (JT _))))
  obtain⟨o,ho,hcl⟩:=he;refine EF (GW (T:="StopIteration") (b:=true) ⟨o,ho,hcl⟩ JJ ?_);exact EJ ⟨rfl,I.turnsN (t':=tk) hf kp⟩
 self:=fun _ _ _ _ _ st h=>LM st.1 h
section
variable{X:Cx}{elts:List Expr}{k0:Nat}{tpos:Pos}
noncomputable def vm(S1 S2:Src)(K:Fg)(ta:TA):TI:=fun σ H R=>ta σ H fun vs H1=>∃a b xs ys,vs=[.ref a,.ref b]/\S1.Sq K H1 a xs/\S2.Sq K H1 b ys/\R (Itz S1 S2 K a b) H1
theorem xm(S1 S2:Src){a b:Expr}{ta:TA}{p pos:Pos}(hg:Gl X "zip")(hm:X.mg "zip"=none)(ha:PA X [a,b] ta)(hs:Fc [a,b] X.env=[(false,eval a X.env),(false,eval b X.env)]:=by rfl)(hs2:Fc [b] X.env=[(false,eval b X.env)]:=by rfl):
  PI X (.Tuple elts k0 tpos) (.Call (.Name "zip" p) [a,b] [] pos) (vm S1 S2 X.K ta):=by
 intro pins s σ H R I h;refine Call_ (dC I hg hm boot_zip (Gh (thn (ha pos pins s σ H _ I h) fun us s1 ⟨vs,H1,I1,r1,q1⟩=>?_) (by rw[hs,hs2]) (by rw[hs2];rfl)));obtain⟨l1,l2,xs,ys,e,hq1,hq2,q⟩:=q1;subst e;obtain⟨u,v,rfl,ru,rv⟩:=r1.two;cases ru;cases rv;obtain⟨us1,_,p1,_⟩:=S1.get I1 hq1;obtain⟨us2,_,p2,_⟩:=S2.get I1 hq2;refine NB F.called_zip (by decide) (Ot _ _) (OI _ _) (fun obj=>M0 obj _ _) OJ (ut S1 S2 l1 l2 us1.toArray us2.toArray) ⟨p1,p2,?_⟩;generalize hn:s1.heap.objs.size=n;have z1:(zh1 S1 s1.heap l1).objs.size=n+1:=by rw[FA,hn]
 have z2:(zh2 S1 S2 s1.heap l1 l2).objs.size=n+2:=by rw[FA,z1]
 have z3:(zh3 S1 S2 s1.heap l1 l2).objs.size=n+3:=by rw[FA,z2]
 have z4:(zh4 S1 S2 s1.heap l1 l2).objs.size=n+4:=by rw[FA,z3]
 have g5:(zh5 S1 S2 s1.heap l1 l2).get? (zh4 S1 S2 s1.heap l1 l2).objs.size=some _:=ES _ rfl;have g4:(zh5 S1 S2 s1.heap l1 l2).get? (zh3 S1 S2 s1.heap l1 l2).objs.size=some _:=EH _ (ES _ rfl);have g3:(zh5 S1 S2 s1.heap l1 l2).get? (zh2 S1 S2 s1.heap l1 l2).objs.size=some _:=EH _ (EH _ (ES _ rfl));have g2:(zh5 S1 S2 s1.heap l1 l2).get? (zh1 S1 s1.heap l1).objs.size=some _:=EH _ (EH _ (EH _ (ES _ rfl)));have g1:(zh5 S1 S2 s1.heap l1 l2).get? s1.heap.objs.size=some _:=EH _ (EH _ (EH _ (EH _ (ES _ rfl))));have kp:∀c o,s1.heap.get? c=some o->(zh5 S1 S2 s1.heap l1 l2).get? c=some o:=fun c o e=>
  EH _ (EH _ (EH _ (EH _ (EH _ e))))
 show _/\_;rw[z2,z3,z4]at g5;rw[z1,z2,hn]at g3;rw[z3]at g4;rw[z1]at g2;rw[hn]at g1;rw[z4];refine⟨⟨_,g5,rfl⟩,LM g5 ?_⟩;have I2:Inv X pins σ H1 { s1 with heap:=zh5 S1 S2 s1.heap l1 l2 }:=I1.kept (t':=s1.toks) kp;refine⟨n+4,[n+4,n+2,n+3,n,n+1],_,_,H1,rfl,I2,yZ S1 S2 l1 l2 _ _ _ _ _ (by simp),⟨g5,g3,⟨_,_,g4⟩,S1.mkI g1 rfl rfl,S2.mkI g2 rfl rfl⟩,fun c hc=>?_,q⟩;have hc':s1.heap.objs.size<=c:=by
  rw[hn];simp only[EV,FJ,or_false]at hc;rcases hc with rfl|rfl|rfl|rfl|rfl
  ·exact GB _ _
  ·exact GB _ _
  ·exact GB _ _
  ·exact EM _
  ·exact GB _ _
 exact I1.fpOk hc' (I1.hok.fresh hc')
end
end
section
open PySem.Spec
section
variable{X:Cx}
noncomputable def vn(K:Fg):R2:=fun x y H Q=>∃a b xs ys,x=.ref a/\y=.ref b/\SqT K H a xs/\SqT K H b ys/\xs.length+ys.length<=E1/\
 (xs=[]->Q (.ref b) H)/\(xs≠[]->ys=[]->Q (.ref a) H)/\(xs≠[]->ys≠[]->∀p,H p=none->Q (.ref p) (upd H p (.tup (xs++ys))))
theorem uu:OpR X (Ie .Add) (vn X.K):=by
 intro pins s σ H x y v u Q I rx ry h;obtain⟨a,b,xs,ys,rfl,rfl,ha,hb,hz,q0,q1,q2⟩:=h;by_cases hx:xs=[]
 ·cases rx
  cases ry;obtain⟨its,r1,p1,_⟩:=I.tuple ha;obtain⟨its2,r2,p2,_⟩:=I.tuple hb;obtain⟨⟨cls,dd,data,sl⟩,ho,hc,n,hd⟩:=id p1;obtain⟨⟨cls2,dd2,data2,sl2⟩,ho2,hc2,n2,hd2⟩:=id p2;simp only at hc hd hc2 hd2;subst hc hd hc2 hd2;have e:its=[]:=r1.nil_iff.mpr hx;exact Nz ⟨_,ho,rfl⟩ ⟨_,ho2,rfl⟩ LH M8 J0 JM (Jz _ _)
   (tuple_addW0 a b its.toArray its2.toArray n n2 dd dd2 sl sl2 (by simp[e])) ⟨ho,ho2,⟨.ref b,H,I,rfl,q0 hx⟩⟩
 ·exact Bt pins s σ H _ _ v u Q I rx ry ⟨a,b,xs,ys,rfl,rfl,ha,hb,hx,hz,q1 hx,q2 hx⟩
theorem pS{x:V}:∀{xs:List V} {us:List Value},aA xs us->xs.all fh=true->us.countP (eqU x)=xs.countP fun y=>eqV y x
 |_,_,.nil,_=>rfl
 |y::xs,u::us,.cons r t,f=>by
  rw[Jg,Gr]at f;rw[Ou,Ou,w6 r f.1,pS t f.2]
noncomputable def tBT(r:V->List V->Hp->VK->Prop)(to:TE)(t:TA):TE:=fun σ H Q=>to σ H fun x H1=>(∃a xs,x=.ref a/\H1 a=some (.tup xs))/\t σ H1 fun xs H2=>r x xs H2 Q
theorem AM{o e:Expr}{es:List Expr}{to:TE}{t:TA}{name:Str}{apos cpos:Pos}{id:String}{r:V->List V->Hp->VK->Prop}(pa:PlainAttrs "tuple")(slot:Slot "tuple" name id)(hty:typeOf (.builtin id)=pure (.type "method_descriptor"))(hm:MtR X id r)(ho:PE X o to)(ha:PA X (e::es) t)
  (hbase:Lk o name X.env (eval o X.env)=eval o X.env:=by rfl)
  (hfew:((backTo cpos (Fc (e::es) X.env)).all (fun x=>!x.1)&&(LF cpos (JZ [] X.env)).all (fun x=>x.1.isSome)
   &&decide ((e::es).length+([]:List Keyword).length+(if([]:List Keyword).isEmpty then 0 else 1)<30))=true:=by rfl)
  (hline:(apos.endLine==cpos.line)=true:=by rfl) (hs:Fc (e::es) X.env=(false,eval e X.env)::Fc es X.env:=by rfl) (hplain:(backTo cpos (Fc es X.env)).any (·.1)=false:=by rfl):
  PE X (.Call (.Attribute o name apos) (e::es) [] cpos) (tBT r to t):=by
 intro pins s σ H Q I h;refine J1 hbase hfew hline rfl (thn (ho pins s σ H _ I h) fun v s1 ⟨x,H1,I1,r1,ty,q1⟩=>?_);obtain⟨a,xs,rfl,hx⟩:=ty;cases r1;obtain⟨_,its,_,o',ho',hc',_,hd'⟩:=I1.hok a _ hx;refine⟨"tuple",id,pa,slot,hty,⟨o',ho',hc'⟩,fun b e=>?_,?_⟩
 ·cases e
  exact⟨o',ho',hd'⟩
 have hA:=ha cpos pins s1 σ H1 _ I1 q1;rw[hs]at hA ⊢;refine J2 (by show(false||(backTo cpos (Fc es X.env)).any (·.1))=false;rw[hplain]<;>rfl) (IY ?_);exact thn hA fun us s2 ⟨vs,H2,I2,r2,q2⟩=>hm pins s2 σ H2 (.ref a) vs (.ref a) us Q I2 rfl r2 q2
noncomputable def oR:V->List V->Hp->VK->Prop:=fun x vs H Q=>∃l xs y,x=.ref l/\vs=[y]/\H l=some (.tup xs)/\fh y=true/\xs.all fh=true/\Q (.int (xs.countP fun z=>eqV z y:Nat)) H
theorem pT:MtR X "tuple.count" oR:=by
 intro pins s σ H x vs v us Q I rx rv h;obtain⟨l,xs,y,rfl,rfl,hH,fy,fx,q⟩:=h;cases rx;obtain⟨u,rfl,ru⟩:=rv.one;obtain⟨_,its,r,⟨cls,dd,data,sl⟩,ho,hc,⟨n,hd⟩,hdd⟩:=I.hok l _ hH;simp only at hc hd hdd;subst hc hd hdd;refine Km JD ⟨_,ho,rfl⟩ PySem.F.entry_tuple_count (PySem.F.args_tuple_count_2 _ _) (SeqAt.tuple_countAt l its.toArray n none sl u (eqU y)) ⟨ho,fun z hz=>rk ru fy r fx z (by simpa using hz),?_⟩;refine⟨.int (xs.countP fun z=>eqV z y:Nat),H,I.tok _,⟨s.toks,?_⟩,q⟩;show HE ((its.toArray.toList.countP (eqU y):Nat):Int) s.toks=_;rw[show its.toArray.toList=its from rfl,pS r fx]
end
end
end L2
section
namespace L2
open PySem
section
variable{σ:St}{H:Hp}{Q:VK}{D:ij}{K:Fg}
theorem bx{t u:TS}(h:t { nx:=u D,rt:=D.rt,bk:=D.bk,ct:=D.ct } σ H):ax t u D σ H:=h
theorem fO{t u:TS}(h:∀NX:St->Hp->Prop,(∀σ H,u D σ H->NX σ H)->t { nx:=NX,rt:=D.rt,bk:=D.bk,ct:=D.ct } σ H):ax t u D σ H:=h _ fun _ _ h=>h
theorem xo(h:D.nx σ H):bH D σ H:=h
theorem DE{te:TE}{g:TG}(h:te σ H fun x H1=>g x σ H1 D.nx):aF te g D σ H:=h
theorem DF{te:TE}(h:te σ H D.rt):bj te D σ H:=h
theorem CK{te:TE}(h:te σ H fun _ H1=>D.nx σ H1):gT te D σ H:=h
theorem AN{c:TT}{t u:TS}(h:c σ H fun b H1=>if b=true then t D σ H1 else u D σ H1):ck c t u D σ H:=h
theorem CL{i:Nat}{v:V}{R:St->Hp->Prop}(h:R (σ.set i (some v)) H):aj i v σ H R:=h
theorem CM{to ti:TE}{t:rc}{v:V}{R:St->Hp->Prop}(h:to σ H fun o H1=>ti σ H1 fun i H2=>t o i v H2 fun H3=>R σ H3):uW to ti t v σ H R:=h
theorem DG{i:Nat}{v:V}(e:σ[i]?=some (some v))(h:Q v H):ae i σ H Q:=⟨v,e,h⟩
theorem r_c{v:V}(h:Q v H):tC v σ H Q:=h
theorem Eh{r:R2}{ta tb:TE}(h:ta σ H fun x H1=>tb σ H1 fun y H2=>r x y H2 Q):tOp r ta tb σ H Q:=h
theorem Ei{g:Int->Int->V}{i j:Int}(h:Q (g i j) H):rI0 g (.int i) (.int j) H Q:=⟨i,j,rfl,rfl,h⟩
theorem r_I{C:Int->Int->Prop}{g:Int->Int->V}{i j:Int}(c:C i j)(h:Q (g i j) H):rI C g (.int i) (.int j) H Q:=⟨i,j,rfl,rfl,c,h⟩
theorem DH{i j:Int}(h:Q (.bl (decide (i=j))) H):rEq (.int i) (.int j) H Q:=⟨rfl,by rw[show decide (V.int i=V.int j)=decide (i=j)from decide_eq_decide.mpr ⟨fun e=>by injection e,fun e=>by rw[e]⟩];exact h⟩
theorem DI{i j:Int}(h:Q (.bl (!decide (i=j))) H):rNe (.int i) (.int j) H Q:=⟨rfl,by rw[show decide (V.int i=V.int j)=decide (i=j)from decide_eq_decide.mpr ⟨fun e=>by injection e,fun e=>by rw[e]⟩];exact h⟩
theorem CN{t:TE}{R:Bool->Hp->Prop}(h:t σ H fun x H'=>∃k,x=.bl k/\R k H'):bA t σ H R:=h
theorem Ej{t:TE}{R:Bool->Hp->Prop}(h:t σ H fun x H'=>∃k,x=.bl k/\R k H'):tB t σ H R:=h
theorem Ek{b:Bool}{R:Bool->Prop}(h:R b):∃k,V.bl b=.bl k/\R k:=⟨b,rfl,h⟩
theorem DJ{t u:TT}{R:Bool->Hp->Prop}(h:t σ H fun c H1=>if c=true then u σ H1 R else R false H1):qY t u σ H R:=h
theorem El{t u:TT}{R:Bool->Hp->Prop}(h:t σ H fun c H1=>if c=true then R true H1 else u σ H1 R):tOr t u σ H R:=h
theorem DK{t:TT}{R:Bool->Hp->Prop}(h:t σ H fun c H1=>R (!c) H1):gF t σ H R:=h
theorem CO{ta tb:TE}(h:ta σ H fun x H1=>∃c,x=.bl c/\if c=true then tb σ H1 Q else Q (.bl false) H1):j3 ta tb σ H Q:=h
theorem CP{ta:TE}(h:ta σ H fun x H1=>∃c,x=.bl c/\Q (.bl (!c)) H1):qI ta σ H Q:=h
theorem Em{t:TT}{ta tb:TE}(h:t σ H fun c H1=>if c=true then ta σ H1 Q else tb σ H1 Q):tIf t ta tb σ H Q:=h
theorem AO{R:List V->Hp->Prop}(h:R [] H):ah σ H R:=h
theorem xq{ta:TE}{tr:TA}{R:List V->Hp->Prop}(h:ta σ H fun x H1=>tr σ H1 fun xs H2=>R (x::xs) H2):aa ta tr σ H R:=h
theorem CQ{sp:Sp}{E:XK}{t:TA}(h:t σ H fun vs H1=>sp vs H1 Q E):aJ sp [] E t σ H Q:=by
 show t σ H fun vs H1=>sp (vs++[]) H1 Q E;simpa only[Gw]using h
theorem En{r:List V->Hp->VK->Prop}{t:TA}(h:t σ H fun vs H1=>r vs H1 Q):tCB r t σ H Q:=h
theorem Eo{T:String}{r:V->List V->Hp->VK->Prop}{to:TE}{t:TA}(h:to σ H fun x H1=>tyV K T x H1/\t σ H1 fun xs H2=>r x xs H2 Q):tBM K T r to t σ H Q:=h
theorem Ep{r:V->List V->Hp->VK->Prop}{to:TE}{t:TA}(h:to σ H fun x H1=>(∃a xs,x=.ref a/\H1 a=some (.tup xs))/\t σ H1 fun xs H2=>r x xs H2 Q):tBT r to t σ H Q:=h
theorem Er{r:V->Option Int->Option Int->Hp->VK->Prop}{te:TE}{tl th:TO}(h:te σ H fun x H1=>tl σ H1 fun l H2=>th σ H2 fun u H3=>r x l u H3 Q):tSl r te tl th σ H Q:=h
theorem y6{R:Option Int->Hp->Prop}(h:R none H):jK σ H R:=h
theorem CS{t:TE}{R:Option Int->Hp->Prop}(h:t σ H fun x H1=>∃i,x=.int i/\R (some i) H1):nq t σ H R:=h
theorem DL{i:Int}{R:Int->Prop}(h:R i):∃j,V.int i=.int j/\R j:=⟨i,rfl,h⟩
theorem DM{wi:TI}{g:TG}{tb:TS} (h:wi σ H fun J H1=>∃W:Nat->Nat->St->Hp->Prop,(∃m,W 0 m σ H1)/\∀i m σ H,W i m σ H->
  (J.stop i H/\D.nx σ H)\/(J.go i H/\∃N:St->Hp->Prop,(∀σ' H',N σ' H'->∃m',m'<m/\W (i+1) m' σ' H')/\∀x H',J.yld i H x H'->g x σ H' fun σ2 H2=>tb { D with nx:=N,ct:=N,bk:=D.nx } σ2 H2)):cp wi g tb D σ H:=h
theorem xr{wi:TI}{g:CF TG}{tt:CF TT}{te:CF TE}{ix:List (Option Nat)} (h:wi σ H fun J H1=>∀p,H1 p=none->
  ∃W:Nat->Nat->List V->Hp->Prop,(∃m,W 0 m [] (upd H1 p (.lst [])))/\∀C s' H' fp,bO J (g C s' H' fp) (tt C s' H' fp) (te C s' H' fp) (sub ix σ) p Q W):bL wi g tt te ix σ H Q:=h
section
variable{R:It->Hp->Prop}
theorem uv{tl:TE}(h:tl σ H fun x H1=>∃a,x=.ref a/\(∃xs,SqL K H1 a xs)/\R (Itl K a) H1):cJ K tl σ H R:=h
theorem CT{tl:TE}(h:tl σ H fun x H1=>∃a,x=.ref a/\(∃xs,SqT K H1 a xs)/\R (Itt K a) H1):yJ K tl σ H R:=h
theorem BA{ta:TA}(h:ta σ H fun vs H1=>∃j:Int,vs=[.int j]/\-(2^62)<=j/\j<2^62/\R (Itr 0 j.toNat) H1):cv ta σ H R:=h
theorem BB{ta:TA}(h:ta σ H fun vs H1=>∃i j:Int,vs=[.int i,.int j]/\(-(2^62)<=i/\i<2^62/\-(2^62)<=j/\j<2^62)/\R (Itr i (j-i).toNat) H1):u8 ta σ H R:=h
theorem BC{S:Src}{ta:TA}(h:ta σ H fun vs H1=>∃a xs,vs=[.ref a]/\S.Sq K H1 a xs/\R (Ite S K a) H1):gU S K ta σ H R:=h
theorem CU{S1 S2:Src}{ta:TA}(h:ta σ H fun vs H1=>∃a b xs ys,vs=[.ref a,.ref b]/\S1.Sq K H1 a xs/\S2.Sq K H1 b ys/\R (Itz S1 S2 K a b) H1):vm S1 S2 K ta σ H R:=h
end
noncomputable def Off(l:Addr)(H H':Hp):Prop:=∀b,b≠l->H' b=H b
theorem iJ{l:Addr}{o:HO}:Off l H (upd H l o):=fun b hb=>aQ hb
theorem ak.off{H0 H':Hp}{l:Addr}(s:ak H0 H)(h:H0 l=none)(o:Off l H H'):ak H0 H':=fun b u q=>by rw[o b (aT q h)];exact s b u q
noncomputable def eO(H H':Hp):Prop:=∀b xs,H b=some (.tup xs)->H' b=some (.tup xs)
theorem eO.refl(H:Hp):eO H H:=fun _ _ h=>h
theorem ak.keep{H':Hp}(s:ak H H'):eO H H':=fun b _ h=>s b _ h
theorem eO.trans{H1 H2:Hp}(a:eO H H1)(b:eO H1 H2):eO H H2:=fun c o h=>b c o (a c o h)
theorem Off.keep{H':Hp}{l:Addr}{xs:List V}(o:Off l H H')(e:H l=some (.lst xs)):eO H H':=fun b ys q=>by
 rw[o b (qH q e (by intro z;cases z))];exact q
theorem y7{l:Addr}{xs:List V}{y:V}(e:H l=some (.lst xs))(hz:xs.length<E1)(h:∀H',Off l H H'->H' l=some (.lst (xs++[y]))->Q .non H'):lr (.ref l) [y] H Q:=⟨l,xs,y,rfl,rfl,e,hz,h _ iJ ay⟩
theorem nC{l:Addr}{xs:List V}(e:H l=some (.lst xs)):tyV K "list" (.ref l) H:=.inl ⟨rfl,xs,SqL.of e⟩
theorem aL{l:Addr}{xs:List V}{i:Int}{v:V}(e:SqL K H l xs)(hv:atI xs i=some v)(h:Q v H):aU K (.ref l) (.int i) H Q:=⟨l,xs,i,v,rfl,rfl,e,hv,h⟩
theorem lB{l:Addr}{xs:List V}{i:Int}{v:V}(e:SqT K H l xs)(hv:atI xs i=some v)(h:Q v H):kT K (.ref l) (.int i) H Q:=⟨l,xs,i,v,rfl,rfl,e,hv,h⟩
end
theorem cO{p A B:Prop}[Decidable p](h1:p->A)(h2:¬p->B):if decide p=true then A else B:=by
 by_cases h:p
 ·rw[if_pos (decide_eq_true h)];exact h1 h
 ·rw[if_neg (by rw[decide_eq_false h];exact EU)];exact h2 h
theorem mI{p A B:Prop}[Decidable p](h1:¬p->A)(h2:p->B):if(!decide p)=true then A else B:=by
 by_cases h:p
 ·rw[if_neg (by rw[decide_eq_true h];exact EU)];exact h2 h
 ·rw[if_pos (by rw[decide_eq_false h];rfl)];exact h1 h
theorem DN{A B:Prop}(h:B):if(!true)=true then A else B:=by exact mG h
theorem DO{A B:Prop}(h:A):if(!false)=true then A else B:=by exact mH h
theorem y8{σ:St}{H:Hp}{R:Bool->Hp->Prop}(h:R true H):bB σ H R:=h
noncomputable def cD(K:Fg):List V->Hp->VK->Prop:=fun xs H Q=>∃p ys,xs=[.ref p]/\(SqL K H p ys\/SqT K H p ys)/\Q (.int ys.length) H
noncomputable def vo(K:Fg):List V->Hp->VK->Prop:=fun xs H Q=>∃(p:Addr)(ns:List Int),xs=[.ref p]/\SqL K H p (ns.map V.int)/\Q (.int ns.sum) H
noncomputable def CV(K:Fg):List V->Hp->VK->Prop:=fun xs H Q=>∃(p:Addr)(bs:List Bool),xs=[.ref p]/\SqL K H p (bs.map V.bl)/\Q (.bl (bs.all id)) H
noncomputable def AQ:List V->Hp->VK->Prop:=fun xs H Q=>∃i j,xs=[.int i,.int j]/\Q (.int (if j>i then j else i)) H
noncomputable def CW(K:Fg):List V->Hp->VK->Prop:=fun xs H Q=>∃p ys,xs=[.ref p]/\((SqL K H p ys/\∀l,H l=none->Q (.ref l) (upd H l (.tup ys)))\/(SqT K H p ys/\Q (.ref p) H))
section
variable{K:Fg}{H:Hp}{Q:VK}
theorem lD{l:Addr}{ys:List V}(e:SqL K H l ys)(h:Q (.int ys.length) H):cD K [.ref l] H Q:=⟨l,ys,rfl,.inl e,h⟩
theorem uw{l:Addr}{ys:List V}(e:SqT K H l ys)(h:Q (.int ys.length) H):cD K [.ref l] H Q:=⟨l,ys,rfl,.inr e,h⟩
theorem DP{l:Addr}{ns:List Int}(e:SqL K H l (ns.map V.int))(h:Q (.int ns.sum) H):vo K [.ref l] H Q:=⟨l,ns,rfl,e,h⟩
theorem CY{i j:Int}(h:Q (.int (if j>i then j else i)) H):AQ [.int i,.int j] H Q:=⟨i,j,rfl,h⟩
end
noncomputable def New(H:Hp)(o:HO)(Q:Addr->Hp->Prop):Prop:=∀p H',H p=none->ak H H'->H' p=some o->Q p H'
theorem New.upd{H:Hp}{o:HO}{Q:Addr->Hp->Prop}(h:New H o Q):∀p,H p=none->Q p (upd H p o):=fun p hp=>h p _ hp (aH hp _) ay
noncomputable def bq(t:TA):TE:=fun σ H Q=>t σ H fun xs H1=>xs.length<=E1/\New H1 (.tup xs) fun p H2=>Q (.ref p) H2
noncomputable def bg(t:TA):TE:=fun σ H Q=>t σ H fun xs H1=>xs.length<=E1/\New H1 (.lst xs) fun p H2=>Q (.ref p) H2
noncomputable def oS:R2:=fun x y H Q=>∃l b xs zs,x=.ref l/\y=.ref b/\H l=some (.lst xs)/\H b=some (.lst zs)/\xs.length+zs.length<=E1/\New H (.lst (xs++zs)) fun p H2=>Q (.ref p) H2
noncomputable def nD(K:Fg):List V->Hp->VK->Prop:=fun xs H Q=>∃p ys,xs=[.ref p]/\(SqL K H p ys\/SqT K H p ys)/\New H (.lst ys) fun l H2=>Q (.ref l) H2
noncomputable def oT(K:Fg):List V->Hp->VK->Prop:=fun xs H Q=>∃p ys,xs=[.ref p]/\SqL K H p ys/\New H (.tup ys) fun l H2=>Q (.ref l) H2
noncomputable def vp(K:Fg):V->Option Int->Option Int->Hp->VK->Prop:=fun x lo hi H Q=>∃a xs,x=.ref a/\SqL K H a xs/\New H (.lst (eN xs lo hi)) fun p H2=>Q (.ref p) H2
noncomputable def lE(K:Fg):R2:=fun x y H Q=>∃a b xs ys,x=.ref a/\y=.ref b/\H a=some (.tup xs)/\H b=some (.tup ys)/\xs.length+ys.length<=E1/\∀p H',ak H H'->H' p=some (.tup (xs++ys))->Q (.ref p) H'
theorem BD{K:Fg}{x y:V}{H:Hp}{Q:VK}(h:lE K x y H Q):vn K x y H Q:=by
 obtain⟨a,b,xs,ys,rfl,rfl,ha,hb,hz,q⟩:=h;refine⟨a,b,xs,ys,rfl,rfl,SqT.of ha,SqT.of hb,hz,fun e=>?_,fun _ e=>?_,fun _ _ p hp=>q p _ (aH hp _) ay⟩
 ·exact q b H (ak.refl H) (by rw[hb,e];rfl)
 ·exact q a H (ak.refl H) (by rw[ha,e,Gw])
section
variable{σ:St}{H:Hp}{Q:VK}{K:Fg}
theorem DQ{t:TA}(h:t σ H fun xs H1=>xs.length<=E1/\New H1 (.tup xs) fun p H2=>Q (.ref p) H2):bq t σ H Q:=h
theorem DR{t:TA}(h:t σ H fun xs H1=>xs.length<=E1/\New H1 (.lst xs) fun p H2=>Q (.ref p) H2):bg t σ H Q:=h
theorem qK{l b:Addr}{xs zs:List V}(h1:H l=some (.lst xs))(h2:H b=some (.lst zs))(hz:xs.length+zs.length<=E1)(h:∀p H',H p=none->ak H H'->H' p=some (.lst (xs++zs))->Q (.ref p) H'):oS (.ref l) (.ref b) H Q:=⟨l,b,xs,zs,rfl,rfl,h1,h2,hz,h⟩
theorem xt{p:Addr}{ys:List V}(e:SqL K H p ys)(h:∀l H',H l=none->ak H H'->H' l=some (.lst ys)->Q (.ref l) H'):nD K [.ref p] H Q:=⟨p,ys,rfl,.inl e,h⟩
theorem BE{p:Addr}{ys:List V}(e:SqL K H p ys)(h:∀l H',H l=none->ak H H'->H' l=some (.tup ys)->Q (.ref l) H'):oT K [.ref p] H Q:=⟨p,ys,rfl,e,h⟩
theorem AR{a:Addr}{xs:List V}{lo hi:Option Int}(e:SqL K H a xs)(h:∀p H',H p=none->ak H H'->H' p=some (.lst (eN xs lo hi))->Q (.ref p) H'):vp K (.ref a) lo hi H Q:=⟨a,xs,rfl,e,h⟩
theorem xu{a b:Addr}{xs ys:List V}(h1:H a=some (.tup xs))(h2:H b=some (.tup ys))(hz:xs.length+ys.length<=E1)(h:∀p H',ak H H'->H' p=some (.tup (xs++ys))->Q (.ref p) H'):lE K (.ref a) (.ref b) H Q:=⟨a,b,xs,ys,rfl,rfl,h1,h2,hz,h⟩
end
section
variable{g:TG}{tb:TS}{NX:St->Hp->Prop}{RT:VK}{σ:St}{H:Hp}{K:Fg}
theorem d5{j:Int}(n:Nat)(hn:j.toNat=n)(hj:j<=1000000000)(hj0:-1000000000<=j)(Pv:Nat->St->Hp->Prop)(h0:Pv 0 σ H)(hs:∀i σ H,i<n->Pv i σ H->g (.int i) σ H fun σ2 H2=>tb { nx:=Pv (i+1),rt:=RT,bk:=NX,ct:=Pv (i+1) } σ2 H2)(hd:∀σ H,Pv n σ H->NX σ H):
  ∃j':Int,[V.int j]=[.int j']/\-(2^62)<=j'/\j'<2^62/\∃W:Nat->Nat->St->Hp->Prop,(∃m,W 0 m σ H)/\∀i m σ H,W i m σ H->
   ((Itr 0 j'.toNat).stop i H/\NX σ H)\/((Itr 0 j'.toNat).go i H/\∃N:St->Hp->Prop,(∀σ' H',N σ' H'->∃m',m'<m/\W (i+1) m' σ' H')/\∀x H',(Itr 0 j'.toNat).yld i H x H'->g x σ H' fun σ2 H2=>tb { nx:=N,rt:=RT,bk:=NX,ct:=N } σ2 H2):=by
 refine⟨j,rfl,by omega,by omega,?_⟩;subst hn;exact kQ (lo:=0) (D:={ nx:=NX,rt:=RT }) Pv h0 (fun i σ H hi p=>by rw[NC];exact hs i σ H hi p) hd
theorem oU{a:Addr}(xs:List V)(hx:SqL K H a xs)(Pv:Nat->St->Hp->Prop)(h0:Pv 0 σ H)(hl:∀i σ H,i<=xs.length->Pv i σ H->SqL K H a xs)(hs:∀i x σ H,xs[i]?=some x->Pv i σ H->g x σ H fun σ2 H2=>tb { nx:=Pv (i+1),rt:=RT,bk:=NX,ct:=Pv (i+1) } σ2 H2)(hd:∀σ H,Pv xs.length σ H->NX σ H):
  ∃a',V.ref a=.ref a'/\(∃xs,SqL K H a' xs)/\∃W:Nat->Nat->St->Hp->Prop,(∃m,W 0 m σ H)/\∀i m σ H,W i m σ H->
   ((Itl K a').stop i H/\NX σ H)\/((Itl K a').go i H/\∃N:St->Hp->Prop,(∀σ' H',N σ' H'->∃m',m'<m/\W (i+1) m' σ' H')/\∀x H',(Itl K a').yld i H x H'->g x σ H' fun σ2 H2=>tb { nx:=N,rt:=RT,bk:=NX,ct:=N } σ2 H2):=
 ⟨a,rfl,⟨xs,hx⟩,mD (D:={ nx:=NX,rt:=RT }) Pv h0 hl hs hd⟩
theorem CZ{a:Addr}(xs:List V)(hx:SqT K H a xs)(Pv:Nat->St->Hp->Prop)(h0:Pv 0 σ H)(hl:∀i σ H,i<=xs.length->Pv i σ H->SqT K H a xs)(hs:∀i x σ H,xs[i]?=some x->Pv i σ H->g x σ H fun σ2 H2=>tb { nx:=Pv (i+1),rt:=RT,bk:=NX,ct:=Pv (i+1) } σ2 H2)(hd:∀σ H,Pv xs.length σ H->NX σ H):
  ∃a',V.ref a=.ref a'/\(∃xs,SqT K H a' xs)/\∃W:Nat->Nat->St->Hp->Prop,(∃m,W 0 m σ H)/\∀i m σ H,W i m σ H->
   ((Itt K a').stop i H/\NX σ H)\/((Itt K a').go i H/\∃N:St->Hp->Prop,(∀σ' H',N σ' H'->∃m',m'<m/\W (i+1) m' σ' H')/\∀x H',(Itt K a').yld i H x H'->g x σ H' fun σ2 H2=>tb { nx:=N,rt:=RT,bk:=NX,ct:=N } σ2 H2):=
 ⟨a,rfl,⟨xs,hx⟩,Bp (D:={ nx:=NX,rt:=RT }) Pv h0 hl hs hd⟩
theorem jO{S:Src}{a:Addr}(xs:List V)(hx:S.Sq K H a xs)(Pv:Nat->St->Hp->Prop)(h0:Pv 0 σ H)(hl:∀i σ H,i<=xs.length->Pv i σ H->S.Sq K H a xs)
  (hs:∀i x T σ H H',xs[i]?=some x->Pv i σ H->H T=none->ak H H'->H' T=some (.tup [.int i,x])->g (.ref T) σ H' fun σ2 H2=>tb { nx:=Pv (i+1),rt:=RT,bk:=NX,ct:=Pv (i+1) } σ2 H2) (hd:∀σ H,Pv xs.length σ H->NX σ H):
  ∃a' xs',[V.ref a]=[.ref a']/\S.Sq K H a' xs'/\∃W:Nat->Nat->St->Hp->Prop,(∃m,W 0 m σ H)/\∀i m σ H,W i m σ H->
   ((Ite S K a').stop i H/\NX σ H)\/((Ite S K a').go i H/\∃N:St->Hp->Prop,(∀σ' H',N σ' H'->∃m',m'<m/\W (i+1) m' σ' H')/\∀x H',(Ite S K a').yld i H x H'->g x σ H' fun σ2 H2=>tb { nx:=N,rt:=RT,bk:=NX,ct:=N } σ2 H2):=
 ⟨a,xs,rfl,hx,rD (D:={ nx:=NX,rt:=RT }) Pv h0 hl (fun i x T σ H e p hT=>hs i x T σ H _ e p hT (aH hT _) ay) hd⟩
end
theorem at2(x y:V)(k:Int):atI [x,y] (k%2)=some (if k%2=0 then x else y):=by
 have h:k%2=0\/k%2=1:=by omega
 rcases h with h|h<;>rw[h]<;>rfl
theorem dE{K:Fg}{i j:Nat}{a:Addr}{x y:V}{σ:St}{H:Hp}{R:St->Hp->Prop}(e:SqT K H a [x,y])(h:R ((σ.set i (some x)).set j (some y)) H):dP K 2 (be (aj i) (be (aj j) dO)) (.ref a) σ H R:=
 ⟨a,[x,y],rfl,e,rfl,x,[y],rfl,y,[],rfl,rfl,h⟩
noncomputable def aW(H:Hp)(p:Addr)(R:Nat->List V->Hp->Prop)(i:Nat)(acc:List V)(H2:Hp):Prop:=ak H H2/\H2 p=some (.lst acc)/\acc.length<=i/\R i acc H2
theorem aW.put{H H4:Hp}{p:Addr}{R:Nat->List V->Hp->Prop}{i:Nat}{acc:List V}{y:V}(hp:H p=none)(st:∀i acc H H',R i acc H->eO H H'->R i acc H')(s:ak H H4)(e:H4 p=some (.lst acc))(l:acc.length<=i)(r:R (i+1) (acc++[y]) H4):
  H4 p=some (.lst acc)/\aW H p R (i+1) (acc++[y]) (upd H4 p (.lst (acc++[y]))):=
 ⟨e,s.upd hp _,ay,by rw[EX];exact Ko l 1,st _ _ _ _ r (iJ.keep e)⟩
theorem aW.skip{H H4:Hp}{p:Addr}{R:Nat->List V->Hp->Prop}{i:Nat}{acc:List V}(s:ak H H4)(e:H4 p=some (.lst acc))(l:acc.length<=i)(r:R (i+1) acc H4):aW H p R (i+1) acc H4:=⟨s,e,by omega,r⟩
section
variable{g:CF TG}{tt:CF TT}{te:CF TE}{σ₀:St}{Q:VK}{H:Hp}{K:Fg}
theorem gI{j:Int}(n:Nat)(hn:j.toNat=n)(hj:j<=1000000)(hj0:-1000000<=j)(R:Nat->List V->Hp->Prop)(h0:∀H',ak H H'->R 0 [] H')
  (hs:∀p,H p=none->∀C s' H' fp,∀i acc H2,i<n->aW H p R i acc H2->g C s' H' fp (.int i) σ₀ H2 fun σ2 H3=>tt C s' H' fp σ2 H3 fun b H4=>if b=true then te C s' H' fp σ2 H4 fun y H5=>H5 p=some (.lst acc)/\aW H p R (i+1) (acc++[y]) (upd H5 p (.lst (acc++[y])))else aW H p R (i+1) acc H4)
  (hd:∀p acc H2,H p=none->ak H H2->H2 p=some (.lst acc)->R n acc H2->Q (.ref p) H2):
  ∃j':Int,[V.int j]=[.int j']/\-(2^62)<=j'/\j'<2^62/\∀p,H p=none->∃W:Nat->Nat->List V->Hp->Prop,(∃m,W 0 m [] (upd H p (.lst [])))/\∀C s' H' fp,bO (Itr 0 j'.toNat) (g C s' H' fp) (tt C s' H' fp) (te C s' H' fp) σ₀ p Q W:=by
 refine⟨j,rfl,by omega,by omega,fun p hp=>?_⟩;subst hn;exact j9 (lo:=0) (aW H p R) ⟨aH hp _,ay,EM _,h0 _ (aH hp _)⟩ (fun i acc H2 _ c=>⟨c.2.1,c.2.2.1⟩) (by rw[EL];omega) (fun C s' H' fp i acc H2 hi c=>by rw[NC];exact hs p hp C s' H' fp i acc H2 hi c) fun acc H2 c=>hd p acc H2 hp c.1 c.2.1 c.2.2.2
theorem gJ{a:Addr}(xs:List V)(hx:SqL K H a xs)(hz:xs.length<=1000000)(R:Nat->List V->Hp->Prop)(h0:∀H',ak H H'->R 0 [] H')
  (hs:∀p,H p=none->∀C s' H' fp,∀i x acc H2,xs[i]?=some x->aW H p R i acc H2->g C s' H' fp x σ₀ H2 fun σ2 H3=>tt C s' H' fp σ2 H3 fun b H4=>if b=true then te C s' H' fp σ2 H4 fun y H5=>H5 p=some (.lst acc)/\aW H p R (i+1) (acc++[y]) (upd H5 p (.lst (acc++[y])))else aW H p R (i+1) acc H4)
  (hd:∀p acc H2,H p=none->ak H H2->H2 p=some (.lst acc)->R xs.length acc H2->Q (.ref p) H2):
  ∃a',V.ref a=.ref a'/\(∃xs,SqL K H a' xs)/\∀p,H p=none->∃W:Nat->Nat->List V->Hp->Prop,(∃m,W 0 m [] (upd H p (.lst [])))/\∀C s' H' fp,bO (Itl K a') (g C s' H' fp) (tt C s' H' fp) (te C s' H' fp) σ₀ p Q W:=
 ⟨a,rfl,⟨xs,hx⟩,fun p hp=>kY (aW H p R) ⟨aH hp _,ay,EM _,h0 _ (aH hp _)⟩ (fun i acc H2 _ c=>⟨c.2.1,c.2.2.1⟩) (fun i acc H2 _ c=>c.1.seq hx) (by rw[EL];omega) (fun C s' H' fp i x acc H2 hi c=>hs p hp C s' H' fp i x acc H2 hi c) fun acc H2 c=>hd p acc H2 hp c.1 c.2.1 c.2.2.2⟩
end
section
variable{g:TG}{tb:TS}{NX:St->Hp->Prop}{RT:VK}{σ:St}{H:Hp}{K:Fg}
theorem C0{S1 S2:Src}{a b:Addr}(xs ys:List V)(hx:S1.Sq K H a xs)(hy:S2.Sq K H b ys)(Pv:Nat->St->Hp->Prop)(h0:Pv 0 σ H)(hl:∀i σ H,Pv i σ H->S1.Sq K H a xs/\S2.Sq K H b ys)
  (hs:∀i x y T σ H H',xs[i]?=some x->ys[i]?=some y->Pv i σ H->H T=none->ak H H'->H' T=some (.tup [x,y])->g (.ref T) σ H' fun σ2 H2=>tb { nx:=Pv (i+1),rt:=RT,bk:=NX,ct:=Pv (i+1) } σ2 H2) (hd:∀σ H,Pv (min xs.length ys.length) σ H->NX σ H):
  ∃a' b' xs' ys',[V.ref a,V.ref b]=[.ref a',.ref b']/\S1.Sq K H a' xs'/\S2.Sq K H b' ys'/\∃W:Nat->Nat->St->Hp->Prop,(∃m,W 0 m σ H)/\∀i m σ H,W i m σ H->
   ((Itz S1 S2 K a' b').stop i H/\NX σ H)\/((Itz S1 S2 K a' b').go i H/\∃N:St->Hp->Prop,(∀σ' H',N σ' H'->∃m',m'<m/\W (i+1) m' σ' H')/\∀x H',(Itz S1 S2 K a' b').yld i H x H'->g x σ H' fun σ2 H2=>tb { nx:=N,rt:=RT,bk:=NX,ct:=N } σ2 H2):=by
 refine⟨a,b,xs,ys,rfl,hx,hy,xl (J:=Itz S1 S2 K a b) (n:=min xs.length ys.length) (D:={ nx:=NX,rt:=RT }) (Y:=fun i H x H1=>∃T u v,H T=none/\x=.ref T/\H1=upd H T (.tup [u,v])/\xs[i]?=some u/\ys[i]?=some v) Pv h0 (fun i σ H hi w=>?_) (fun σ H w=>?_) (fun i σ H x H1 hi w y=>?_) (fun i x σ H H1 hi w y=>?_) hd⟩
 ·obtain⟨q1,q2⟩:=hl i σ H w
  exact⟨xs,ys,xs[i],ys[i],q1,q2,by simp[show i<xs.length by omega],by simp[show i<ys.length by omega]⟩
 ·obtain⟨q1,q2⟩:=hl _ σ H w
  exact⟨xs,ys,q1,q2,rfl⟩
 ·obtain⟨T,u,v,e1,e2,e3,e4⟩:=y
  obtain⟨q1,q2⟩:=hl _ σ H w;obtain⟨e5,e6⟩:=e4 xs ys q1 q2;exact⟨T,u,v,e1,e2,e3,e5,e6⟩
 ·obtain⟨T,u,v,e1,rfl,rfl,e4,e5⟩:=y
  exact hs i u v T σ H _ e4 e5 w e1 (aH e1 _) ay
end
section
variable{K:Fg}{H:Hp}{Q:VK}{a b:Addr}{ns ms:List Int}
theorem DS(h1:SqT K H a (ns.map V.int))(h2:SqT K H b (ms.map V.int))(h:Q (.bl (!decide (ns=ms))) H):yX (SqT K) true (.ref a) (.ref b) H Q:=⟨a,b,_,_,_,rfl,rfl,h1,h2,xk ns ms,by rw[vk];exact h⟩
theorem qL{x:V}{T:String}{t:Value}{c:Bool}(ty:du K H x t)(e:Gk K t (.type T)=some c)(h:Q (.bl c) H):kc K [x,.ty T] H Q:=⟨x,T,t,c,rfl,ty,e,h⟩
end
section
variable{g:CF TG}{tt:CF TT}{te:CF TE}{σ₀:St}{Q:VK}{H:Hp}{K:Fg}
theorem C1{S1 S2:Src}{a b:Addr}(xs ys:List V)(hx:S1.Sq K H a xs)(hy:S2.Sq K H b ys)(kx:∀H',ak H H'->S1.Sq K H' a xs)(ky:∀H',ak H H'->S2.Sq K H' b ys)(hz:xs.length<=1000000)(R:Nat->List V->Hp->Prop)(h0:∀H',ak H H'->R 0 [] H')
  (hs:∀p,H p=none->∀C s' H' fp,∀i x y T acc H2 H3,xs[i]?=some x->ys[i]?=some y->aW H p R i acc H2->H2 T=none->ak H2 H3->H3 T=some (.tup [x,y])->H3 p=some (.lst acc)->g C s' H' fp (.ref T) σ₀ H3 fun σ2 H3=>tt C s' H' fp σ2 H3 fun b H4=>if b=true then te C s' H' fp σ2 H4 fun y H5=>H5 p=some (.lst acc)/\aW H p R (i+1) (acc++[y]) (upd H5 p (.lst (acc++[y])))else aW H p R (i+1) acc H4)
  (hd:∀p acc H2,H p=none->ak H H2->H2 p=some (.lst acc)->R (min xs.length ys.length) acc H2->Q (.ref p) H2):
  ∃a' b' xs' ys',[V.ref a,V.ref b]=[.ref a',.ref b']/\S1.Sq K H a' xs'/\S2.Sq K H b' ys'/\∀p,H p=none->∃W:Nat->Nat->List V->Hp->Prop,(∃m,W 0 m [] (upd H p (.lst [])))/\∀C s' H' fp,bO (Itz S1 S2 K a' b') (g C s' H' fp) (tt C s' H' fp) (te C s' H' fp) σ₀ p Q W:=by
 refine⟨a,b,xs,ys,rfl,hx,hy,fun p hp=>lx (n:=min xs.length ys.length) (Y:=fun i H x H1=>∃T u v,H T=none/\x=.ref T/\H1=upd H T (.tup [u,v])/\xs[i]?=some u/\ys[i]?=some v) (aW H p R)
  ⟨aH hp _,ay,EM _,h0 _ (aH hp _)⟩ (fun i acc H2 _ c=>⟨c.2.1,c.2.2.1⟩) (by rw[EL];omega) (fun i acc H2 hi c=>?_) (fun acc H2 c=>?_) (fun i acc H2 x H3 hi c y=>?_) (fun C s' H' fp i x acc H2 H3 hi c y=>?_) fun acc H2 c=>hd p acc H2 hp c.1 c.2.1 c.2.2.2⟩
 ·exact⟨xs,ys,xs[i],ys[i],kx _ c.1,ky _ c.1,by simp[show i<xs.length by omega],by simp[show i<ys.length by omega]⟩
 ·exact⟨xs,ys,kx _ c.1,ky _ c.1,rfl⟩
 ·obtain⟨T,u,v,e1,e2,e3,e4⟩:=y
  obtain⟨e5,e6⟩:=e4 xs ys (kx _ c.1) (ky _ c.1);exact⟨T,u,v,e1,e2,e3,e5,e6⟩
 ·obtain⟨T,u,v,e1,rfl,rfl,e4,e5⟩:=y
  exact hs p hp C s' H' fp i u v T acc H2 _ e4 e5 c e1 (aH e1 _) ay (by rw[aQ (aT c.2.1 e1)];exact c.2.1)
noncomputable def zb(K:Fg):V->Option Int->Option Int->Hp->VK->Prop:=fun x lo hi H Q=>∃a xs,x=.ref a/\SqT K H a xs/\¬(HT.sIx xs.length 0 lo=0/\HT.sIx xs.length xs.length hi=xs.length)/\New H (.tup (eN xs lo hi)) fun p H2=>Q (.ref p) H2
theorem DT{a:Addr}{xs:List V}{lo hi:Option Int}(e:SqT K H a xs)(hn:¬(HT.sIx xs.length 0 lo=0/\HT.sIx xs.length xs.length hi=xs.length))(h:∀p H',H p=none->ak H H'->H' p=some (.tup (eN xs lo hi))->Q (.ref p) H'):zb K (.ref a) lo hi H Q:=⟨a,xs,rfl,e,hn,h⟩
theorem zc(x:V)(xs:List V):eN (x::xs) (some 1) none=xs:=by
 unfold eN;have e:HT.sIx (x::xs).length 0 (some 1)=min 1 (x::xs).length:=rfl;rw[e,show min 1 (x::xs).length=1 by simp];show((x::xs).drop 1).take ((x::xs).length-1)=xs;rw[Hy (by simp)];rfl
theorem tP(x:V)(xs:List V):¬(HT.sIx (x::xs).length 0 (some 1)=0/\HT.sIx (x::xs).length (x::xs).length none=(x::xs).length):=fun h=>by
 have e:HT.sIx (x::xs).length 0 (some 1)=min 1 (x::xs).length:=rfl;rw[e,show min 1 (x::xs).length=1 by simp]at h;exact absurd h.1 (by decide)
end
section
variable{H:Hp}{Q:VK}{K:Fg}
theorem rG{l b:Addr}{xs zs:List V}(e:H l=some (.lst xs))(eb:H b=some (.lst zs))(hz:xs.length+zs.length<=E1)(h:∀H',Off l H H'->H' l=some (.lst (xs++zs))->Q .non H'):jM (.ref l) [.ref b] H Q:=⟨l,b,xs,zs,rfl,rfl,e,eb,hz,h _ iJ ay⟩
theorem zd{i j k:Nat}{a:Addr}{x y z:V}{σ:St}{R:St->Hp->Prop}(e:SqT K H a [x,y,z])(h:R (((σ.set i (some x)).set j (some y)).set k (some z)) H):dP K 3 (be (aj i) (be (aj j) (be (aj k) dO))) (.ref a) σ H R:=
 ⟨a,[x,y,z],rfl,e,rfl,x,[y,z],rfl,y,[z],rfl,z,[],rfl,rfl,h⟩
end
theorem nE(xs:List V)(z:Int){m:Nat}(hl:xs.length=m)(hm:0<m):∃x,atI xs (z%(m:Int))=some x/\x∈xs:=by
 have m1:=Hk z (b:=(m:Int)) (by omega);have m2:=GX z (b:=(m:Int)) (by omega);have hk:(z%(m:Int)).toNat<xs.length:=by omega
 refine⟨xs[(z%(m:Int)).toNat],?_,GK hk⟩;have e:z%(m:Int)=(((z%(m:Int)).toNat:Nat):Int):=by omega
 have q:atI xs (((z%(m:Int)).toNat:Nat):Int)=some xs[(z%(m:Int)).toNat]:=fK (EG hk);rw[<-e]at q;exact q
end L2
end
local macro_rules | `(tactic| walk_at "rb1")=>`(tactic| first
 | ((with_reducible refine' L2.DG (v:=?v) ?e ?h);(case e=>exact rfl))
 | (with_reducible first|refine L2.xo ?_|refine L2.DE ?_|refine L2.DF ?_|refine L2.CK ?_|refine L2.CL ?_|refine L2.CM ?_|refine L2.r_c ?_|refine L2.Eh ?_|refine L2.Ei ?_|refine L2.DH ?_|refine L2.DI ?_|refine L2.CN ?_|refine L2.Ej ?_|refine L2.Ek ?_|refine L2.DL ?_|refine L2.DJ ?_|refine L2.El ?_|refine L2.DK ?_|refine L2.CO ?_|refine L2.CP ?_|refine L2.Em ?_|refine L2.AO ?_|refine L2.xq ?_|refine L2.CQ ?_|refine L2.En ?_|refine L2.Eo ?_|refine L2.Ep ?_|refine L2.Er ?_|refine L2.y6 ?_|refine L2.CS ?_|refine L2.DM ?_|refine L2.xr ?_|refine L2.uv ?_|refine L2.CT ?_|refine L2.BA ?_|refine L2.BB ?_|refine L2.BC ?_|refine L2.CU ?_|refine L2.DQ ?_|refine L2.DR ?_|refine L2.CY ?_|refine L2.mH ?_|refine L2.mG ?_|refine L2.DN ?_|refine L2.DO ?_|refine L2.y8 ?_)
 | ((with_reducible refine L2.r_I ?_ ?_);(first| (show(0:Int)<_;omega)| (show(0:Int)<_;decide)|exact⟨by decide,by decide,by decide⟩|exact And.intro (by omega) (by omega)|exact(PySem.IntMulOk.of_right (Nq (by omega) (by omega)))|exact(PySem.IntMulOk.of_left (Nq (by omega) (by omega)))))
 | ((with_reducible refine' L2.lD (ys:=?y) ?e ?h);(case e=>first|assumption|exact L2.SqL.of (by assumption)))
 | ((with_reducible refine' L2.uw (ys:=?y) ?e ?h);(case e=>first|assumption|exact L2.SqT.of (by assumption)))
 |dsimp only[List.set_cons_zero,List.set_cons_succ,L2.sub,E6,HG,List.getElem?_cons_zero,JN])
local macro_rules | `(tactic| walk_at "rd")=>`(tactic| repeat (first | (with_reducible first | refine L2.bx ?_ | refine L2.AN ?_) | walk_at "rb1"))
local macro_rules | `(tactic| walk_at "rs")=>`(tactic| repeat (first | (with_reducible refine L2.AN ?_) | walk_at "rb1"))
local macro_rules | `(tactic| walk_at "ra")=>`(tactic| repeat (walk_at "rb1"))
local macro_rules | `(tactic| right) => `(tactic| walk_at "rd")
local macro_rules | `(tactic| nofun) => `(tactic| walk_at "rs")
namespace L2
open PySem PyProof.Rows
noncomputable abbrev IA:=Option Int
noncomputable abbrev IK:=Sum IA (List IA)
noncomputable abbrev MK:=Sum IA (List IK)
noncomputable def iaV:V->Option IA
 | .non=>some none
 | .bl b=>some (some (if b then 1 else 0))
 | .int i=>some (some i)
 |_=>none
noncomputable def iB(H:Hp)(x:V):IK->Prop
 | .inl a=>iaV x=some a
 | .inr as=>∃c ys,x=.ref c/\H c=some (.tup ys)/\ys.map iaV=as.map some
noncomputable def bw(H:Hp)(x:V):MK->Prop
 | .inl a=>iaV x=some a
 | .inr is=>∃c xs,x=.ref c/\H c=some (.tup xs)/\Paired (iB H) xs is
noncomputable def cZ:MK->Bool
 | .inl _=>false
 | .inr _=>true
theorem iB.keep{H H':Hp}{x:V}{k:IK}(h:iB H x k)(kp:eO H H'):iB H' x k:=by
 cases k with
 |inl a=>exact h
 |inr as=>obtain⟨c,ys,e,q,r⟩:=h;exact⟨c,ys,e,kp _ _ q,r⟩
theorem bw.keep{H H':Hp}{x:V}{k:MK}(h:bw H x k)(kp:eO H H'):bw H' x k:=by
 cases k with
 |inl a=>exact h
 |inr as=>obtain⟨c,xs,e,q,r⟩:=h;exact⟨c,xs,e,kp _ _ q,Paired.mapP r fun _ _ z=>iB.keep z kp⟩
theorem pU{H H':Hp}{xs:List V}{ks:List MK}(h:Paired (bw H) xs ks)(kp:eO H H'):Paired (bw H') xs ks:=Paired.mapP h fun _ _ z=>bw.keep z kp
theorem je{α β:Type}{F:α->β->Prop}:∀{xs:List α} {ys:List β} {i:Nat} {x:α},Paired F xs ys->xs[i]?=some x->∃y,ys[i]?=some y/\F x y
 |_,_,_,_,.nil,e=>by simp at e
 |_,_,0,_,.cons r _,e=>by simp at e;subst e;exact⟨_,rfl,r⟩
 |_,_,i+1,x,.cons _ t,e=>by
  obtain⟨u,h1,h2⟩:=je (i:=i) (x:=x) t (by simpa using e);exact⟨u,by simpa using h1,h2⟩
theorem nF(H:Hp):∀ns:List Int,Paired (iB H) (ns.map V.int) (ns.map fun n=>(G4 (some n):IK))
 | []=>.nil
 |n::r=>.cons rfl (nF H r)
theorem BF{H:Hp}{c:Addr}{ns:List Int}(e:H c=some (.tup (ns.map V.int))):bw H (.ref c) (.inr (ns.map fun n=>(G4 (some n):IK))):=⟨c,_,rfl,e,nF H ns⟩
theorem Off.keepD{H H':Hp}{l:Addr}(o:Off l H H')(h:∀xs,H l≠some (.tup xs)):eO H H':=fun b ys q=>by
 rw[o b (fun z=>by subst z;exact h _ q)];exact q
noncomputable def bz{α:Type}[DecidableEq α](ks:List α):List Nat:=ks.map fun k=>ks.idxOf k
theorem gK{α:Type}[DecidableEq α](ks:List α):(bz ks).length=ks.length:=EI _
theorem vq{α:Type}[DecidableEq α]{ks:List α}{i:Nat}{k:α}(h:k∈ks.take i):(ks.take i).idxOf k=ks.idxOf k:=by
 have:=NS (l₁:=ks.take i) (l₂:=ks.drop i) (a:=k);rw[FZ,if_pos h]at this;exact this.symm
theorem pV{α:Type}[DecidableEq α]{ks:List α}{i:Nat}{k:α}(hk:ks[i]?=some k)(h:k∉ks.take i):ks.idxOf k=i:=by
 obtain⟨hi,e⟩:=EK.mp hk;have e1:ks=ks.take i++(k::ks.drop (i+1)):=by
  rw[<-e,List.getElem_cons_drop,FZ]
 have:=NS (l₁:=ks.take i) (l₂:=k::ks.drop (i+1)) (a:=k);rw[<-e1,if_neg h,List.idxOf_cons_self,Fo]at this;omega
theorem jg{α:Type}{ks:List α}{i:Nat}{k:α}(hk:ks[i]?=some k):ks.take (i+1)=ks.take i++[k]:=by
 rw[HS,hk];rfl
theorem mf{α β:Type}[DecidableEq α][DecidableEq β]{f:α->β}(inj:∀a b,f a=f b->a=b)(ks:List α):bz (ks.map f)=bz ks:=by
 unfold bz;rw[G6];refine Hu fun k hk=>?_;show(ks.map f).idxOf (f k)=ks.idxOf k;clear hk
 induction ks with
 |nil=>rfl
 |cons a r ih=>
  rw[E6,OK,OK,ih];by_cases e:a=k
  ·rw[e,beq_self_eq_true,beq_self_eq_true]
  ·rw[beq_eq_false_iff_ne.mpr e,beq_eq_false_iff_ne.mpr (fun z=>e (inj _ _ z))]
theorem vt{α:Type}[DecidableEq α]{ks:List α}{i:Nat}{z:Nat}(h:(bz ks)[i]?=some z):∃k,ks[i]?=some k/\z=ks.idxOf k/\z<=i:=by
 unfold bz at h;rw[EO]at h;cases e:ks[i]? with
 |none=>rw[e]at h;cases h
 |some k=>
  rw[e]at h;refine⟨k,rfl,(Fd h).symm,?_⟩;rw[<-Fd h];show ks.idxOf k<=i;by_cases q:k∈ks.take i
  ·have:=K4 q
   rw[vq q,Fo]at this;omega
  ·rw[pV e q];exact EM _
section
open PySem.Spec
section
variable{κ:Type}[DecidableEq κ]
noncomputable def dQ(kvs:List (κ×V))(k:κ):Option V:=(kvs.find? fun kv=>decide (kv.1=k)).map (·.2)
noncomputable def kd(kvs:List (κ×V))(k:κ)(v:V):List (κ×V):=
 if(kvs.any fun kv=>decide (kv.1=k))=true then kvs.map (fun kv=>if kv.1=k then(kv.1,v)else kv)else kvs++[(k,v)]
noncomputable def vw(kvs:List (κ×V))(k:κ):List (κ×V):=kvs.filter fun kv=>decide (kv.1≠k)
theorem cV{p:κ×V}{r:List (κ×V)}{k:κ}(e:p.1=k):dQ (p::r) k=some p.2:=by simp[dQ,FO,e]
theorem cW{p:κ×V}{r:List (κ×V)}{k:κ}(e:¬p.1=k):dQ (p::r) k=dQ r k:=by simp[dQ,FO,e]
theorem mJ(k:κ):∀kvs:List (κ×V),(kvs.any fun kv=>decide (kv.1=k))=(dQ kvs k).isSome
 | []=>rfl
 |p::r=>by
  rw[Nb];by_cases e:p.1=k
  ·simp only[cV e,decide_eq_true e,Bool.true_or,Option.isSome_some]
  ·rw[cW e,decide_eq_false e,Bool.false_or];exact mJ k r
theorem rH(k j:κ)(y:V):∀kvs:List (κ×V),dQ (kvs.map fun kv=>if kv.1=k then(kv.1,y)else kv) j=(dQ kvs j).map fun x=>if j=k then y else x
 | []=>rfl
 |p::r=>by
  have ih:=rH k j y r;rw[E6];by_cases h:p.1=k
  ·rw[if_pos h]
   by_cases e:p.1=j
   ·rw[cV (p:=(p.1,y)) e,cV e,Kp,if_pos (e.symm.trans h)]
   ·rw[cW (p:=(p.1,y)) e,cW e,ih]
  ·rw[if_neg h]
   by_cases e:p.1=j
   ·rw[cV (p:=p) e,cV e,Kp,if_neg (fun z=>h (e.trans z))]
   ·rw[cW (p:=p) e,cW e,ih]
theorem pW(k j:κ)(y:V):∀kvs:List (κ×V),dQ kvs k=none->dQ (kvs++[(k,y)]) j=if j=k then some y else dQ kvs j
 | [],_=>by
  by_cases e:k=j
  ·rw[if_pos e.symm];exact cV (p:=(k,y)) e
  ·rw[if_neg (fun z=>e z.symm)];exact cW (p:=(k,y)) e
 |p::r,hn=>by
  rw[LN];have hk:¬p.1=k:=fun z=>by rw[cV z]at hn;cases hn
  rw[cW hk]at hn;have ih:=pW k j y r hn;by_cases e:p.1=j
  ·rw[cV e,cV e,if_neg (fun z=>hk (e.trans z))]
  ·rw[cW e,cW e,ih]
theorem ze(kvs:List (κ×V))(k j:κ)(y:V):dQ (kd kvs k y) j=if j=k then some y else dQ kvs j:=by
 unfold kd;by_cases a:(kvs.any fun kv=>decide (kv.1=k))=true
 ·rw[if_pos a,rH]
  rw[mJ]at a;by_cases e:j=k
  ·obtain⟨x,hx⟩:=LG.mp a
   rw[if_pos e,e,hx,Kp,if_pos rfl]
  ·rw[if_neg e]
   cases dQ kvs j with
   |none=>rfl
   |some x=>rw[Kp,if_neg e]
 ·rw[if_neg a]
  refine pW k j y kvs ?_;rw[mJ]at a;cases q:dQ kvs k with
  |none=>rfl
  |some x=>rw[q]at a;exact(a rfl).elim
theorem jB(kvs:List (κ×V))(k:κ)(v:V):(kd kvs k v).length<=kvs.length+1:=by
 unfold kd
 split
 ·rw[EI];omega
 ·rw[EX,Fu,Jr];omega
theorem gE.isSome_eq{o:Option V}{u:Option Value}(r:gE o u):o.isSome=u.isSome:=by
 cases o with
 |none=>cases u with
  |none=>rfl
  |some _=>exact(show False from r).elim
 |some _=>cases u with
  |none=>exact(show False from r).elim
  |some _=>rfl
theorem gE.getD{o:Option V}{u:Option Value}{d:V}{d':Value}(r:gE o u)(rd:aB d d'):aB (o.getD d) (u.getD d'):=by
 cases o with
 |none=>cases u with
  |none=>exact rd
  |some _=>exact(show False from r).elim
 |some _=>cases u with
  |none=>exact(show False from r).elim
  |some _=>exact r
theorem KV.val{kvs:List (κ×V)}{vs:List (κ×Value)}(r:KV kvs vs)(k:κ):gE (dQ kvs k) (valueAt vs k):=by
 unfold KV at r
 induction r with
 |nil=>exact HU
 | @cons p q ps qs h t ih=>
  obtain⟨h1,h2⟩:=h;by_cases e:p.1=k
  ·have e':q.1=k:=h1.symm.trans e
   have b:valueAt (q::qs) k=some q.2:=by simp[valueAt,FO,e']
   rw[cV e,b];exact h2
  ·have e':¬q.1=k:=fun z=>e (h1.trans z)
   have b:valueAt (q::qs) k=valueAt qs k:=by simp[valueAt,FO,e']
   rw[cW e,b];exact ih
theorem KV.any{kvs:List (κ×V)}{vs:List (κ×Value)}(r:KV kvs vs)(k:κ):(kvs.any fun kv=>decide (kv.1=k))=vs.any fun kv=>decide (kv.1=k):=by
 unfold KV at r
 induction r with
 |nil=>rfl
 |cons h t ih=>rw[Nb,Nb,ih,h.1]
theorem KV.repl{kvs:List (κ×V)}{vs:List (κ×Value)}(r:KV kvs vs)(k:κ){y:V}{u:Value}(ry:aB y u):
  KV (kvs.map fun kv=>if kv.1=k then(kv.1,y)else kv) (vs.map fun kv=>if kv.1=k then(kv.1,u)else kv):=by
 unfold KV at r ⊢
 induction r with
 |nil=>exact .nil
 | @cons p q ps qs h t ih=>
  rw[E6,E6];refine .cons ?_ ih;obtain⟨h1,h2⟩:=h;by_cases e:p.1=k
  ·rw[if_pos e,if_pos (h1.symm.trans e)];exact⟨h1,ry⟩
  ·rw[if_neg e,if_neg (fun z=>e (h1.trans z))];exact⟨h1,h2⟩
theorem KV.put{kvs:List (κ×V)}{vs:List (κ×Value)}(r:KV kvs vs)(k:κ){y:V}{u:Value}(ry:aB y u):KV (kd kvs k y) (stored vs k u):=by
 unfold kd stored;rw[r.any k];by_cases e:(vs.any fun kv=>decide (kv.1=k))=true
 ·rw[if_pos e,if_pos e];exact r.repl k ry
 ·rw[if_neg e,if_neg e];exact Paired.snoc r ⟨rfl,ry⟩
theorem KV.drop{kvs:List (κ×V)}{vs:List (κ×Value)}(r:KV kvs vs)(k:κ):KV (vw kvs k) (without vs k):=by
 unfold KV at r ⊢;unfold vw without
 induction r with
 |nil=>exact .nil
 | @cons p q ps qs h t ih=>
  obtain⟨h1,h2⟩:=h;rw[Ja,Ja];by_cases e:p.1=k
  ·have a:¬decide (p.1≠k)=true:=by simp[e]
   have b:¬decide (q.1≠k)=true:=by simp[h1.symm.trans e]
   rw[if_neg a,if_neg b];exact ih
  ·have e':¬q.1=k:=fun z=>e (h1.trans z)
   have a:decide (p.1≠k)=true:=by simp[e]
   have b:decide (q.1≠k)=true:=by simp[e']
   rw[if_pos a,if_pos b];exact .cons ⟨h1,h2⟩ ih
theorem KV.length{kvs:List (κ×V)}{vs:List (κ×Value)}(r:KV kvs vs):kvs.length=vs.length:=Im r
end
noncomputable abbrev KT(H:Hp):List (List Key×V)->List (List Key×Addr×Value)->Prop:=Paired fun p q=>p.1=q.1/\H q.2.1=some (.tup (p.1.map kV))/\aB p.2 q.2.2
theorem KT.keeps{H H':Hp}{kvs:List (List Key×V)}{xs:List (List Key×Addr×Value)}(r:KT H kvs xs)(ht:∀b ys,H b=some (.tup ys)->H' b=some (.tup ys)):KT H' kvs xs:=
 Paired.mapP r fun _ _ z=>⟨z.1,ht _ _ z.2.1,z.2.2⟩
section
variable{P:Program}{w:World}{H:Hp}{h:Heap}{a:Addr}
end
section
variable{X:Cx}{pins:List (Addr×Obj)}{σ:St}{H:Hp}{s:Shared}{a:Addr}{y v:V}{u r:Value}{o:Option V}{A:Around}{E:Value->Shared->Prop}
theorem Inv.big(I:Inv X pins σ H s):G8<s.heap.objs.size:=by
 have h:Fj<s.heap.objs.size:=(I.mod.glob.keeps I.bk).lt;exact Nat.lt_trans (by decide) h
theorem ux{h':Heap}{t':Nat}{ob:HO}(I:Inv X pins σ H s)(mu:Mut (H a))(hs:Fb a s.heap h')(he:∃q,h'.get? a=some q)(new:br X.prog X.w (upd H a ob) h' a ob):
  Inv X pins σ (upd H a ob) { s with heap:=h',toks:=t' }:=
 I.write (x:=a) (e:=a) mu (.inl rfl) (fun b q hb z=>(hs.2 b hb).trans z) he new
end
section
variable{X:Cx}{pins:List (Addr×Obj)}{σ:St}{H:Hp}{s:Shared}{a:Addr}{kvs:List (Key×V)}{k:Key}{u:Value}{A:Around}{E:Value->Shared->Prop}
end
noncomputable def C2(i:Expr):Prop:=∀ov iv,Mw i false ov iv=operate [ov,iv] (getItem ov iv)
theorem BG{prog:Program}{w:World}{A:Around}{E:Value->Shared->Prop}{s:Shared}{env:Env}{value slice:Expr}{pos:Pos}{T id:String}{Q:Value->Shared->Prop}
  (hl:MU (.type T) "__getitem__"=pure (some (.builtin id))) (hs:C2 slice)
  (h:wpAny (model prog w) A (eval value env) (fun o s₁=>wpAny (model prog w) A (eval slice env) (fun i s₂=>s₂.TypeIs o T/\wpAny (model prog w) A (getItem o i) Q E s₂) E s₁) E s):
  wpAny (model prog w) A (eval (.Subscript value slice pos) env) Q E s:=by
 refine OF (F7 h (fun o s₁ h₁=>F7 h₁ (fun i s₂ h₂=>?_) fun _ _ x=>x) fun _ _ x=>x);obtain⟨hT,h₂⟩:=h₂;unfold M9;refine EF ?_;rw[getitemInPython_of_ne hT.not_modules];refine EF (Gx hT hl ?_);have fin:wpAny (model prog w) A (Mw slice false o i) (fun r s₃=>wpAny (model prog w) A (letTemporaryGo value o r>>=fun _=>pure r) Q E s₃) E s₂:=by
  rw[hs o i];exact wpAny_operating (F7 h₂ (fun r s₃ h₃=>EF (wpAny_letTemporaryGo (EJ h₃))) fun _ _ x=>x)
 first
  |exact EJ (EF fin)
  |exact EF (EJ (EF fin))
  |exact EF fin
section
variable{X:Cx}{o i e value:Expr}{pos pos' tpos:Pos}{td ty tv:TE}
end
section
variable{X:Cx}{pos:Pos}
end
structure M2(X:Cx)(o:Expr)(m:Str)(apos:Pos)(e f:Expr)(cpos:Pos):Prop where
 base:Lk o m X.env (eval o X.env)=eval o X.env
 few:((backTo cpos (Fc [e,f] X.env)).all (fun x=>!x.1)&&(LF cpos (JZ [] X.env)).all (fun x=>x.1.isSome)
  &&decide (([e,f]:List Expr).length+([]:List Keyword).length+(if([]:List Keyword).isEmpty then 0 else 1)<30))=true
 line:(apos.endLine==cpos.line)=true
 trees:backTo cpos (Fc [e,f] X.env)=[(false,eval e X.env),(false,eval f X.env)]
section
variable{X:Cx}{pins:List (Addr×Obj)}{σ:St}{H:Hp}{s:Shared}{a:Addr}{y d:V}{u r:Value}{o:Option V}{A:Around}{E:Value->Shared->Prop}
end
section
variable{X:Cx}{o e f:Expr}{apos cpos:Pos}{td ty tx:TE}
end
section
variable{X:Cx}{pins:List (Addr×Obj)}{σ:St}{H:Hp}{s:Shared}{a:Addr}{kvs:List (Key×V)}{A:Around}{E:Value->Shared->Prop}
end
section
variable{X:Cx}{pins:List (Addr×Obj)}{σ:St}{H:Hp}{s:Shared}{a:Addr}{y:V}{u:Value}{A:Around}{E:Value->Shared->Prop}
end
end
section
open PySem.Spec
section
variable{prog:Program}{w:World}{A:Around}{E:Value->Shared->Prop}{s:Shared}
theorem lY{b:Bool}{Q:Int->Shared->Prop}(h:Q (hashInt (if b then 1 else 0)) { s with toks:=s.toks+1 }):wpAny (model prog w) A (pyHash (.bool b)) Q E s:=by
 have hr:=rawHash_range (if b then 1 else 0);unfold pyHash;have hv:[GN b].any Value.onHeap=false:=rfl;refine EF ?_;rw[cRoomFor,if_neg (by rw[hv];exact EU)];refine EJ ?_;have hT:s.TypeIs (.bool b) "bool":=rfl;refine EF (Gx hT Iz.lookup ?_);show wpAny _ _ (if(some (Io "int.__hash__")==some GC)=true then _ else _) Q E s;rw[if_neg (by rw[LO];exact EU)];refine EF (Gx hT Iz.lookup ?_);show wpAny _ _ (ID (.bool b) "__hash__" _>>=_) Q E s;refine EF (Hl hT Iz (FD Iz hT entry_int_hash ?_ (args_int_hash _)));cases b with
 |true=>
  refine(show wpAny _ _ (do ret (<-mkInt (rawHash 1))) _ _ s from Kq ?_);show wpAny _ _ (if(decide (-(2:Int)^63<=rawHash 1)&&decide (rawHash 1<2^63))=true then _ else _) Q E _;rw[if_pos (by decide)];exact EJ h
 |false=>
  refine(show wpAny _ _ (do ret (<-mkInt (rawHash 0))) _ _ s from Kq ?_);show wpAny _ _ (if(decide (-(2:Int)^63<=rawHash 0)&&decide (rawHash 0<2^63))=true then _ else _) Q E _;rw[if_pos (by decide)];exact EJ h
theorem lZ{Q:Int->Shared->Prop}(h:Q 4238894112 { s with toks:=s.toks+1 }):wpAny (model prog w) A (pyHash .none) Q E s:=by
 unfold pyHash;have hv:[GC].any Value.onHeap=false:=rfl;refine EF ?_;rw[cRoomFor,if_neg (by rw[hv];exact EU)];refine EJ ?_;have hT:s.TypeIs .none "NoneType":=rfl;refine EF (Gx hT HQ.lookup ?_);show wpAny _ _ (if(some (Io "NoneType.__hash__")==some GC)=true then _ else _) Q E s;rw[if_neg (by rw[LO];exact EU)];refine EF (Gx hT HQ.lookup ?_);show wpAny _ _ (ID .none "__hash__" _>>=_) Q E s;refine EF (Hl hT HQ (FD HQ hT PySem.F.entry_NoneType_hash ?_ (PySem.F.args_NoneType_hash_1 _)));refine(show wpAny _ _ (do ret (<-mkInt 4238894112)) _ _ s from Kq ?_);show wpAny _ _ (if(decide (-(2:Int)^63<=4238894112)&&decide ((4238894112:Int)<2^63))=true then _ else _) Q E _;rw[if_pos (by decide)];exact EJ h
end
noncomputable def rJ:IA->Int
 |none=>4238894112
 |some i=>hashInt i
noncomputable def ke:IA->Value->Bool
 |none,.none=>true
 |some i,.int j _=>i==j
 |some i,.bool b=>i==(if b then 1 else 0)
 |_,_=>false
theorem cE{k:IA}{v:Value}(h:ke k v=true):(k=none/\v=.none)\/(∃i t,k=some i/\v=.int i t)\/∃b,k=some (if b then 1 else 0)/\v=.bool b:=by
 rcases k with _|i<;>cases v<;>(delta ke at h;simp at h)
 ·exact .inl ⟨rfl,rfl⟩
 ·subst h;exact .inr (.inr ⟨_,rfl,rfl⟩)
 ·subst h;exact .inr (.inl ⟨_,_,rfl,rfl⟩)
noncomputable def bS(prog:Program)(w:World):PySem.KeyKind prog w IA where
 is:=ke
 hash:=rJ
 inj:=fun v a b ha hb=>by
  rcases cE ha with⟨rfl,rfl⟩|⟨i,t,rfl,rfl⟩|⟨c,rfl,rfl⟩<;>rcases cE hb with⟨rfl,e⟩|⟨j,u,rfl,e⟩|⟨d,rfl,e⟩<;>first|rfl| (cases e;rfl)|cases e
 byValue:=fun k v h=>by
  rcases cE h with⟨rfl,rfl⟩|⟨i,t,rfl,rfl⟩|⟨c,rfl,rfl⟩<;>rfl
 pyHash:=fun hv h=>by
  rcases cE hv with⟨rfl,rfl⟩|⟨i,t,rfl,rfl⟩|⟨c,rfl,rfl⟩
  ·exact lZ h
  ·exact Ol h
  ·exact lY h
 eqBool:=fun{A E s a b u v Q} hu hv h=>by
  rcases cE hu with⟨rfl,rfl⟩|⟨i,t,rfl,rfl⟩|⟨c,rfl,rfl⟩<;>rcases cE hv with⟨rfl,rfl⟩|⟨j,u,rfl,rfl⟩|⟨d,rfl,rfl⟩
  ·exact Mn _ _ _ _ _ (by simpa using h)
  ·exact Nl _ _ _ _ _ _ (by simpa using h)
  ·exact MV _ _ _ _ _ (by simpa using h)
  ·exact Nn _ _ _ _ _ _ (by simpa using h)
  ·exact KY _ _ _ _ _ _ _ _ (by simpa[Ke]using h)
  ·exact Np _ _ _ _ _ _ _ (by simpa[Ke]using h)
  ·exact MW _ _ _ _ _ (by simpa using h)
  ·exact Nm _ _ _ _ _ _ _ (by simpa[Ke]using h)
  ·refine MX _ _ _ _ _ _ ?_
   cases c<;>cases d<;>simpa using h
 «strs»:=fun k x t v h=>by
  rcases cE h with⟨rfl,e⟩|⟨i,u,rfl,e⟩|⟨c,rfl,e⟩<;>cases e
noncomputable def iT:IK->Int
 | .inl a=>rJ a
 | .inr as=>OL (GM (as.map rJ))
noncomputable def qM(is:List IK):Int:=OL (GM (is.map iT))
noncomputable def jP:IK->Nat
 | .inl _=>1
 | .inr as=>as.length+1
section
variable(prog:Program)(w:World)
noncomputable def b8(h:Heap):IK->Value->Prop
 | .inl a,v=>ke a v=true
 | .inr as,v=>∃b,v=.ref b/\JK (bS prog w) h as b
noncomputable def eP(h:Heap)(is:List IK)(a:Addr):Prop:=∃o items n,h.get? a=some o/\o.cls=.type "tuple"/\o.data=.seq items n/\Paired (b8 prog w h) is items.toList
end
section
variable{prog:Program}{w:World}
theorem b8.inj{h:Heap}{x y:IK}{v:Value}(hx:b8 prog w h x v)(hy:b8 prog w h y v):x=y:=by
 cases x with
 |inl a=>cases y with
  |inl b=>rw[(bS prog w).inj v a b hx hy]
  |inr bs=>
   obtain⟨c,rfl,_⟩:=hy;rcases cE hx with⟨_,e⟩|⟨_,_,_,e⟩|⟨_,_,e⟩<;>cases e
 |inr as=>cases y with
  |inl b=>
   obtain⟨c,rfl,_⟩:=hx;rcases cE hy with⟨_,e⟩|⟨_,_,_,e⟩|⟨_,_,e⟩<;>cases e
  |inr bs=>
   obtain⟨c,rfl,h1⟩:=hx;obtain⟨d,e,h2⟩:=hy;cases e;rw[h1.inj h2]
theorem xv{h:Heap}{xs ys:List IK}{vs:List Value}(p:Paired (b8 prog w h) xs vs):Paired (b8 prog w h) ys vs->xs=ys:=by
 induction p generalizing ys with
 |nil=>intro q;cases q;rfl
 |cons a t ih=>intro q;cases q with
  |cons b u=>rw[a.inj b,ih u]
theorem eP.inj{h:Heap}{a:Addr}{x y:List IK}(hx:eP prog w h x a)(hy:eP prog w h y a):x=y:=by
 obtain⟨o,items,n,ho,_,hd,hi⟩:=hx;obtain⟨o',items',n',ho',_,hd',hi'⟩:=hy;obtain rfl:o=o':=Fd (ho.symm.trans ho');rw[hd]at hd';injection hd' with h1 _
 subst h1;exact xv hi hi'
theorem b8.keeps{h h':Heap}{k:IK}{v:Value}{d:Addr}{o:Obj}{es ep}(x:b8 prog w h k v)(ho:h.get? d=some o)(hd:o.data=.dict es ep)(hs:Fb d h h'):b8 prog w h' k v:=by
 cases k with
 |inl a=>exact x
 |inr as=>obtain⟨b,e,q⟩:=x;exact⟨b,e,q.keeps ho hd hs⟩
theorem eP.keeps{h h':Heap}{ks:List IK}{a d:Addr}{o:Obj}{es ep}(x:eP prog w h ks a)(ho:h.get? d=some o)(hd:o.data=.dict es ep)(hs:Fb d h h'):eP prog w h' ks a:=by
 obtain⟨o',items,n,ho',hc,hd',hi⟩:=x;have hne:a≠d:=by
  rintro rfl;obtain rfl:o'=o:=Fd (ho'.symm.trans ho);rw[hd]at hd';exact nomatch hd'
 exact⟨o',items,n,(hs.2 a hne).trans ho',hc,hd',Paired.mapP hi fun _ _ z=>z.keeps ho hd hs⟩
theorem eP.typeIs{s:Shared}{ks:List IK}{a:Addr}(x:eP prog w s.heap ks a):s.TypeIs (.ref a) "tuple":=let⟨o,_,_,ho,hc,_⟩:=x;⟨o,ho,hc⟩
theorem nG{h:Heap}{ks:List IA}{a:Addr}(x:JK (bS prog w) h ks a):∃items,h.IsTuple a items:=let⟨o,items,n,h1,h2,h3,_⟩:=x;⟨items,o,h1,h2,n,h3⟩
variable{A:Around}{E:Value->Shared->Prop}{s:Shared}
theorem xw{k:IK}{v:Value}{Q:Int->Shared->Prop}(hu:A.units<cLine)(hk:b8 prog w s.heap k v)(h:Q (iT k) { s with toks:=s.toks+jP k }):wpAny (model prog w) A (pyHash v) Q E s:=by
 cases k with
 |inl a=>exact(bS prog w).pyHash (k:=a) hk h
 |inr as=>
  obtain⟨b,rfl,q⟩:=hk;exact ND (knd:=bS prog w) hu q h
theorem zf{a:IA}{v:Value}{b:Addr}{items:Array Value}{Q:Bool->Shared->Prop}(hu:A.units<cLine)(hk:ke a v=true)(ht:s.heap.IsTuple b items)(h:Q false s):wpAny (model prog w) A (NF v (.ref b)) Q E s:=by
 rcases cE hk with⟨rfl,rfl⟩|⟨i,t,rfl,rfl⟩|⟨c,rfl,rfl⟩
 ·exact Fl.none_tuple ht hu _ _ _ _ h
 ·exact Fl.int_tuple _ _ ht hu _ _ _ _ h
 ·exact Fl.bool_tuple _ ht hu _ _ _ _ h
theorem zg{a:IA}{v:Value}{b:Addr}{items:Array Value}{Q:Bool->Shared->Prop}(hu:A.units<cLine)(hk:ke a v=true)(ht:s.heap.IsTuple b items)(h:Q false s):wpAny (model prog w) A (NF (.ref b) v) Q E s:=by
 rcases cE hk with⟨rfl,rfl⟩|⟨i,t,rfl,rfl⟩|⟨c,rfl,rfl⟩
 ·exact Fl.tuple_none ht hu _ _ _ _ h
 ·exact Fl.tuple_int _ _ ht hu _ _ _ _ h
 ·exact Fl.tuple_bool _ ht hu _ _ _ _ h
theorem BH{x y:IK}{u v:Value}{Q:Bool->Shared->Prop}(hu:A.units<cLine)(hx:b8 prog w s.heap x u)(hy:b8 prog w s.heap y v)(h:Q (decide (x=y)) s):wpAny (model prog w) A (NF u v) Q E s:=by
 cases x with
 |inl a=>cases y with
  |inl b=>
   refine(bS prog w).eqBool (a:=a) (b:=b) hx hy ?_;rw[show decide (a=b)=decide ((G4 a:IK)=G4 b)from decide_eq_decide.mpr ⟨fun e=>by rw[e],fun e=>Ob e⟩];exact h
  |inr bs=>
   obtain⟨c,rfl,q⟩:=hy;obtain⟨items,ht⟩:=nG q;refine zf hu hx ht ?_;rw[decide_eq_false (fun e=>nomatch e)]at h;exact h
 |inr as=>cases y with
  |inl b=>
   obtain⟨c,rfl,q⟩:=hx;obtain⟨items,ht⟩:=nG q;refine zg hu hy ht ?_;rw[decide_eq_false (fun e=>nomatch e)]at h;exact h
  |inr bs=>
   obtain⟨c,rfl,q⟩:=hx;obtain⟨d,rfl,q'⟩:=hy;refine K5 (knd:=bS prog w) hu q q' ?_;rw[show decide (as=bs)=decide ((Ib as:IK)=Ib bs)from decide_eq_decide.mpr ⟨fun e=>by rw[e],fun e=>KR e⟩];exact h
noncomputable def rK(ks:List IK):Nat:=(ks.map jP).sum+1
theorem xx{ks:List IK}{a:Addr}{Q:Int->Shared->Prop}(hu:A.units+1<cLine)(hk:eP prog w s.heap ks a)(h:Q (qM ks) { s with toks:=s.toks+rK ks }):
  wpAny (model prog w) A (pyHash (.ref a)) Q E s:=by
 have hT:=hk.typeIs;obtain⟨o,items,n,ho,_,hd,hi⟩:=hk;have hu0:A.units<cLine:=by omega
 unfold pyHash
 first|unfold pyHashByItsType|skip
 first|refine EF (wpAny_cRoomFor_or (.inr hu0) ?_)|skip
 refine EF (Gx hT JU.lookup ?_);show wpAny _ _ (if(some (Io "tuple.__hash__")==some GC)=true then _ else _) Q E s;rw[if_neg (by rw[LO];exact EU)];refine EF (Gx hT JU.lookup ?_);show wpAny _ _ (ID (.ref a) "__hash__" _>>=_) Q E s;refine EF (Hl hT JU (FD JU hT F.entry_tuple_hash ?_ (F.args_tuple_hash_1 _)));show wpAny _ _ (Lj (.ref a)>>=_) _ _ s;refine EF (K6 ho hd ?_);refine EF ?_;rw[<-Hg];refine Hc _
  (fun aY (b:Array Int) s'=>∃done left,ks=done++left/\Paired (b8 prog w s.heap) left aY/\b.toList=done.map iT/\s'={ s with toks:=s.toks+(done.map jP).sum })
  _ ?_ ?_ _ _ ⟨[],ks,rfl,hi,rfl,rfl⟩
 ·rintro x aY b s' ⟨done,left,rfl,hl,hb,rfl⟩
  cases hl with
  | @cons k _ ks' _ h1 hl'=>
   refine EF (xw (k:=k) hu h1 ?_);have e:(done.map jP).sum+jP k=((done++[k]).map jP).sum:=by simp
   first
    |exact EJ ⟨done++[k],ks',by simp,hl',by simp[hb],by rw[<-e];simp[Jh]⟩
    |exact EF (EJ (EJ ⟨done++[k],ks',by simp,hl',by simp[hb],by rw[<-e];simp[Jh]⟩))
 ·rintro b s' ⟨done,left,rfl,hl,hb,rfl⟩
  cases hl;rw[Gw]at h;show wpAny _ _ (retInt (GM b.toList)) _ _ _;rw[hb];refine Kq ?_;show wpAny _ _ (if(decide (-(2:Int)^63<=GM (done.map iT))&&decide (GM (done.map iT)<2^63))=true then _ else _) Q E _;unfold qM OL rK at h;by_cases hr:(decide (-(2:Int)^63<=GM (done.map iT))&&decide (GM (done.map iT)<2^63))=true
  ·rw[if_pos hr]
   rw[if_pos hr]at h;exact EJ (by simpa[Jh]using h)
  ·rw[if_neg hr]
   rw[if_neg hr]at h;exact EF (Ha (EJ (by simpa[Jh]using h)))
theorem vx{x y:List IK}{a b:Addr}{P:Fin->Shared->Prop}(hu:A.units<cLine)(hx:eP prog w s.heap x a)(hy:eP prog w s.heap y b)(h:P (.done (.ret (.bool (decide (x=y))))) s):
  wpAny (model prog w) A (Builtin.«tuple.__eq__» ⟨[.ref a,.ref b],[]⟩) P E s:=by
 have hTb:=hy.typeIs;obtain⟨oa,xs,na,hoa,_,hda,hia⟩:=hx;obtain⟨ob,ys,nb,hob,_,hdb,hib⟩:=hy;show wpAny _ _ (M1 (.ref b) (.type "tuple")>>=_) _ _ s;refine EF (GW hTb Kf ?_);simp only[GZ,Fe,if_false];refine EF (K6 hoa hda ?_);refine EF (K6 hob hdb ?_);refine EF ?_;refine Hc _
  (fun aY r s'=>r.1=none/\s'=s/\∃x' y' xs' ys',aY=List.zip xs' ys'/\Paired (b8 prog w s.heap) x' xs'/\Paired (b8 prog w s.heap) y' ys'/\decide (x'=y')=decide (x=y)/\(xs'.length==ys'.length)=(xs.size==ys.size))
  _ ?_ ?_ _ _ ⟨rfl,rfl,x,y,xs.toList,ys.toList,rfl,hia,hib,rfl,by simp⟩
 ·rintro⟨u,v⟩ aY r s' ⟨hr,rfl,x',y',xs',ys',hz,hx',hy',hdec,hlen⟩
  cases hx' with
  |nil=>simp at hz
  | @cons k1 u' x'' xs'' h1 hx''=>
   cases hy' with
   |nil=>simp at hz
   | @cons k2 v' y'' ys'' h2 hy''=>
    simp only[Iq,OM,Prod.mk.injEq]at hz;obtain⟨⟨rfl,rfl⟩,rfl⟩:=hz;refine EF (BH (x:=k1) (y:=k2) hu h1 h2 ?_);by_cases hk:k1=k2
    ·subst hk
     rw[decide_eq_true rfl];simp only[GZ,Fe,if_false];refine EJ ⟨rfl,rfl,x'',y'',xs'',ys'',rfl,hx'',hy'',?_,by simpa using hlen⟩;rw[<-hdec];by_cases hxy:x''=y''
     ·simp[hxy]
     ·simp[hxy]
    ·rw[decide_eq_false hk]
     simp only[MI,if_true];have hf:decide (x=y)=false:=by rw[<-hdec];simp[hk]
     rw[hf]at h;exact EF (EJ (EJ (EJ h)))
 ·rintro⟨r1,r2⟩ s' ⟨hr,rfl,x',y',xs',ys',hz,hx',hy',hdec,hlen⟩
  simp only at hr;subst hr;refine EJ ?_;have hfin:(xs.size==ys.size)=decide (x=y):=by
   rw[<-hdec,<-hlen];cases hx' with
   |nil=>
    cases hy' with
    |nil=>simp
    |cons _ _=>simp
   |cons _ _=>
    cases hy' with
    |nil=>simp
    |cons _ _=>simp at hz
  show P (.done (.ret (.bool (xs.size==ys.size)))) s';rw[hfin];exact h
theorem xy{x y:List IK}{a b:Addr}{Q:Bool->Shared->Prop}(hu:A.units+1<cLine)(hx:eP prog w s.heap x a)(hy:eP prog w s.heap y b)(h:Q (decide (x=y)) s):
  wpAny (model prog w) A (eqBool (.ref a) (.ref b)) Q E s:=by
 unfold eqBool
 try with_reducible refine FV ?_
 show wpAny _ _ (if(Fh a==Fh b)=true then _ else _) Q E s;by_cases hab:(Fh a==Fh b)=true
 ·rw[if_pos hab]
  have e:a=b:=by have:=eq_of_beq hab;injection this
  subst e;obtain rfl:=hx.inj hy;exact EF (Ha (EJ (by simpa using h)))
 ·rw[if_neg hab]
  exact EF (wpAny_richCompare_same_room (op:=.Eq) hx.typeIs hy.typeIs Kr
   (FD Kr hx.typeIs F.entry_tuple_eq (vx hu hx hy ⟨_,rfl,(fun e=>nomatch e),GR h⟩) (F.args_tuple_eq_2 _ _)) (by omega))
theorem tQ{n:Nat}{ks:List IA}{a:Addr}{Q:Bool->Shared->Prop}(hk:JK (bS prog w) s.heap ks a)(h:Q true s):wpAny (model prog w) A (Mp (n+1) (.ref a)) Q E s:=by
 have hT:=hk.typeIs;obtain⟨o,items,_,ho,_,hd,hi⟩:=hk;unfold Mp;refine EF (Gx hT Kr.lookup ?_);show wpAny _ _ (M1 (.ref a) (.type "tuple")>>=_) _ _ s;refine EF (GW hT Kf ?_);simp only[GZ,Fe,if_false];refine EF (FG ho hd ?_);refine EF ?_;show wpAny _ _ (forIn items _ _) _ _ s;rw[<-Hg];refine Hc _ (fun aY r s'=>r.1=none/\s'=s/\∀v∈aY,carriedByValue v=true) _ ?_ ?_ _ _ ⟨rfl,rfl,hi.byValue⟩
 ·rintro v aY r s' ⟨hr,rfl,hall⟩
  rw[NT _ (hall v EW)];refine EF (EJ ?_);simp only[GZ,Fe,if_false];exact EJ ⟨rfl,rfl,fun u hu'=>hall u (E3 _ hu')⟩
 ·rintro⟨r1,r2⟩ s' ⟨hr,rfl,_⟩
  simp only at hr;subst hr;exact EJ h
theorem zh{ks:List IK}{a:Addr}{Q:Bool->Shared->Prop}(hk:eP prog w s.heap ks a)(h:Q true s):wpAny (model prog w) A (Mp 8 (.ref a)) Q E s:=by
 have hT:=hk.typeIs;obtain⟨o,items,n,ho,_,hd,hi⟩:=hk;unfold Mp;refine EF (Gx hT Kr.lookup ?_);show wpAny _ _ (M1 (.ref a) (.type "tuple")>>=_) _ _ s;refine EF (GW hT Kf ?_);simp only[GZ,Fe,if_false];refine EF (FG ho hd ?_);refine EF ?_;show wpAny _ _ (forIn items _ _) _ _ s;rw[<-Hg];refine Hc _ (fun aY r s'=>r.1=none/\s'=s/\∃ks,Paired (b8 prog w s.heap) ks aY) _ ?_ ?_ _ _ ⟨rfl,rfl,ks,hi⟩
 ·rintro v aY r s' ⟨hr,rfl,ks,hall⟩
  cases hall with
  | @cons k _ ks' _ h1 hl=>
   refine EF ?_;have fin:wpAny (model prog w) A (Mp 7 v) (fun b s2=>b=true/\s2=s') E s':=by
    cases k with
    |inl a'=>rw[NT _ ((bS prog w).byValue _ _ h1)];exact EJ ⟨rfl,rfl⟩
    |inr as=>obtain⟨b,rfl,q⟩:=h1;exact tQ (n:=6) q ⟨rfl,rfl⟩
   refine F7 fin (fun b s2 ⟨e1,e2⟩=>?_) fun _ _ x=>x;subst e1 e2;simp only[GZ,Fe,if_false];exact EJ ⟨rfl,rfl,ks',hl⟩
 ·rintro⟨r1,r2⟩ s' ⟨hr,rfl,_⟩
  simp only at hr;subst hr;exact EJ h
end
noncomputable def iU(prog:Program)(w:World):HeapKind prog w (List IK) where
 is:=eP prog w
 hash:=qM
 draws:=rK
 room:=fun A=>A.units+1<cLine
 inj:=fun hx hy=>hx.inj hy
 keeps:=fun x ho hd hs=>x.keeps ho hd hs
 pyHash:=fun hu hk h=>xx hu hk h
 eqBool:=fun hu hx hy h=>xy hu hx hy h
 quiet:=fun hk h=>zh hk h
noncomputable def DA(a:Addr)(kvs:List (IA×V))(h:Heap):Prop:=kvs.length<=E1/\(a==G8)=false/\∃(P:Program)(w:World)(vs:List (IA×Value)),KV kvs vs/\h.DictOf (bS P w) a vs
noncomputable def ZX:List (List IK×Addr×V)->List (List IK×Addr×Value)->Prop:=Paired fun z x=>z.1=x.1/\z.2.1=x.2.1/\aB z.2.2 x.2.2
noncomputable def DB(a:Addr)(zs:List (List IK×Addr×V))(h:Heap):Prop:=zs.length<=E1/\(a==G8)=false/\∃xs:List (List IK×Addr×Value),ZX zs xs/\
 ∃o es ep,h.get? a=some o/\o.ExactDict/\o.data=.dict es ep/\es.toList=xs.map (fun x=>⟨qM x.1,.ref x.2.1,x.2.2⟩)/\(xs.map (·.1)).Nodup
noncomputable def dA(a:Addr)(kvs:List (IA×V)):HO:=.ext (DA a kvs)
noncomputable def dB(a:Addr)(zs:List (List IK×Addr×V)):HO:=.ext (DB a zs)
noncomputable def atZ(zs:List (List IK×Addr×V))(k:List IK):Option V:=(zs.find? fun p=>decide (p.1=k)).map (·.2.2)
noncomputable def Dx(H:Hp)(a:Addr)(s:Bool)(f:MK->Option V)(n:Nat):Prop:=
 (s=false/\∃kvs,H a=some (dA a kvs)/\(∀k,dQ kvs k=f (.inl k))/\kvs.length<=n)\/
 (s=true/\∃zs,H a=some (dB a zs)/\(∀z∈zs,bw H (.ref z.2.1) (.inr z.1))/\(∀k,atZ zs k=f (.inr k))/\zs.length<=n)
section
variable{H H':Hp}{a b:Addr}{s:Bool}{f g:MK->Option V}{n m:Nat}
theorem Dx.ext(h:Dx H a s f n):∃φ,H a=some (.ext φ):=by
 rcases h with⟨_,kvs,e,_⟩|⟨_,zs,e,_⟩
 ·exact⟨_,e⟩
 ·exact⟨_,e⟩
theorem Dx.keep(h:Dx H a s f n)(e:H' a=H a)(kp:eO H H'):Dx H' a s f n:=by
 rcases h with⟨hs,kvs,h1,h2⟩|⟨hs,zs,h1,h2,h3⟩
 ·exact .inl ⟨hs,kvs,e.trans h1,h2⟩
 ·exact .inr ⟨hs,zs,e.trans h1,fun z hz=>(h2 z hz).keep kp,h3⟩
theorem Dx.same(h:Dx H a s f n)(q:ak H H'):Dx H' a s f n:=by
 obtain⟨φ,h1⟩:=h.ext;exact h.keep ((q _ _ h1).trans h1.symm) q.keep
theorem Dx.ne_lst{xs:List V}(h:Dx H a s f n)(e:H b=some (.lst xs)):b≠a:=by
 obtain⟨φ,h1⟩:=h.ext;exact qH e h1 (fun z=>nomatch z)
theorem Dx.ne_tup{xs:List V}(h:Dx H a s f n)(e:H b=some (.tup xs)):b≠a:=by
 obtain⟨φ,h1⟩:=h.ext;exact qH e h1 (fun z=>nomatch z)
theorem Dx.le(h:Dx H a s f n)(e:n<=m):Dx H a s f m:=by
 rcases h with⟨hs,kvs,h1,h2,h3⟩|⟨hs,zs,h1,h2,h3,h4⟩
 ·exact .inl ⟨hs,kvs,h1,h2,Fz h3 e⟩
 ·exact .inr ⟨hs,zs,h1,h2,h3,Fz h4 e⟩
theorem Dx.congr(h:Dx H a s f n)(e:∀k,f k=g k):Dx H a s g n:=by
 rcases h with⟨hs,kvs,h1,h2,h3⟩|⟨hs,zs,h1,h2,h3,h4⟩
 ·exact .inl ⟨hs,kvs,h1,fun k=>(h2 k).trans (e _),h3⟩
 ·exact .inr ⟨hs,zs,h1,h2,fun k=>(h3 k).trans (e _),h4⟩
end
end
theorem Dx.off{H H':Hp}{a l:Addr}{s:Bool}{f:MK->Option V}{n:Nat}{xs:List V}(h:Dx H a s f n)(e:H l=some (.lst xs))(o:Off l H H'):Dx H' a s f n:=
 h.keep (o a (h.ne_lst e).symm) (o.keep e)
noncomputable def jQ:TE:=fun _ H Q=>∃s,∀p H',H p=none->ak H H'->Dx H' p s (fun _=>none) 0->Q (.ref p) H'
theorem lF{σ:St}{H:Hp}{Q:VK}(s:Bool)(h:∀p H',H p=none->ak H H'->Dx H' p s (fun _=>none) 0->Q (.ref p) H'):jQ σ H Q:=⟨s,h⟩
noncomputable def zk(neg:Bool):R2:=fun y x H Q=>∃a s f n k,x=.ref a/\Dx H a s f n/\bw H y k/\cZ k=s/\Q (.bl (if neg then(f k).isNone else(f k).isSome)) H
noncomputable def qN:R2:=fun x y H Q=>∃a s f n k v,x=.ref a/\Dx H a s f n/\bw H y k/\cZ k=s/\f k=some v/\Q v H
noncomputable def dv(f:MK->Option V)(k:MK)(v:V):MK->Option V:=fun j=>if j=k then some v else f j
noncomputable def qO:rc:=fun o i v H R=>∃a s f n k,o=.ref a/\Dx H a s f n/\bw H i k/\cZ k=s/\n<E1/\∀H',Off a H H'->Dx H' a s (dv f k v) (n+1)->R H'
noncomputable def nH:V->List V->Hp->VK->Prop:=fun x ys H Q=>∃a s f n k y v,x=.ref a/\ys=[y,v]/\Dx H a s f n/\bw H y k/\cZ k=s/\n<E1/\(∀u,f k=some u->Q u H)/\
 (f k=none->∀H',Off a H H'->Dx H' a s (dv f k v) (n+1)->Q v H')
noncomputable def tXM(r:V->List V->Hp->VK->Prop)(to:TE)(t:TA):TE:=fun σ H Q=>to σ H fun x H1=>(∃a s f n,x=.ref a/\Dx H1 a s f n)/\t σ H1 fun ys H2=>r x ys H2 Q
section
variable{σ:St}{H:Hp}{Q:VK}{a:Addr}{s:Bool}{f:MK->Option V}{n:Nat}{k:MK}{y v:V}
theorem zl(d:Dx H a s f n)(hk:bw H y k)(hs:cZ k=s)(h:Q (.bl (f k).isNone) H):zk true y (.ref a) H Q:=⟨a,s,f,n,k,rfl,d,hk,hs,h⟩
theorem xz(d:Dx H a s f n)(hk:bw H y k)(hs:cZ k=s)(e:f k=some v)(h:Q v H):qN (.ref a) y H Q:=⟨a,s,f,n,k,v,rfl,d,hk,hs,e,h⟩
theorem xA{R:Hp->Prop}(d:Dx H a s f n)(hk:bw H y k)(hs:cZ k=s)(hn:n<E1)(h:∀H',Off a H H'->Dx H' a s (dv f k v) (n+1)->R H'):qO (.ref a) y v H R:=⟨a,s,f,n,k,rfl,d,hk,hs,hn,h⟩
theorem uy(d:Dx H a s f n)(hk:bw H y k)(hs:cZ k=s)(hn:n<E1)(h1:∀u,f k=some u->Q u H)(h2:f k=none->∀H',Off a H H'->Dx H' a s (dv f k v) (n+1)->Q v H'):nH (.ref a) [y,v] H Q:=⟨a,s,f,n,k,y,v,rfl,rfl,d,hk,hs,hn,h1,h2⟩
theorem zm{r:V->List V->Hp->VK->Prop}{to:TE}{t:TA}(h:to σ H fun x H1=>(∃a s f n,x=.ref a/\Dx H1 a s f n)/\t σ H1 fun ys H2=>r x ys H2 Q):tXM r to t σ H Q:=h
end
section
variable{α:Type}[DecidableEq α]{ks:List α}{i:Nat}{k:α}
noncomputable def eS(ks:List α)(i:Nat):α->Option V:=fun k=>if k∈ks.take i then some (.int (ks.idxOf k:Nat))else none
theorem vy(hk:ks[i]?=some k)(h:k∈ks.take i)(j:α):eS ks i j=eS ks (i+1) j:=by
 unfold eS;rw[jg hk];by_cases q:j∈ks.take i
 ·rw[if_pos q,if_pos (F6 _ q)]
 ·rw[if_neg q,if_neg]
  intro z;rcases FC.mp z with z|z
  ·exact q z
  ·rw[E5.mp z]at q;exact q h
theorem vz(hk:ks[i]?=some k)(h:k∉ks.take i)(j:α):(if j=k then some (V.int (i:Nat))else eS ks i j)=eS ks (i+1) j:=by
 unfold eS;rw[jg hk];by_cases q:j=k
 ·subst q
  rw[if_pos rfl,if_pos (by simp),pV hk h]
 ·rw[if_neg q]
  by_cases z:j∈ks.take i
  ·rw[if_pos z,if_pos (F6 _ z)]
  ·rw[if_neg z,if_neg]
   intro w;rcases FC.mp w with w|w
   ·exact z w
   ·exact q (E5.mp w)
theorem pX(h:k∈ks.take i):eS ks i k=some (.int (ks.idxOf k:Nat)):=if_pos h
theorem tR(h:k∉ks.take i):eS ks i k=none:=if_neg h
theorem tS(k:α):none=eS ks 0 k:=(if_neg (by simp)).symm
theorem rL(hk:ks[i]?=some k):(bz ks).take (i+1)=(bz ks).take i++[ks.idxOf k]:=jg (by unfold bz;rw[EO,hk];rfl)
end
end L2
section
namespace KM
noncomputable def aX:Nat->Nat
 |0=>1
 |n+1=>aX n*(n+1)
noncomputable def choose:Nat->Nat->Nat
 |_,0=>1
 |0,_+1=>0
 |n+1,k+1=>choose n k+choose n (k+1)
theorem gL:∀n,0<aX n
 |0=>by decide
 |n+1=>Oe (gL n) (Hm n)
theorem jC(n:Nat):choose n 0=1:=by cases n<;>rfl
theorem jh:∀(n k:Nat),n<k->choose n k=0
 |_,0,h=>absurd h (Gm _)
 |0,_+1,_=>rfl
 |n+1,k+1,h=>by rw[choose,jh n k (by omega),jh n (k+1) (by omega)]
theorem mh:∀n,choose n n=1
 |0=>rfl
 |n+1=>by rw[choose,mh n,jh n (n+1) (by omega)]
theorem eU:∀(n k:Nat),k<=n->choose n k*(aX k*aX (n-k))=aX n
 |n,0,_=>by rw[jC,aX,LP,Og,Og]
 |0,_+1,h=>absurd h (by omega)
 |n+1,k+1,h=>by
  rw[choose,Oh];by_cases hk:k=n
  ·subst hk
   rw[mh,jh k (k+1) (by omega),HI];simp[aX]
  ·have hk':k+1<=n:=by omega
   have e1:=eU n k (by omega);have e2:=eU n (k+1) hk';have s1:n+1-(k+1)=n-k:=by omega
   have s2:n-k=(n-(k+1))+1:=by omega
   rw[s1];have a1:choose n k*(aX (k+1)*aX (n-k))=(k+1)*aX n:=by
    rw[<-e1,aX];simp only[Hb,G7,Hn]
   have a2:choose n (k+1)*(aX (k+1)*aX (n-k))=(n-k)*aX n:=by
    have s3:aX (n-k)=aX (n-(k+1))*(n-k):=by
     rw[s2,aX,<-s2]
    rw[<-e2,s3];simp only[Hb,G7,Hn]
   rw[a1,a2,<-Oh,aX,G7]
   congr 1
   omega
theorem tT(n k:Nat)(h:k+1<=n):choose n k*(n-k)/(k+1)=choose n (k+1):=by
 have e1:=eU n k (by omega);have e2:=eU n (k+1) h;have s2:n-k=(n-(k+1))+1:=by omega
 have p:0<aX k*aX (n-(k+1)):=Oe (gL _) (gL _);have q:choose n k*(n-k)=choose n (k+1)*(k+1):=by
  have:choose n k*(n-k)*(aX k*aX (n-(k+1)))=choose n (k+1)*(k+1)*(aX k*aX (n-(k+1))):=by
   have l:choose n k*(n-k)*(aX k*aX (n-(k+1)))=aX n:=by
    rw[<-e1,show aX (n-k)=aX (n-(k+1))*(n-k) by rw[s2,aX,<-s2]];simp only[Hb,G7,Hn]
   have r:choose n (k+1)*(k+1)*(aX k*aX (n-(k+1)))=aX n:=by
    rw[<-e2,aX];simp only[Hb,G7,Hn]
   rw[l,r]
  exact Ll p this
 rw[q,Nat.mul_div_cancel _ (Hm k)]
noncomputable def cn:Nat->List Nat->Nat
 |_,[]=>1
 |n,s::r=>choose n s*cn (n-s) r
theorem nI:∀(ss:List Nat)(n:Nat),ss.sum<=n->cn n ss*((ss.map aX).foldr (· * ·) 1*aX (n-ss.sum))=aX n
 | [],n,_=>by simp[cn]
 |s::r,n,h=>by
  rw[Fv]at h;have ih:=nI r (n-s) (by omega);have c:=eU n s (by omega);rw[cn,E6,List.foldr_cons,Fv,<-c,<-ih,Nat.sub_sub];simp only[Hb,G7,Hn]
end KM
end
section
namespace KM
noncomputable def lG(room:List Nat)(w:List Nat):List Nat:=(EY room.length).filter fun j=>decide (w.count j<room.getD j 0)
noncomputable def cF(room:List Nat)(ws:List (List Nat)):List (List Nat):=ws.flatMap fun w=>(lG room w).map fun j=>w++[j]
noncomputable def aP(room:List Nat):Nat->List (List Nat)
 |0=>[[]]
 |i+1=>cF room (aP room i)
noncomputable def fX:Nat->List Nat->Nat
 |0,_=>1
 |n+1,r=>(((EY r.length).filter fun j=>decide (0<r.getD j 0)).map fun j=>fX n (r.set j (r.getD j 0-1))).sum
noncomputable def left(room w:List Nat):List Nat:=(EY room.length).map fun j=>room.getD j 0-w.count j
theorem iV(room w:List Nat):(left room w).length=room.length:=by unfold left;rw[EI,Fw]
theorem rM(room w:List Nat)(j:Nat)(h:j<room.length):(left room w).getD j 0=room.getD j 0-w.count j:=by
 unfold left;rw[ER,EO,Gp h];rfl
theorem xB(room w:List Nat)(j:Nat)(h:j<room.length):left room (w++[j])=(left room w).set j ((left room w).getD j 0-1):=by
 apply G2;intro k;by_cases hk:k<room.length
 ·have e1:(left room (w++[j]))[k]?=some (room.getD k 0-(w++[j]).count k):=by
   unfold left;rw[EO,Gp hk];rfl
  rw[e1,NU,rM room w j h,iV];by_cases hjk:j=k
  ·subst hjk
   rw[if_pos rfl,if_pos h,JV];simp;omega
  ·rw[if_neg hjk]
   unfold left;rw[EO,Gp hk,JV];simp[Mq,hjk]
 ·rw[FI (by rw[iV];omega),FI (by rw[List.length_set,iV];omega)]
theorem vA(room w:List Nat):lG room w=(EY (left room w).length).filter fun j=>decide (0<(left room w).getD j 0):=by
 unfold lG;rw[iV];apply JW;intro j hj;rw[Ff]at hj;rw[rM room w j hj];by_cases h:w.count j<room.getD j 0
 ·simp[h]
  omega
 ·simp[h]
  omega
noncomputable def lH(room:List Nat):Nat->List (List Nat)->List (List Nat)
 |0,ws=>ws
 |n+1,ws=>lH room n (cF room ws)
theorem jD(room:List Nat):∀n i,lH room n (aP room i)=aP room (i+n)
 |0,i=>rfl
 |n+1,i=>by
  rw[lH,show cF room (aP room i)=aP room (i+1)from rfl,jD room n (i+1)]
  congr 1
  omega
theorem ji(f:List Nat->Nat)(room:List Nat):∀ws:List (List Nat),((cF room ws).map f).sum=(ws.map fun w=>((lG room w).map fun j=>f (w++[j])).sum).sum
 | []=>rfl
 |w::r=>by
  have ih:=ji f room r;unfold cF at ih ⊢;rw[NV,ET,Gc,ih,E6,Fv,G6];rfl
theorem k6(room:List Nat):∀(n:Nat)(ws:List (List Nat)),(lH room n ws).length=(ws.map fun w=>fX n (left room w)).sum
 |0,ws=>by
  rw[lH]
  induction ws with
  |nil=>rfl
  |cons w r ih=>rw[Fu,ih,E6,Fv,fX];omega
 |n+1,ws=>by
  rw[lH,k6 room n,ji]
  congr 1
  apply Hu;intro w _;rw[fX,vA]
  congr 1
  apply Hu;intro j hj;have hj':=Gv.mp hj;rw[Ff,iV]at hj';rw[xB room w j hj'.1]
noncomputable def cK(r:List Nat):Nat:=(r.map aX).foldr (· * ·) 1
theorem fY(a:Nat)(r:List Nat):cK (a::r)=aX a*cK r:=rfl
theorem pY:∀r,0<cK r
 | []=>by decide
 |a::r=>Oe (gL a) (pY r)
theorem pZ:∀(r:List Nat)(j:Nat),j<r.length->0<r.getD j 0->cK r=cK (r.set j (r.getD j 0-1))*r.getD j 0
 | [],j,h,_=>absurd h (by simp)
 |a::r,0,_,h=>by
  have h':0<a:=h;show cK (a::r)=cK ((a-1)::r)*a;rw[fY,fY];obtain⟨b,rfl⟩:∃b,a=b+1:=⟨a-1,by omega⟩;rw[show b+1-1=b by omega,aX];simp only[Hb,G7,Hn]
 |a::r,j+1,h,hp=>by
  have ih:=pZ r j (by simpa using h) hp;show cK (a::r)=cK (a::r.set j (r.getD j 0-1))*r.getD j 0;rw[fY,fY,ih];simp only[Hb,G7,Hn]
theorem uz:∀(r:List Nat)(j:Nat),j<r.length->0<r.getD j 0->(r.set j (r.getD j 0-1)).sum+1=r.sum
 | [],j,h,_=>absurd h (by simp)
 |a::r,0,_,h=>by
  have h':0<a:=h;show((a-1)::r).sum+1=(a::r).sum;rw[Fv,Fv];omega
 |a::r,j+1,h,hp=>by
  have ih:=uz r j (by simpa using h) hp;show(a::r.set j (r.getD j 0-1)).sum+1=(a::r).sum;rw[Fv,Fv];omega
theorem oV(c:Nat)(f:Nat->Nat):∀l:List Nat,(l.map f).sum*c=(l.map fun j=>f j*c).sum
 | []=>by simp
 |a::r=>by rw[E6,Fv,Oh,oV c f r,E6,Fv]
theorem rN(r:List Nat):(((EY r.length).filter fun j=>decide (0<r.getD j 0)).map fun j=>r.getD j 0).sum=r.sum:=by
 have go:∀(l:List Nat)(g:Nat->Nat),((l.filter fun j=>decide (0<g j)).map g).sum=(l.map g).sum:=by
  intro l g
  induction l with
  |nil=>rfl
  |cons a t ih=>
   rw[Ja];by_cases h:0<g a
   ·rw[if_pos (by simpa using h),E6,Fv,ih,E6,Fv]
   ·rw[if_neg (by simpa using h),ih,E6,Fv]
    omega
 rw[go]
 congr 1
 apply G2;intro k;rw[EO];by_cases hk:k<r.length
 ·rw[Gp hk,EG hk]
  show some (r.getD k 0)=some r[k];rw[ER,EG hk];rfl
 ·rw[FI (by simpa using hk),FI (by simpa using hk)]
  rfl
theorem kg:∀(n:Nat)(r:List Nat),r.sum=n->fX n r*cK r=aX n
 |0,r,h=>by
  have:cK r=1:=by
   induction r with
   |nil=>rfl
   |cons a t ih=>
    rw[Fv]at h;have ha:a=0:=by omega
    subst ha;rw[fY,ih (by omega)];rfl
  rw[fX,this];rfl
 |n+1,r,h=>by
  rw[fX,oV];have e:((EY r.length).filter fun j=>decide (0<r.getD j 0)).map (fun j=>fX n (r.set j (r.getD j 0-1))*cK r)=((EY r.length).filter fun j=>decide (0<r.getD j 0)).map (fun j=>r.getD j 0*aX n):=by
   apply Hu;intro j hj;have hj':=Gv.mp hj;rw[Ff]at hj';have hp:0<r.getD j 0:=of_decide_eq_true hj'.2;rw[pZ r j hj'.1 hp,<-Hb,kg n _ (by have:=uz r j hj'.1 hp;omega),G7]
  rw[e,<-oV,rN,h,aX,G7]
theorem zn(room:List Nat):left room []=room:=by
 apply G2;intro k;unfold left;rw[EO];by_cases hk:k<room.length
 ·rw[Gp hk,EG hk]
  show some (room.getD k 0-([]:List Nat).count k)=some room[k];rw[ER,EG hk];simp
 ·rw[FI (by simpa using hk),FI (by simpa using hk)]
  rfl
theorem xC(room:List Nat):(aP room room.sum).length*cK room=aX room.sum:=by
 have e:=jD room room.sum 0;rw[IQ]at e;rw[<-e,k6];show(Ov (fun w=>fX room.sum (left room w)) [[]]).sum*cK room=aX room.sum;rw[E6,HG,Fv,IR,zn,LQ];exact kg _ _ rfl
structure vB(room:List Nat)(i:Nat)(w:List Nat):Prop where
 len:w.length=i
 all:∀j∈w,j<room.length
 cnt:∀j,j<room.length->w.count j<=room.getD j 0
theorem eV(room:List Nat):∀i,∀w∈aP room i,vB room i w
 |0,w,h=>by
  have:w=[]:=by simpa[aP]using h
  subst this;exact⟨rfl,fun _ h=>(nomatch h),fun j _=>by simp⟩
 |i+1,w,h=>by
  rw[aP,cF,Ow]at h;obtain⟨v,hv,h⟩:=h;obtain⟨j,hj,rfl⟩:=FB.mp h;have b:=eV room i v hv;have hj':=Gv.mp hj;rw[Ff]at hj';have hc:v.count j<room.getD j 0:=of_decide_eq_true hj'.2;refine⟨by rw[EX,b.len];rfl,fun k hk=>?_,fun k hk=>?_⟩
  ·rcases FC.mp hk with hk|hk
   ·exact b.all k hk
   ·rw[E5]at hk
    omega
  ·rw[JV]
   by_cases e:j=k
   ·subst e
    rw[List.count_singleton_self];omega
   ·have:=b.cnt k hk
    rw[List.count_singleton,if_neg (by simpa using e)];omega
theorem kh:∀(n:Nat)(w:List Nat),(∀j∈w,j<n)->((EY n).map fun j=>w.count j).sum=w.length
 |n,[], _=>by
  have:((EY n).map fun j=>([]:List Nat).count j)=(EY n).map fun _=>0:=by simp
  rw[this];have go:∀m,((EY m).map fun _=>0).sum=0:=by
   intro m
   induction m with
   |zero=>rfl
   |succ m ih=>rw[GI,ET,Gc,ih];rfl
  exact go n
 |n,a::w,h=>by
  have ih:=kh n w fun j hj=>h j (E3 _ hj);have ha:a<n:=h a EW;rw[Fu,<-ih];clear ih h;have go:∀m,((EY m).map fun j=>(a::w).count j).sum=((EY m).map fun j=>w.count j).sum+(if a<m then 1 else 0):=by
   intro m
   induction m with
   |zero=>simp
   |succ m ih=>
    rw[GI,ET,Gc,ET,Gc,ih];simp only[E6,HG,Fv,IR,Mq];by_cases e:a=m
    ·subst e
     rw[if_neg (FM a),if_pos (Gq a),if_pos (beq_self_eq_true a)];omega
    ·rw[if_neg (show¬(a==m)=true by simpa using e)]
     by_cases hl:a<m
     ·rw[if_pos hl,if_pos (show a<m+1 by omega)]
      omega
     ·rw[if_neg hl,if_neg (show¬a<m+1 by omega)]
      omega
  rw[go,if_pos ha]
theorem uA:∀(n:Nat)(f g:Nat->Nat),(∀j,j<n->f j<=g j)->((EY n).map f).sum=((EY n).map g).sum->∀j,j<n->f j=g j
 |0,_,_,_,_,j,hj=>absurd hj (by omega)
 |n+1,f,g,hle,hs,j,hj=>by
  rw[GI,ET,Gc,ET,Gc]at hs;simp only[E6,HG,Fv,IR,LQ]at hs;have hle':∀k,k<n->f k<=g k:=fun k hk=>hle k (by omega);have mono:∀m,m<=n->((EY m).map f).sum<=((EY m).map g).sum:=by
   intro m
   induction m with
   |zero=>intro _;exact EM _
   |succ m ih=>
    intro hm;rw[GI,ET,Gc,ET,Gc];simp only[E6,HG,Fv,IR,LQ];have:=ih (by omega);have:=hle' m (by omega);omega
  have m1:=mono n (EM _);have m2:=hle n (by omega);by_cases e:j=n
  ·subst e
   omega
  ·exact uA n f g hle' (by omega) j (by omega)
theorem iC(room:List Nat):(EY room.length).map (fun j=>room.getD j 0)=room:=by
 apply G2;intro k;rw[EO];by_cases hk:k<room.length
 ·rw[Gp hk,EG hk]
  show some (room.getD k 0)=some room[k];rw[ER,EG hk];rfl
 ·rw[FI (by simpa using hk),FI (by simpa using hk)]
  rfl
theorem rO{room w:List Nat}(h:vB room room.sum w):∀j,j<room.length->w.count j=room.getD j 0:=by
 refine uA room.length (fun j=>w.count j) (fun j=>room.getD j 0) h.cnt ?_;rw[kh room.length w h.all,iC,h.len]
end KM
end
section
namespace KM
theorem xD(n k:Nat):choose n k<=2^n:=by
 induction n generalizing k with
 |zero=>cases k<;>simp[choose]
 |succ n ih=>
  cases k with
  |zero=>rw[jC];exact Nat.one_le_two_pow
  |succ k=>
   rw[choose,LR];have:=ih k;have:=ih (k+1);omega
theorem rP{n i:Nat}(h:i+1<=n):((choose n i:Nat):Int)*((n:Int)-(0+(i:Int)))/(0+(i:Int)+1)=((choose n (i+1):Nat):Int):=by
 have e1:(n:Int)-(0+(i:Int))=((n-i:Nat):Int):=by omega
 have e2:(0+(i:Int)+1)=((i+1:Nat):Int):=by omega
 rw[e1,e2,<-ON,<-Int.natCast_ediv,tT n i h]
theorem mi(n:Nat)(ss:List Nat)(h:ss.sum<=n):cn n ss*cK (ss++[n-ss.sum])=aX n:=by
 have e:cK (ss++[n-ss.sum])=(ss.map aX).foldr (· * ·) 1*aX (n-ss.sum):=by
  generalize n-ss.sum=k
  induction ss with
  |nil=>simp[cK]
  |cons a r ih=>
   have hr:r.sum<=n:=by rw[Fv]at h;omega
   show aX a*cK (r++[k])=aX a*(r.map aX).foldr (· * ·) 1*aX k;rw[ih hr,Hb]
 rw[e];exact nI ss n h
theorem xE{n:Nat}{ss:List Nat}(h:ss.sum<=n):0<cn n ss:=by
 have e:=mi n ss h;have f:=gL n;rcases K7 (cn n ss)with z|z
 ·rw[z,Nat.zero_mul]at e
  omega
 ·exact z
theorem eW{n:Nat}{ss:List Nat}(h:ss.sum<=n):(aP (ss++[n-ss.sum]) n).length=cn n ss:=by
 have e1:=mi n ss h;have hs:(ss++[n-ss.sum]).sum=n:=by
  rw[Gc,Fv,IR];omega
 have e2:=xC (ss++[n-ss.sum]);rw[hs]at e2;exact Ll (pY _) (e2.trans e1.symm)
theorem xF(n:Nat)(r:List Nat)(h:r.sum=n):0<fX n r:=by
 have e:=kg n r h;have f:=gL n;rcases K7 (fX n r)with z|z
 ·rw[z,Nat.zero_mul]at e
  omega
 ·exact z
theorem zo{room w:List Nat}{i:Nat}(h:vB room i w):(left room w).sum+i=room.sum:=by
 have go:∀m,m<=room.length->((EY m).map fun j=>room.getD j 0-w.count j).sum+((EY m).map fun j=>w.count j).sum=((EY m).map fun j=>room.getD j 0).sum:=by
  intro m
  induction m with
  |zero=>intro _;rfl
  |succ m ih=>
   intro hm;have:=ih (by omega);have:=h.cnt m (by omega);simp only[GI,ET,Gc,E6,HG,Fv,IR]at *;omega
 have e:=go room.length (EM _);rw[kh room.length w h.all,iC,h.len]at e;exact e
theorem rQ{room:List Nat}{i:Nat}(h:i<=room.sum):(aP room i).length<=(aP room room.sum).length:=by
 have e:=jD room (room.sum-i) i;rw[show i+(room.sum-i)=room.sum by omega]at e;rw[<-e,k6];have hb:=eV room i;generalize aP room i=ws at hb
 induction ws with
 |nil=>exact Fy _
 |cons w r ih=>
  rw[E6,Fv,Fu];have:=ih fun v hv=>hb v (E3 _ hv);have:=xF (room.sum-i) (left room w) (by have:=zo (hb w EW);omega);omega
noncomputable def cP(room w:List Nat)(k:Nat):List Nat:=(EY k).filter fun j=>decide (w.count j<room.getD j 0)
theorem jE(room w:List Nat):cP room w room.length=lG room w:=rfl
theorem k7(room w:List Nat)(k:Nat):cP room w (k+1)=cP room w k++(if w.count k<room.getD k 0 then[k]else[]):=by
 unfold cP;rw[GI,HJ];by_cases h:w.count k<room.getD k 0
 ·rw[if_pos h,JO (by simpa using h)]
  rfl
 ·rw[if_neg h,Il (by simpa using h)]
  rfl
theorem p5(room:List Nat)(ws:List (List Nat))(i:Nat)(w:List Nat)(h:ws[i]?=some w):cF room (ws.take (i+1))=cF room (ws.take i)++(lG room w).map fun j=>w++[j]:=by
 unfold cF;rw[HS,h,Jo];simp
theorem k8(room:List Nat)(ws:List (List Nat))(i:Nat):(cF room (ws.take i)).length<=(cF room ws).length:=by
 have:cF room ws=cF room (ws.take i)++cF room (ws.drop i):=by
  unfold cF;rw[<-Jo,FZ]
 rw[this,EX];omega
end KM
end
namespace L2
open PySem PyProof.Rows
section
variable{K:Fg}{vs:List V}{H:Hp}{Q:VK}{E:XK}
noncomputable def xG:V->Bool
 | .int _=>true
 |_=>false
noncomputable def bY:V->Int->Int->Bool
 | .int i,lo,hi=>decide (lo<=i)&&decide (i<=hi)
 |_,_,_=>false
noncomputable def fk(K:Fg)(H:Hp)(x:V):Prop:=∃t b1 b2,du K H x t/\Gk K t (.type "int")=some b1/\Gk K t (.type "bool")=some b2/\(b1&& !b2)=xG x
theorem fk.int{K:Fg}{H:Hp}(i:Int):fk K H (.int i):=⟨_,_,_,.int i,md K,kZ K,rfl⟩
theorem xH{K:Fg}{H H':Hp}{x:V}{t:Value}(h:du K H x t)(s:ak H H'):du K H' x t:=by
 cases h with
 |non=>exact .non
 |bl b=>exact .bl b
 |int i=>exact .int i
 |str x=>exact .str x
 |flt x=>exact .flt x
 |lst e=>exact .lst (s _ _ e)
 |frz e=>exact .frz (s _ _ e)
 |tup e=>exact .tup (s _ _ e)
 |dK e=>exact .dK (s _ _ e)
 |dT e=>exact .dT (s _ _ e)
 |ins e cl ha hn htk hm=>exact .ins (s _ _ e) cl ha hn htk hm
theorem fk.same{K:Fg}{H H':Hp}{x:V}(h:fk K H x)(s:ak H H'):fk K H' x:=by
 obtain⟨t,b1,b2,ty,r⟩:=h;exact⟨t,b1,b2,xH ty s,r⟩
noncomputable def BI(K:Fg):Sp:=fun vs H Q _=>∃x,vs=[x]/\fk K H x/\Q (.bl (xG x)) H
noncomputable abbrev jF(K:Fg):Sp:=BI K
noncomputable def nJ(K:Fg):TS:=(bj (j3 (tCB (kc K) (aa (ae 0) (aa (tC (.ty "int")) ah))) (qI (tCB (kc K) (aa (ae 0) (aa (tC (.ty "bool")) ah))))))
theorem tU(h:jF K vs H Q E):nJ K { nx:=fun _ H'=>Q .non H',rt:=Q } (start ["thing"] vs) H:=by
 obtain⟨x,rfl,⟨t,b1,b2,ty,k1,k2,e⟩,q⟩:=h;refine⟨_,rfl,_,_,_,_,rfl,ty,k1,_,rfl,fV (fun c=>?_) (fun c=>?_)⟩
 ·subst c
  refine⟨_,rfl,_,_,_,_,rfl,ty,k2,_,rfl,?_⟩;rw[<-e,Ip]at q;exact q
 ·subst c
  rw[<-e,KC]at q;exact q
noncomputable def zp(K:Fg):Sp:=fun vs H Q _=>∃x lo hi,vs=[x,.int lo,.int hi]/\fk K H x/\Q (.bl (bY x lo hi)) H
noncomputable abbrev d6(K:Fg):Sp:=zp K
noncomputable def mj(K:Fg):TS:=(bj (j3 (aJ (jF K) [] E0 (aa (ae 0) ah)) (wV (rI0 fun i j=>.bl (decide (i<=j))) (rI0 fun i j=>.bl (decide (i<=j))) (ae 1) (ae 0) (ae 2))))
theorem rR(h:d6 K vs H Q E):mj K { nx:=fun _ H'=>Q .non H',rt:=Q } (start ["thing","least","most"] vs) H:=by
 obtain⟨x,lo,hi,rfl,pl,q⟩:=h;refine⟨_,rfl,x,rfl,pl,_,rfl,fV (fun c=>?_) (fun c=>?_)⟩
 ·cases x with
  |int i=>
   refine⟨_,rfl,_,rfl,_,_,rfl,rfl,_,rfl,fV (fun d=>?_) (fun d=>?_)⟩
   ·refine⟨_,rfl,_,_,rfl,rfl,?_⟩
    have q':Q (.bl (decide (lo<=i)&&decide (i<=hi))) H:=q;rw[d,Ip]at q';exact q'
   ·have q':Q (.bl (decide (lo<=i)&&decide (i<=hi))) H:=q
    rw[d,KC]at q';exact q'
  |_=>cases c
 ·cases x with
  |int i=>cases c
  |_=>exact q
noncomputable def jG(zs:List V):Int:=(zs.map fun z=>match z with | .int i=>i|_=>0).sum
noncomputable def AS(x:V)(zs:List V):Bool:=match x with
 | .int c=>(decide (0<=c)&&decide (c<=12))&&(decide (1<=zs.length)&&decide (zs.length<=5))&&zs.all (fun z=>bY z 0 c)&&decide (jG zs<=c)
 |_=>false
theorem oW{zs:List V}{lo hi:Int}(h:zs.all (fun z=>bY z lo hi)=true):∃ns:List Int,zs=ns.map V.int/\jG zs=ns.sum:=by
 induction zs with
 |nil=>exact⟨[],rfl,rfl⟩
 |cons z r ih=>
  rw[Jg,Gr]at h;obtain⟨ns,e,es⟩:=ih h.2;cases z with
  |int i=>
   refine⟨i::ns,by rw[e];rfl,?_⟩;show i+jG r=(i::ns).sum;rw[es,Fv]
  |_=>exact absurd h.1 EU
noncomputable def AT(K:Fg)(H:Hp)(y:V)(zs:Option (List V)):Prop:=match zs with
 |some zs=>∃a,y=.ref a/\(H a=some (.lst zs)\/∃o,H a=some (.frz o (.lst zs)))/\zs.length<=1000/\∀z∈zs,fk K H z
 |none=>∃t,du K H y t/\Gk K t (.type "list")=some false
noncomputable def nK(x:V):Option (List V)->Bool
 |some zs=>AS x zs
 |none=>false
noncomputable def C3(K:Fg):Sp:=fun vs H Q _=>∃x y zs,vs=[x,y]/\fk K H x/\AT K H y zs/\∀H',ak H H'->Q (.bl (nK x zs)) H'
noncomputable abbrev kj(K:Fg):Sp:=C3 K
noncomputable def p6(K:Fg):TS:=(ax (ck (gF (tB (aJ (d6 K) [] E0 (aa (ae 0) (aa (tC (.int 0)) (aa (tC (.int 12)) ah)))))) (bj (tC (.bl false))) bH)
 (ax (ck (tOr (gF (tB (tCB (kc K) (aa (ae 1) (aa (tC (.ty "list")) ah))))) (gF (tB (aJ (d6 K) [] E0 (aa (tCB (cD K) (aa (ae 1) ah)) (aa (tC (.int 1)) (aa (tC (.int 5)) ah))))))) (bj (tC (.bl false))) bH)
 (bj (j3 (tCB (CV K) (aa (bL (cJ K (ae 1)) (fun _ _ _ _=>(aj 0)) (fun _ _ _ _=>bB) (fun _ _ _ _=>(aJ (d6 K) [] E0 (aa (ae 0) (aa (tC (.int 0)) (aa (ae 1) ah))))) [none,some 0]) ah)) (tOp (rI0 fun i j=>.bl (decide (i<=j))) (tCB (vo K) (aa (ae 1) ah)) (ae 0))))))
theorem vC(h:kj K vs H Q E):p6 K { nx:=fun _ H'=>Q .non H',rt:=Q } (start ["cards","sizes"] vs) H:=by
 obtain⟨x,y,zs,rfl,px,hz,q⟩:=h;refine⟨_,rfl,x,0,12,rfl,px,_,rfl,fV (fun c=>?_) (fun c=>?_)⟩
 ·
  have e:nK x zs=false:=by
   have c':bY x 0 12=false:=by simpa using c
   cases zs with
   |none=>rfl
   |some zs=>
    cases x with
    |int i=>
     show((decide (0<=i)&&decide (i<=12))&&(decide (1<=zs.length)&&decide (zs.length<=5))&&zs.all (fun z=>bY z 0 i)&&decide (jG zs<=i))=false;rw[show(decide (0<=i)&&decide (i<=12))=false from c'];rfl
    |_=>rfl
  have:=q H (ak.refl H);rw[e]at this;exact this
 ·have c':bY x 0 12=true:=by simpa using c
  cases x with
  |int i=>
   cases zs with
   |none=>
    obtain⟨t,ty,k⟩:=hz;refine⟨_,rfl,_,_,_,_,rfl,ty,k,_,rfl,mH (mH ?_)⟩;exact q H (ak.refl H)
   |some zs=>
    obtain⟨a,rfl,ha,hlen,hp⟩:=hz;have hS:SqL K H a zs:=ha.elim (fun h=>.inl (.inl h)) (fun h=>.inl (.inr h));have ty:du K H (.ref a) (.type "list"):=ha.elim (fun h=>.lst h) (fun⟨o,h⟩=>.frz h);refine⟨_,rfl,_,_,_,_,rfl,ty,tN K,_,rfl,mG ?_⟩;refine⟨_,rfl,a,_,rfl,.inl hS,_,1,5,rfl,fk.int _,_,rfl,fV (fun d=>?_) (fun d=>?_)⟩
    ·have e:nK (.int i) (some zs)=false:=by
      have d0:bY (.int (zs.length:Int)) 1 5=false:=by simpa using d
      have d':(decide ((1:Int)<=(zs.length:Int))&&decide ((zs.length:Int)<=5))=false:=d0;show((decide (0<=i)&&decide (i<=12))&&(decide (1<=zs.length)&&decide (zs.length<=5))&&zs.all (fun z=>bY z 0 i)&&decide (jG zs<=i))=false;have e1:decide (1<=zs.length)=decide ((1:Int)<=(zs.length:Int)):=decide_eq_decide.mpr (by omega);have e2:decide (zs.length<=5)=decide ((zs.length:Int)<=5):=decide_eq_decide.mpr (by omega);rw[e1,e2,d',MC];rfl
     have:=q H (ak.refl H);rw[e]at this;exact this
    ·have d0:bY (.int (zs.length:Int)) 1 5=true:=by simpa using d
     have d':(decide ((1:Int)<=(zs.length:Int))&&decide ((zs.length:Int)<=5))=true:=d0;have e0:nK (.int i) (some zs)=(zs.all (fun z=>bY z 0 i)&&decide (jG zs<=i)):=by
      show((decide (0<=i)&&decide (i<=12))&&(decide (1<=zs.length)&&decide (zs.length<=5))&&zs.all (fun z=>bY z 0 i)&&decide (jG zs<=i))=_;have e1:decide (1<=zs.length)=decide ((1:Int)<=(zs.length:Int)):=decide_eq_decide.mpr (by omega);have e2:decide (zs.length<=5)=decide ((zs.length:Int)<=5):=decide_eq_decide.mpr (by omega);rw[e1,e2,d',show(decide (0<=i)&&decide (i<=12))=true from c',Ip,Ip]
     rw[e0]at q;refine⟨_,rfl,a,rfl,⟨_,hS⟩,fun p hp'=>kY (K:=K) (a:=a) (xs:=zs) (fun k acc H2=>acc=((zs.take k).map fun z=>bY z 0 i).map V.bl/\ak H H2/\H2 p=some (.lst acc)) ⟨rfl,aH hp' _,ay⟩ ?_ ?_ (small hlen) ?_ ?_⟩
     ·rintro k acc H2 hk ⟨rfl,s2,e2⟩
      exact⟨e2,by rw[EI,EI,Fo];omega⟩
     ·rintro k acc H2 hk ⟨rfl,s2,e2⟩
      exact s2.seq hS
     ·rintro _ _ _ _ k z acc H2 hzk ⟨rfl,s2,e2⟩
      refine⟨_,rfl,_,rfl,z,0,i,rfl,(hp z (E2 hzk)).same s2,e2,?_,s2.upd hp' _,ay⟩;rw[HS,hzk,ET,ET];rfl
     ·rintro acc H2 ⟨rfl,s2,e2⟩
      rw[FT]at e2;refine⟨p,_,rfl,SqL.of e2,_,rfl,?_⟩;have ea:(zs.map fun z=>bY z 0 i).all id=zs.all fun z=>bY z 0 i:=by
       rw[IP];rfl
      rw[ea];refine fV (fun g=>?_) (fun g=>?_)
      ·obtain⟨ns,en,es⟩:=oW g
       rw[g,Ip,es]at q;refine⟨_,rfl,a,ns,rfl,by rw[<-en];exact s2.seq hS,_,rfl,_,_,rfl,rfl,?_⟩;exact q H2 s2
      ·rw[g,KC]at q
       exact q H2 s2
  |_=>exact absurd c' EU
noncomputable def xI:Sp:=fun vs H Q _=>∃n k:Nat,vs=[.int n,.int k]/\k<=n/\n<=50/\Q (.int (KM.choose n k:Nat)) H
noncomputable abbrev km(K:Fg):Sp:=xI
noncomputable def p7(K:Fg):TS:=(ax (aF (tC (.int 1)) (aj 2))
 (ax (cp (cv (aa (ae 1) ah)) (aj 3) (aF (tOp (rI j4 fun i j=>.int (i/j)) (tOp (rI Hv fun i j=>.int (i*j)) (ae 2) (tOp (rI0 fun i j=>.int (i-j)) (ae 0) (ae 3))) (tOp (rI0 fun i j=>.int (i+j)) (ae 3) (tC (.int 1)))) (aj 2)))
 (bj (ae 2))))
theorem vD(h:km K vs H Q E):p7 K { nx:=fun _ H'=>Q .non H',rt:=Q } (start ["many","taken","ways","step"] vs) H:=by
 obtain⟨n,k,rfl,hk,hn,q⟩:=h;refine⟨_,rfl,_,rfl,by omega,by omega,kQ (lo:=0) (n:=((k:Nat):Int).toNat) (fun i σ H2=>∃st,σ=[some (.int n),some (.int k),some (.int (KM.choose n i:Nat)),st]/\H2=H) ⟨none,by rw[KM.jC];rfl,rfl⟩ ?_ ?_⟩
 ·rintro i σ H2 hi ⟨st,rfl,rfl⟩
  have hi':i+1<=n:=by omega
  refine⟨_,rfl,_,rfl,_,rfl,_,_,rfl,rfl,_,_,rfl,rfl,.of_right (Lg (by omega) (by omega)),_,rfl,_,_,rfl,rfl,_,_,rfl,rfl,⟨by omega,by omega⟩,?_⟩;dsimp only;rw[KM.rP hi'];exact⟨_,rfl,rfl⟩
 ·rintro σ H2 ⟨st,rfl,rfl⟩
  refine⟨_,rfl,?_⟩;rw[show((k:Nat):Int).toNat=k by omega];exact q
structure mK(c:Nat)(ss:List Nat):Prop where
 c12:c<=12
 l1:1<=ss.length
 l5:ss.length<=5
 sum:ss.sum<=c
noncomputable def ap(ss:List Nat):List V:=ss.map fun(s:Nat)=>V.int ((s:Nat):Int)
theorem fP(ss:List Nat):ap ss=(ss.map fun(s:Nat)=>((s:Nat):Int)).map V.int:=by unfold ap;rw[G6];rfl
theorem bi(ss:List Nat):(ap ss).length=ss.length:=EI _
theorem iW:∀ss:List Nat,(ss.map fun(s:Nat)=>((s:Nat):Int)).sum=((ss.sum:Nat):Int)
 | []=>rfl
 |a::r=>by rw[E6,Fv,Fv,iW r];omega
theorem nL:∀{ss:List Nat} {s:Nat},s∈ss->s<=ss.sum
 |a::r,s,h=>by
  rw[Fv];rcases EV.mp h with rfl|h
  ·omega
  ·have:=nL h
   omega
theorem zr{c:Nat}{ss:List Nat}(p:mK c ss):AS (.int c) (ap ss)=true:=by
 have h1:=p.c12;have h2:=p.l1;have h3:=p.l5;have h4:=p.sum;show((decide ((0:Int)<=(c:Int))&&decide ((c:Int)<=12))&&(decide (1<=(ap ss).length)&&decide ((ap ss).length<=5))&&(ap ss).all (fun z=>bY z 0 c)&&decide (jG (ap ss)<=c))=true;have e1:(ap ss).all (fun z=>bY z 0 c)=true:=by
  unfold ap;rw[IP,IZ];intro s hs;have:=nL hs;show(decide ((0:Int)<=(s:Int))&&decide ((s:Int)<=(c:Int)))=true;rw[decide_eq_true (by omega),decide_eq_true (by omega)];rfl
 have e2:jG (ap ss)=((ss.sum:Nat):Int):=by
  rw[<-iW];unfold jG ap;rw[G6];rfl
 rw[e1,e2,bi,decide_eq_true (by omega),decide_eq_true (by omega),decide_eq_true h2,decide_eq_true h3,decide_eq_true (by omega)];rfl
theorem zt{K:Fg}{H:Hp}{a:Addr}{ss:List Nat}(h:H a=some (.lst (ap ss)))(hl:ss.length<=1000):AT K H (.ref a) (some (ap ss)):=
 ⟨a,rfl,.inl h,by rw[bi];exact hl,fun z hz=>by
  obtain⟨s,_,rfl⟩:=FB.mp hz;exact fk.int _⟩
noncomputable def DU(K:Fg):Sp:=fun vs H Q _=>∃(c:Nat)(a:Addr)(ss:List Nat),vs=[.int c,.ref a]/\H a=some (.lst (ap ss))/\mK c ss/\∀H',ak H H'->Q (.int (KM.cn c ss:Nat)) H'
noncomputable abbrev gW(K:Fg):Sp:=DU K
noncomputable def nM(K:Fg):TS:=(ax (ck (gF (tB (aJ (kj K) [] E0 (aa (ae 0) (aa (ae 1) ah))))) iP bH)
 (ax (aF (tC (.int 1)) (aj 2))
 (ax (aF (ae 0) (aj 3))
 (ax (cp (cJ K (ae 1)) (aj 4) (ax (aF (tOp (rI Hv fun i j=>.int (i*j)) (ae 2) (aJ (km K) [] E0 (aa (ae 3) (aa (ae 4) ah)))) (aj 2))
 (aF (tOp (rI0 fun i j=>.int (i-j)) (ae 3) (ae 4)) (aj 3))))
 (bj (ae 2))))))
theorem tV(h:gW K vs H Q E):nM K { nx:=fun _ H'=>Q .non H',rt:=Q } (start ["cards","sizes","many","left","size"] vs) H:=by
 obtain⟨c,a,ss,rfl,ha,p,q⟩:=h;have h12:=p.c12;have h5:=p.l5;refine⟨_,rfl,_,rfl,_,_,some (ap ss),rfl,fk.int _,zt ha (by omega),fun H1 s1=>⟨_,rfl,?_⟩⟩;rw[show nK (.int c) (some (ap ss))=true from zr p];refine mG ?_;refine⟨_,rfl,?_⟩;refine⟨_,rfl,a,rfl,⟨_,SqL.of (s1 _ _ ha)⟩,mD (K:=K) (a:=a) (xs:=ap ss) (fun i σ H2=>∃(m l:Nat)(st:Option V),σ=[some (.int c),some (.ref a),some (.int m),some (.int l),st]/\H2=H1/\m*KM.cn l (ss.drop i)=KM.cn c ss/\(ss.drop i).sum<=l/\l<=12)
  ⟨1,c,none,rfl,rfl,by rw[Og];rfl,p.sum,h12⟩ (fun i σ H2 _ ⟨_,_,_,_,e,_⟩=>by subst e;exact SqL.of (s1 _ _ ha)) ?_ ?_⟩
 ·rintro i x σ H2 hx ⟨m,l,st,rfl,rfl,hm,hs,hl⟩
  obtain⟨z,hz,rfl⟩:∃z:Nat,ss[i]?=some z/\x=.int (z:Int):=by
   unfold ap at hx;rw[EO]at hx;cases e:ss[i]? with
   |none=>rw[e]at hx;cases hx
   |some z=>rw[e]at hx;exact⟨z,rfl,(Fd hx).symm⟩
  have hd:ss.drop i=z::ss.drop (i+1):=by
   obtain⟨h1,h2⟩:=EK.mp hz;rw[List.drop_eq_getElem_cons h1,h2]
  rw[hd,Fv]at hs;rw[hd,KM.cn]at hm;have hle:=KM.xD l z;have h2:(2:Nat)^l<=2^12:=Nat.pow_le_pow_right (by decide) hl;refine⟨_,rfl,_,rfl,_,rfl,l,z,rfl,by omega,by omega,_,_,rfl,rfl,.of_right (Lg (by omega) (by omega)),?_⟩;refine⟨_,rfl,_,rfl,_,_,rfl,rfl,m*KM.choose l z,l-z,some (.int (z:Int)),?_,rfl,by rw[Hb];exact hm,by omega,by omega⟩;have e1:((m:Nat):Int)*((KM.choose l z:Nat):Int)=((m*KM.choose l z:Nat):Int):=(ON _ _).symm;have e2:((l:Nat):Int)-((z:Nat):Int)=((l-z:Nat):Int):=by omega
  dsimp only;rw[e1,e2];rfl
 ·rintro σ H2 ⟨m,l,st,rfl,rfl,hm,hs,hl⟩
  refine⟨_,rfl,?_⟩;rw[bi,List.drop_length,KM.cn,Nat.mul_one]at hm;rw[hm];exact q _ s1
noncomputable def bf(H:Hp)(p:Addr)(ws:List (List Nat)):Prop:=∃rs:List Addr,H p=some (.lst (rs.map V.ref))/\Paired (fun(a:Addr)(w:List Nat)=>H a=some (.tup (ap w))) rs ws
theorem gX{H H':Hp}{rs:List Addr}{ws:List (List Nat)}(h:Paired (fun(a:Addr)(w:List Nat)=>H a=some (.tup (ap w))) rs ws)(s:∀a xs,H a=some (.tup xs)->H' a=some (.tup xs)):Paired (fun(a:Addr)(w:List Nat)=>H' a=some (.tup (ap w))) rs ws:=
 Paired.mapP h fun a w e=>s _ _ e
theorem nN{α β:Type}{F:α->β->Prop}:∀{l:List α} {m:List β} {i:Nat} {a:α},Paired F l m->l[i]?=some a->∃b,m[i]?=some b/\F a b
 |_,_,_,_,.nil,h=>by simp at h
 |_,_,0,_,.cons r _,h=>by simp at h;subst h;exact⟨_,rfl,r⟩
 |_,_,i+1,a,.cons _ t,h=>by
  obtain⟨b,h1,h2⟩:=nN (i:=i) (a:=a) t (by simpa using h);exact⟨b,by simpa using h1,h2⟩
theorem nO{α β:Type}{F:α->β->Prop}:∀{l:List α} {m:List β} {l':List α} {m':List β},Paired F l m->Paired F l' m'->Paired F (l++l') (m++m')
 |_,_,_,_,.nil,h=>h
 |_,_,_,_,.cons r t,h=>.cons r (nO t h)
theorem nP(w:List Nat)(j:Nat):(ap w).countP (fun z=>eqV z (.int (j:Int)))=w.count j:=by
 unfold ap;rw[List.countP_map,List.count_eq_countP]
 congr 1
 funext k
 show((k:Int)==(j:Int))=(k==j);by_cases h:k=j
 ·subst h;simp
 ·rw[beq_eq_false_iff_ne.mpr h,beq_eq_false_iff_ne.mpr (by omega)]
theorem p8(w:List Nat):(ap w).all fh=true:=by unfold ap;rw[IP];simp[fh]
noncomputable def C4(K:Fg):Sp:=fun vs H Q _=>∃(b r:Addr)(ws:List (List Nat))(room:List Nat),vs=[.ref b,.ref r]/\bf H b ws/\H r=some (.lst (ap room))/\room.length<=6/\(KM.cF room ws).length<=2000/\(∀w∈ws,w.length<=12)/\
 ∀(p:Addr)(H':Hp),ak H H'->H p=none->bf H' p (KM.cF room ws)->Q (.ref p) H'
noncomputable abbrev fD(K:Fg):Sp:=C4 K
noncomputable def jj(K:Fg):TS:=(ax (aF (vd ah) (aj 2))
 (ax (cp (cJ K (ae 0)) (aj 3) (cp (gU bP K (aa (ae 1) ah)) (dP K 2 (be (aj 4) (be (aj 5) dO))) (ck (bA (tOp (rI0 fun i j=>.bl (decide (i<j))) (tBT oR (ae 3) (aa (ae 4) ah)) (ae 5))) (gT (tBM K "list" lr (ae 2) (aa (tOp (vn K) (ae 3) (yO (aa (ae 4) ah))) ah))) bH)))
 (bj (ae 2))))
theorem mL(h:fD K vs H Q E):jj K { nx:=fun _ H'=>Q .non H',rt:=Q } (start ["begun","room","longer","deal","who","most"] vs) H:=by
 obtain⟨b,r,ws,room,rfl,⟨rs,hb,hp⟩,hrm,h6,h2000,h12,q⟩:=h;refine⟨(by show 0<=E1;decide),fun l hl=>?_⟩;have sl:ak H (upd H l (.lst [])):=aH hl _;have hrl:ws.length=rs.length:=hp.length.symm;refine⟨_,rfl,b,rfl,⟨_,SqL.of (sl _ _ hb)⟩,mD (K:=K) (a:=b) (xs:=rs.map V.ref)
  (fun i σ H2=>∃d wh mo:Option V,σ=[some (.ref b),some (.ref r),some (.ref l),d,wh,mo]/\ak H H2/\bf H2 l (KM.cF room (ws.take i)))
  ⟨none,none,none,rfl,sl,[],by rw[ay];rfl,.nil⟩ (fun i σ H2 _ ⟨_,_,_,_,s2,_⟩=>SqL.of (s2 _ _ hb)) ?_ ?_⟩
 ·rintro i x σ H2 hx ⟨d,wh,mo,rfl,s2,D2⟩
  obtain⟨a,ea,rfl⟩:∃a,rs[i]?=some a/\x=.ref a:=by
   rw[EO]at hx;cases e:rs[i]? with
   |none=>rw[e]at hx;cases hx
   |some a=>rw[e]at hx;exact⟨a,rfl,(Fd hx).symm⟩
  obtain⟨u,hu,ha⟩:=nN hp ea;have hu12:=h12 u (E2 hu);have gt:=KM.p5 room ws i u hu;have gle:=KM.k8 room ws (i+1);refine⟨_,rfl,r,_,rfl,SqL.of (s2 _ _ hrm),rD (S:=bP) (K:=K) (a:=r) (xs:=ap room)
   (fun j σ H3=>∃wh mo:Option V,σ=[some (.ref b),some (.ref r),some (.ref l),some (.ref a),wh,mo]/\ak H H3/\bf H3 l (KM.cF room (ws.take i)++(KM.cP room u j).map fun k=>u++[k]))
   ⟨wh,mo,rfl,s2,by simpa[KM.cP]using D2⟩ (fun j σ H3 _ ⟨_,_,_,s3,_⟩=>SqL.of (s3 _ _ hrm)) ?_ ?_⟩
  ·rintro j x T σ H3 hxj ⟨wh',mo',rfl,s3,qs,hq,pq⟩ hT
   obtain⟨m,hm,rfl⟩:∃m:Nat,room[j]?=some m/\x=.int (m:Int):=by
    unfold ap at hxj;rw[EO]at hxj;cases e:room[j]? with
    |none=>rw[e]at hxj;cases hxj
    |some z=>rw[e]at hxj;exact⟨z,rfl,(Fd hxj).symm⟩
   have hmD:room.getD j 0=m:=by rw[ER,hm];rfl
   have hjl:j<room.length:=(EK.mp hm).1;have nT:H T=none:=s3.free hT;have s4:ak H (upd H3 T (.tup [.int (j:Int),.int (m:Int)])):=s3.upd nT _;have a4:(upd H3 T (.tup [.int (j:Int),.int (m:Int)])) a=some (.tup (ap u)):=s4 _ _ ha;have nlT:l≠T:=aT hq hT;have q4:(upd H3 T (.tup [.int (j:Int),.int (m:Int)])) l=some (.lst (qs.map V.ref)):=by rw[aQ nlT];exact hq
   have p4:Paired (fun(a:Addr)(w:List Nat)=>(upd H3 T (.tup [.int (j:Int),.int (m:Int)])) a=some (.tup (ap w))) qs (KM.cF room (ws.take i)++(KM.cP room u j).map fun k=>u++[k]):=
    gX pq fun a xs e=>by rw[aQ (aT e hT)];exact e
   have hqlen:qs.length<=2000:=by
    have e1:=pq.length;rw[EX,EI]at e1;rw[gt,EX,EI,<-KM.jE]at gle;have e3:(KM.cP room u j).length<=(KM.cP room u room.length).length:=by
     unfold KM.cP;have:(EY j).Sublist (EY room.length):=List.range_sublist.mpr (by omega);exact(this.filter _).length_le
    omega
   have t4:(upd H3 T (.tup [.int (j:Int),.int (m:Int)])) T=some (.tup [.int (j:Int),.int (m:Int)]):=ay;generalize upd H3 T (.tup [.int (j:Int),.int (m:Int)])=H4 at s4 a4 q4 p4 t4;have ns:=KM.k7 room u j;rw[hmD]at ns;refine⟨T,_,rfl,SqT.of t4,rfl,_,_,rfl,_,_,rfl,rfl,?_⟩;refine⟨_,rfl,⟨a,_,rfl,a4⟩,_,rfl,a,_,_,rfl,rfl,a4,rfl,p8 u,_,rfl,_,_,rfl,rfl,_,rfl,?_⟩;rw[nP];refine fV (fun c=>?_) (fun c=>?_)
   ·have c':u.count j<m:=by have:=of_decide_eq_true c;omega
    rw[if_pos c']at ns;have fin:∀(d:Addr)(H5:Hp),ak H4 H5->H5 d=some (.tup (ap (u++[j])))->∃(l':Addr)(xs:List V)(y:V),V.ref l=.ref l'/\[V.ref d]=[y]/\H5 l'=some (.lst xs)/\xs.length<E1/\
      ∃wh mo:Option V,([some (.ref b),some (.ref r),some (.ref l),some (.ref a),some (.int (j:Int)),some (.int (m:Int))]:L2.St)=[some (.ref b),some (.ref r),some (.ref l),some (.ref a),wh,mo]/\ak H (upd H5 l' (.lst (xs++[y])))/\
       bf (upd H5 l' (.lst (xs++[y]))) l (KM.cF room (ws.take i)++(KM.cP room u (j+1)).map fun k=>u++[k]):=by
     intro d H5 s5 e5;refine⟨l,_,_,rfl,rfl,s5 _ _ q4,JB (by rw[EI];exact hqlen) (by decide),_,_,rfl,(s4.trans s5).upd hl _,qs++[d],by rw[ay,ET];rfl,?_⟩;have keep:∀(c:Addr)(xs:List V),H5 c=some (.tup xs)->upd H5 l (.lst (qs.map V.ref++[V.ref d])) c=some (.tup xs):=fun c xs e=>by
      rw[aQ (qH e (s5 _ _ q4) (by intro z;cases z))];exact e
     rw[ns,ET,<-IG];exact nO (gX (gX p4 fun c xs e=>s5 _ _ e) keep) (.cons (keep _ _ e5) .nil)
    refine⟨_,rfl,.inl ⟨rfl,_,SqL.of q4⟩,_,rfl,_,rfl,(by show 1<=E1;decide),fun t ht=>?_⟩;have st:ak H4 (upd H4 t (.tup [.int (j:Int)])):=aH ht _;have ej:ap (u++[j])=ap u++[.int (j:Int)]:=by unfold ap;rw[ET];rfl
    refine⟨a,t,ap u,[.int (j:Int)],rfl,rfl,SqT.of (st _ _ a4),SqT.of ay,small (by rw[bi];show u.length+1<=1000;omega),fun e0=>?_,fun _ e0=>(nomatch e0),fun _ _ p hp'=>?_⟩
    ·exact fin t _ st (by rw[ay,ej,e0];rfl)
    ·exact fin p _ (st.trans (aH hp' _)) (by rw[ay,ej])
   ·have c':¬u.count j<m:=by have:=of_decide_eq_false c;omega
    rw[if_neg c',Gw]at ns;exact⟨_,_,rfl,s4,qs,q4,by rw[ns];exact p4⟩
  ·rintro σ H3 ⟨wh',mo',rfl,s3,D3⟩
   rw[bi,KM.jE,<-gt]at D3;exact⟨_,_,_,rfl,s3,D3⟩
 ·rintro σ H2 ⟨d,wh,mo,rfl,s2,D2⟩
  refine⟨_,rfl,?_⟩;rw[EI,<-hrl,FT]at D2;exact q l H2 s2 hl D2
noncomputable def BJ(K:Fg):Sp:=fun vs H Q _=>∃(c:Nat)(a:Addr)(ss:List Nat),vs=[.int c,.ref a]/\H a=some (.lst (ap ss))/\mK c ss/\KM.cn c ss<=2000/\
 ∀(p:Addr)(H':Hp),ak H H'->H p=none->bf H' p (KM.aP (ss++[c-ss.sum]) c)->Q (.ref p) H'
theorem jk(ss:List Nat)(c:Nat):ap ss++[.int (c:Int)]=ap (ss++[c]):=by unfold ap;rw[ET];rfl
noncomputable abbrev dM(K:Fg):Sp:=BJ K
noncomputable def kn(K:Fg):TS:=(ax (ck (bA (tOp (rI0 fun i j=>.bl (decide (j<i))) (aJ (gW K) [] E0 (aa (ae 0) (aa (ae 1) ah))) (tC (.int 2000)))) iP bH)
 (ax (aF (tOp CG (ae 1) (vd (aa (tOp (rI0 fun i j=>.int (i-j)) (ae 0) (tCB (vo K) (aa (ae 1) ah))) ah))) (aj 2))
 (ax (aF (vd (aa (yO ah) ah)) (aj 3))
 (ax (cp (cv (aa (ae 0) ah)) (aj 4) (aF (aJ (fD K) [] E0 (aa (ae 3) (aa (ae 2) ah))) (aj 3)))
 (bj (ae 3))))))
theorem rS(h:dM K vs H Q E):vs.length=2:=by
 obtain⟨c,a,ss,rfl,_⟩:=h;rfl
theorem ml(h:dM K vs H Q E):kn K { nx:=fun _ H'=>Q .non H',rt:=Q } (start ["cards","sizes","room","begun","card"] vs) H:=by
 obtain⟨c,a,ss,rfl,ha,p,hm,q⟩:=h;have h12:=p.c12;have h5:=p.l5;have hsum:=p.sum;refine⟨_,rfl,_,rfl,c,a,ss,rfl,ha,p,fun H1 s1=>?_⟩;refine⟨_,_,rfl,rfl,_,rfl,fV (fun k=>?_) (fun _=>?_)⟩
 ·have k':(2000:Int)<((KM.cn c ss:Nat):Int):=of_decide_eq_true k
  omega
 have a1:=s1 _ _ ha;refine⟨_,rfl,_,rfl,_,rfl,a,_,rfl,by rw[<-fP];exact SqL.of a1,_,_,rfl,rfl,(by show 1<=E1;decide),fun l hl=>?_⟩;have s2:ak H (upd H1 l (.lst [.int ((c:Int)-(ss.map fun(s:Nat)=>((s:Nat):Int)).sum)])):=s1.trans (aH hl _);have e2:(upd H1 l (.lst [.int ((c:Int)-(ss.map fun(s:Nat)=>((s:Nat):Int)).sum)])) l=some (.lst [.int ((c:Int)-(ss.map fun(s:Nat)=>((s:Nat):Int)).sum)]):=ay;rw[show(c:Int)-(ss.map fun(s:Nat)=>((s:Nat):Int)).sum=((c-ss.sum:Nat):Int) by rw[iW];omega]at s2 e2;dsimp only;rw[show(c:Int)-(ss.map fun(s:Nat)=>((s:Nat):Int)).sum=((c-ss.sum:Nat):Int) by rw[iW];omega];generalize upd H1 l (.lst [.int ((c-ss.sum:Nat):Int)])=H2 at s2 e2;refine⟨a,l,_,_,rfl,rfl,s2 _ _ ha,e2,small (by rw[bi];show ss.length+1<=1000;omega),fun rm hrm=>?_⟩;rw[jk];have hRs:(ss++[c-ss.sum]).sum=c:=by rw[Gc,Fv,IR];omega
 have hRl:(ss++[c-ss.sum]).length<=6:=by rw[EX];show ss.length+1<=6;omega
 have hlev:=KM.eW hsum;have s3:ak H (upd H2 rm (.lst (ap (ss++[c-ss.sum])))):=s2.trans (aH hrm _);have e3:(upd H2 rm (.lst (ap (ss++[c-ss.sum])))) rm=some (.lst (ap (ss++[c-ss.sum]))):=ay;generalize ss++[c-ss.sum]=R at *;generalize upd H2 rm (.lst (ap R))=H3 at s3 e3;refine⟨(by show 0<=E1;decide),fun t ht=>⟨(by show 1<=E1;decide),fun b hb=>?_⟩⟩;have s4:ak H3 (upd (upd H3 t (.tup [])) b (.lst [.ref t])):=(aH ht _).trans (aH hb _);have D4:bf (upd (upd H3 t (.tup [])) b (.lst [.ref t])) b (KM.aP R 0):=⟨[t],ay,.cons (by rw[aQ (aT (ay (o:=HO.tup [])) hb)];exact ay) .nil⟩;have f4:H b=none:=by
  have:H3 b=none:=(aH ht _).free hb;exact s3.free this
 generalize upd (upd H3 t (.tup [])) b (.lst [.ref t])=H4 at s4 D4;refine⟨_,rfl,_,rfl,by omega,by omega,kQ (lo:=0) (n:=((c:Nat):Int).toNat) (fun i σ H5=>∃(b:Addr)(st:Option V),σ=[some (.int c),some (.ref a),some (.ref rm),some (.ref b),st]/\ak H3 H5/\H b=none/\bf H5 b (KM.aP R i)) ⟨b,none,rfl,s4,f4,D4⟩ ?_ ?_⟩
 ·rintro i σ H5 hi ⟨b',st,rfl,s5,f5,D5⟩
  have hi':i+1<=c:=by omega
  refine⟨_,rfl,_,rfl,b',rm,_,R,rfl,D5,s5 _ _ e3,hRl,?_,fun u hu=>?_,fun p' H6 s6 f6 D6=>?_⟩
  ·have h1:=KM.rQ (room:=R) (i:=i+1) (by omega)
   rw[hRs,hlev]at h1;exact Fz h1 hm
  ·have:=(KM.eV R i u hu).len
   omega
  ·exact⟨p',_,rfl,s5.trans s6,(s3.trans s5).free f6,D6⟩
 ·rintro σ H5 ⟨b',st,rfl,s5,f5,D5⟩
  refine⟨_,rfl,?_⟩;rw[show((c:Nat):Int).toNat=c by omega]at D5;exact q b' H5 (s3.trans s5) f5 D5
noncomputable def iX(xs:List Int)(w:Int)(i:Nat):List Int:=((EY i).filter fun j=>decide (xs[j]?=some w)).map fun(j:Nat)=>((j:Nat):Int)
theorem p9(xs:List Int)(w:Int)(i:Nat):iX xs w (i+1)=iX xs w i++(if xs[i]?=some w then[(i:Int)]else[]):=by
 unfold iX;rw[GI,HJ,ET];by_cases h:xs[i]?=some w
 ·rw[if_pos h,JO (by simpa using h)]
  rfl
 ·rw[if_neg h,Il (by simpa using h)]
  rfl
theorem zu(xs:List Int)(w:Int)(i:Nat):(iX xs w i).length<=i:=by
 unfold iX;rw[EI];have h:=IS (fun j=>decide (xs[j]?=some w)) (EY i);rw[Fw]at h;exact h
noncomputable def BK(K:Fg):Sp:=fun vs H Q _=>∃(d:Addr)(xs:List Int)(v:Int),vs=[.ref d,.int v]/\SqT K H d (xs.map V.int)/\xs.length<=1000/\
 ∀(r:Addr)(H':Hp),ak H H'->H' r=some (.tup ((iX xs v xs.length).map V.int))->Q (.ref r) H'
theorem C5{xs:List Int}{i:Nat}{x:V}(h:(xs.map V.int)[i]?=some x):∃z,xs[i]?=some z/\x=.int z:=by
 rw[EO]at h;cases e:xs[i]? with
 |none=>rw[e]at h;cases h
 |some z=>rw[e]at h;exact⟨z,rfl,(Fd h).symm⟩
noncomputable abbrev gY(K:Fg):Sp:=BK K
noncomputable def nQ(K:Fg):TS:=(bj (tCB (CW K) (aa (bL (gU ka K (aa (ae 0) ah)) (fun _ _ _ _=>(dP K 2 (be (aj 0) (be (aj 1) dO)))) (fun _ _ _ _=>(bA (tOp rEq (ae 1) (ae 2)))) (fun _ _ _ _=>(ae 0)) [none,none,some 1]) ah)))
theorem tW(h:gY K vs H Q E):nQ K { nx:=fun _ H'=>Q .non H',rt:=Q } (start ["deal","who"] vs) H:=by
 obtain⟨d,xs,v,rfl,hd,hlen,q⟩:=h;have hl:(xs.map V.int).length=xs.length:=EI _;refine⟨_,rfl,d,_,rfl,hd,fun p hp=>pQ (S:=ka) (K:=K) (a:=d) (xs:=xs.map V.int) (fun i acc H2=>acc=(iX xs v i).map V.int/\ak H H2/\H2 p=some (.lst acc)) ⟨rfl,aH hp _,ay⟩ ?_ ?_ ?_ ?_ ?_⟩
 ·rintro i acc H2 hi ⟨rfl,s2,e2⟩
  exact⟨e2,by rw[EI];exact zu _ _ _⟩
 ·rintro i acc H2 hi ⟨rfl,s2,e2⟩
  exact s2.tup hd
 ·rw[hl]
  exact small hlen
 ·rintro _ _ _ _ i x T acc H2 hx ⟨rfl,s2,e2⟩ hT
  obtain⟨z,hz,rfl⟩:=C5 hx;have nTp:p≠T:=aT e2 hT;have nT:H T=none:=s2.free hT;refine⟨T,_,rfl,SqT.of ay,rfl,_,_,rfl,_,_,rfl,rfl,_,rfl,_,rfl,rfl,_,rfl,?_⟩;have eu:=p9 xs v i;refine fV (fun c=>?_) (fun c=>?_)
  ·have c':z=v:=by
    have:=of_decide_eq_true c;injection this
   subst c';rw[if_pos hz]at eu;refine⟨_,rfl,by rw[aQ nTp];exact e2,?_,(s2.upd nT _).upd hp _,ay⟩;rw[eu,ET];rfl
  ·have c':¬xs[i]?=some v:=by
    rw[hz];intro e;have:=of_decide_eq_false c;exact this (by rw[Fd e])
   rw[if_neg c',Gw]at eu;exact⟨by rw[eu],s2.upd nT _,by rw[aQ nTp];exact e2⟩
 ·rintro acc H2 ⟨rfl,s2,e2⟩
  rw[hl]at e2;exact⟨p,_,rfl,.inl ⟨SqL.of e2,fun t ht=>q t _ (s2.trans (aH ht _)) ay⟩⟩
end
section
variable{K:Fg}{vs:List V}{H:Hp}{Q:VK}{E:XK}
end
section
variable{K:Fg}{vs:List V}{H:Hp}{Q:VK}{E:XK}
end
section
variable{K:Fg}{vs:List V}{H:Hp}{Q:VK}{E:XK}
end
section
variable{K:Fg}{vs:List V}{H:Hp}{Q:VK}{E:XK}
theorem iY{ss:List Nat}{j z:Nat}(h:ss[j]?=some z):atI (ap ss) (j:Int)=some (.int (z:Int)):=fK (by unfold ap;rw[EO,h];rfl)
end
noncomputable def vE:V->Bool
 | .non=>true
 | .bl _=>true
 | .int _=>true
 |_=>false
inductive dR(K:Fg)(H:Hp):Nat->V->V->Prop where
 |flat {n:Nat} {x:V} (h:vE x=true):dR K H n x x
 |str {n:Nat} {x:Str} (h:x.cps.all (· < 0x110000)=true):dR K H n (.str x) (.str x)
 |lst {n:Nat} {a b:Addr} {xs ys:List V} (e1:SqL K H a xs) (e2:SqL K H b ys) (hl:xs.length=ys.length) (h:∀(i:Nat)(x y:V),xs[i]?=some x->ys[i]?=some y->dR K H n x y):dR K H (n+1) (.ref a) (.ref b)
 |tup {n:Nat} {a b:Addr} {xs ys:List V} (e1:SqT K H a xs) (e2:SqT K H b ys) (hl:xs.length=ys.length) (h:∀(i:Nat)(x y:V),xs[i]?=some x->ys[i]?=some y->dR K H n x y):dR K H (n+1) (.ref a) (.ref b)
noncomputable def iZ(K:Fg)(neg:Bool):R2:=fun x y H Q=>∃n,n<=30/\dR K H n x y/\Q (.bl (!neg)) H
section
variable{K:Fg}{H:Hp}{Q:VK}
theorem uB{x y:V}(n:Nat)(hn:n<=30)(h:dR K H n x y)(q:Q (.bl true) H):iZ K false x y H Q:=⟨n,hn,h,q⟩
theorem BL{x y:V}(n:Nat)(hn:n<=30)(h:dR K H n x y)(q:Q (.bl false) H):iZ K true x y H Q:=⟨n,hn,h,q⟩
theorem vF{a b:Addr}{xs:List V}(e1:SqT K H a xs)(e2:SqT K H b xs)(hf:∀x∈xs,vE x=true):dR K H 1 (.ref a) (.ref b):=
 .tup e1 e2 rfl fun i x y hx hy=>by
  rw[hx]at hy;cases hy;exact .flat (hf x (E2 hx))
theorem xJ(ns:List Int):∀x∈ns.map V.int,vE x=true:=fun x hx=>by obtain⟨n,_,rfl⟩:=FB.mp hx;rfl
end
section
variable{g:CF TG}{tt:CF TT}{te:CF TE}{σ₀:St}{Q:VK}{H:Hp}{K:Fg}
theorem BM{S:Src}{a:Addr}(xs:List V)(hx:S.Sq K H a xs)(kx:∀H',ak H H'->S.Sq K H' a xs)(hz:xs.length<=1000000)(R:Nat->List V->Hp->Prop)(h0:∀H',ak H H'->R 0 [] H')
  (hs:∀p,H p=none->∀C s' H' fp,∀i x T acc H2 H3,xs[i]?=some x->aW H p R i acc H2->H2 T=none->ak H2 H3->H3 T=some (.tup [.int i,x])->H3 p=some (.lst acc)->g C s' H' fp (.ref T) σ₀ H3 fun σ2 H4=>tt C s' H' fp σ2 H4 fun b H5=>if b=true then te C s' H' fp σ2 H5 fun y H6=>H6 p=some (.lst acc)/\aW H p R (i+1) (acc++[y]) (upd H6 p (.lst (acc++[y])))else aW H p R (i+1) acc H5)
  (hd:∀p acc H2,H p=none->ak H H2->H2 p=some (.lst acc)->R xs.length acc H2->Q (.ref p) H2):
  ∃a' xs',[V.ref a]=[.ref a']/\S.Sq K H a' xs'/\∀p,H p=none->∃W:Nat->Nat->List V->Hp->Prop,(∃m,W 0 m [] (upd H p (.lst [])))/\∀C s' H' fp,bO (Ite S K a') (g C s' H' fp) (tt C s' H' fp) (te C s' H' fp) σ₀ p Q W:=
 ⟨a,xs,rfl,hx,fun p hp=>pQ (aW H p R) ⟨aH hp _,ay,EM _,h0 _ (aH hp _)⟩ (fun i acc H2 _ c=>⟨c.2.1,c.2.2.1⟩) (fun i acc H2 _ c=>kx _ c.1) (by rw[EL];omega)
  (fun C s' H' fp i x T acc H2 hi c hT=>hs p hp C s' H' fp i x T acc H2 _ hi c hT (aH hT _) ay (by rw[aQ (aT c.2.1 hT)];exact c.2.1)) fun acc H2 c=>hd p acc H2 hp c.1 c.2.1 c.2.2.2⟩
end
section
variable{K:Fg}{vs:List V}{H:Hp}{Q:VK}{E:XK}
noncomputable def cS(K:Fg):Sp:=fun vs H Q _=>∃(a:Addr)(xs:List V)(ks:List MK)(s:Bool),vs=[.ref a]/\H a=some (.lst xs)/\Paired (bw H) xs ks/\(∀k∈ks,cZ k=s)/\ks.length<=100000/\
 ∀p H',H p=none->ak H H'->H' p=some (.lst (ap (bz ks)))->Q (.ref p) H'
noncomputable def da(K:Fg):TS:=(ax (aF jQ (aj 1))
 (ax (cp (gU bP K (aa (ae 0) ah)) (dP K 2 (be (aj 2) (be (aj 3) dO))) (gT (tXM nH (ae 1) (aa (ae 3) (aa (ae 2) ah)))))
 (bj (bL (cJ K (ae 0)) (fun _ _ _ _=>(aj 0)) (fun _ _ _ _=>bB) (fun _ _ _ _=>(tOp qN (ae 1) (ae 0))) [none,some 1]))))
theorem lb(h:cS K vs H Q E):da K { nx:=fun _ H'=>Q .non H',rt:=Q } (start ["marks","firsts","thing","mark"] vs) H:=by
 obtain⟨a,xs,ks,s,rfl,e,hk,hs,hl,q⟩:=h;show da K _ [some _,none,none,none] _;unfold da;have hlen:xs.length=ks.length:=Im hk;right;refine lF s fun d H1 hd s1 dx1=>?_;right;refine jO (S:=bP) xs (SqL.of (s1 _ _ e)) (fun i σ H3=>∃(u v:Option V),σ=[some (.ref a),some (.ref d),u,v]/\ak H H3/\Dx H3 d s (eS ks i) i) ?_ ?_ ?_ ?_
 ·exact⟨none,none,rfl,s1,dx1.congr tS⟩
 ·rintro i σ H3 hi ⟨u,v,rfl,s3,dx3⟩
  exact SqL.of (s3 _ _ e)
 ·rintro i x T σ H3 H4 hx ⟨u,v,rfl,s3,dx3⟩ hT s4 eT
  obtain⟨k,hki,hkv⟩:=je hk hx;have hks:=hs k (E2 hki);have hi:i<ks.length:=(EK.mp hki).1;refine dE (SqT.of eT) ?_;have s34:=s3.trans s4;have hkv4:=hkv.keep s34.keep;have dx4:=dx3.same s4;right;refine zm ?_;right;refine⟨⟨d,s,_,_,rfl,dx4⟩,?_⟩;right;refine uy dx4 hkv4 hks (by rw[EL];omega) (fun w hw=>?_) (fun hn H5 o5 dx5=>?_)
  ·have hm:k∈ks.take i:=by
    by_cases q:k∈ks.take i
    ·exact q
    ·rw[tR q]at hw;cases hw
   exact⟨_,_,rfl,s34,(dx4.congr (vy hki hm)).le (Jl i)⟩
  ·have hm:k∉ks.take i:=fun q=>by rw[pX q]at hn;cases hn
   exact⟨_,_,rfl,s34.off hd o5,dx5.congr (vz hki hm)⟩
 ·rintro σ H3 ⟨u,v,rfl,s3,dx3⟩
  right;refine gJ xs (SqL.of (s3 _ _ e)) (by omega) (fun i acc _=>acc=ap ((bz ks).take i)) (fun H' _=>rfl) ?_ ?_
  ·rintro p hp C s' H' fp i x acc H4 hx ⟨s4,e4,l4,rfl⟩
   obtain⟨k,hki,hkv⟩:=je hk hx;have hks:=hs k (E2 hki);have hi:i<ks.length:=(EK.mp hki).1;right;refine xz (dx3.same s4) (hkv.keep (s3.trans s4).keep) hks (pX (by rw[hlen,FT];exact E2 hki)) ?_;refine aW.put hp (fun _ _ _ _ r _=>r) s4 e4 l4 ?_;rw[rL hki,jk]
  ·rintro p acc H4 hp s4 e4 rfl
   refine q _ _ (s3.free hp) (s3.trans s4) ?_;rw[e4,Hy (by rw[gK,hlen];exact EM _)]
noncomputable def aq(w:List Nat)(h:Int):List Int:=iX (w.map fun(s:Nat)=>((s:Nat):Int)) h w.length
noncomputable def gM(ns:List Int):MK:=.inr (ns.map fun n=>(G4 (some n):IK))
theorem rT(a b:List Int)(e:gM a=gM b):a=b:=by
 have h:a.map (fun n=>(G4 (some n):IK))=b.map (fun n=>(G4 (some n):IK)):=KR e;clear e
 induction a generalizing b with
 |nil=>cases b with
  |nil=>rfl
  |cons _ _=>simp at h
 |cons x r ih=>cases b with
  |nil=>simp at h
  |cons y t=>
   rw[E6,E6]at h;injection h with h1 h2
   injection h1 with h1
   injection h1 with h1
   rw[h1,ih t h2]
noncomputable def di(ws:List (List Nat))(h:Int):List Nat:=bz (ws.map fun w=>aq w h)
theorem tX(ws:List (List Nat))(h:Int):bz (ws.map fun w=>gM (aq w h))=di ws h:=by
 unfold di;rw[<-mf (f:=gM) rT,G6];rfl
theorem bM(ws:List (List Nat))(h:Int):(di ws h).length=ws.length:=by unfold di;rw[gK,EI]
theorem bf.to'{H H':Hp}{p:Addr}{ws:List (List Nat)}(d:bf H p ws)(k:eO H H')(e:∀rs:List Addr,H p=some (.lst (rs.map V.ref))->H' p=some (.lst (rs.map V.ref))):bf H' p ws:=by
 obtain⟨rs,h1,h2⟩:=d;exact⟨rs,e rs h1,gX h2 fun a xs e=>k _ _ e⟩
theorem bf.same'{H H':Hp}{p:Addr}{ws:List (List Nat)}(d:bf H p ws)(s:ak H H'):bf H' p ws:=d.to' s.keep fun rs e=>s _ _ e
theorem C6{rs:List Addr}{i:Nat}{x:V}(hx:(rs.map V.ref)[i]?=some x):∃a,rs[i]?=some a/\x=.ref a:=by
 rw[EO]at hx;cases e:rs[i]? with
 |none=>rw[e]at hx;cases hx
 |some z=>rw[e]at hx;exact⟨z,rfl,(Fd hx).symm⟩
noncomputable def dF(K:Fg):Sp:=fun vs H Q _=>∃(a:Addr)(ws:List (List Nat))(h:Int),vs=[.ref a,.int h]/\bf H a ws/\(∀w∈ws,w.length<=1000)/\ws.length<=100000/\
 ∀p H',H p=none->ak H H'->H' p=some (.lst (ap (di ws h)))->Q (.ref p) H'
theorem xK{H:Hp}{xs:List V}{ks:List MK}{x:V}{k:MK}(h:Paired (bw H) xs ks)(q:bw H x k):Paired (bw H) (xs++[x]) (ks++[k]):=by
 induction h with
 |nil=>exact .cons q .nil
 |cons r _ ih=>exact .cons r ih
noncomputable def fZ(K:Fg):TS:=(bj (aJ (cS K) [] E0 (aa (bL (cJ K (ae 0)) (fun _ _ _ _=>(aj 0)) (fun _ _ _ _=>bB) (fun _ _ _ _=>(aJ (gY K) [] E0 (aa (ae 0) (aa (ae 1) ah)))) [none,some 1]) ah)))
theorem qp(h:dF K vs H Q E):fZ K { nx:=fun _ H'=>Q .non H',rt:=Q } (start ["deals","hand"] vs) H:=by
 obtain⟨a,ws,h,rfl,hD,hw,hl,q⟩:=h;show fZ K _ [some _,some _] _;unfold fZ;obtain⟨rs,e,hr⟩:=id hD;have hlr:rs.length=ws.length:=Im hr;right;refine gJ (rs.map V.ref) (SqL.of e) (by rw[EI];omega) (fun i acc H'=>Paired (bw H') acc ((ws.take i).map fun w=>gM (aq w h))) (fun H' _=>.nil) ?_ ?_
 ·rintro p hp C s' H' fp i x acc H2 hx ⟨s2,e2,l2,r2⟩
  obtain⟨b,hb,rfl⟩:=C6 hx;obtain⟨w,hwi,ew⟩:=je hr hb;right;refine⟨b,w.map fun(s:Nat)=>((s:Nat):Int),h,rfl,by rw[<-fP];exact SqT.of (s2 _ _ ew),by rw[EI];exact hw w (E2 hwi),fun r H3 s3 e3=>?_⟩;rw[EI]at e3;refine aW.put hp (fun _ _ _ _ r k=>pU r k) (s2.trans s3) (s3 _ _ e2) l2 ?_;rw[jg hwi,ET];exact xK (pU r2 s3.keep) (BF (ns:=aq w h) e3)
 ·rintro p acc H2 hp s2 e2 r2
  rw[EI,hlr,FT]at r2;right;refine⟨p,acc,_,true,rfl,e2,r2,?_,by rw[EI];omega,fun p3 H3 hp3 s3 e3=>?_⟩
  ·intro k hk
   obtain⟨w,_,rfl⟩:=FB.mp hk;rfl
  ·rw[tX]at e3
   exact q _ _ (s2.free hp3) (s2.trans s3) e3
end
noncomputable def AU:List V->Hp->VK->Prop:=fun xs H Q=>∃n:Nat,xs=[.int (n:Int)]/\n<=1000000/\New H (.rng 0 (n:Int)) fun p H2=>Q (.ref p) H2
noncomputable def vG:List V->Hp->VK->Prop:=fun xs H Q=>∃(p:Addr)(n:Nat),xs=[.ref p]/\H p=some (.rng 0 (n:Int))/\n<=1000000/\New H (.lst ((EY n).map fun(i:Nat)=>V.int ((i:Nat):Int))) fun p H2=>Q (.ref p) H2
noncomputable def AV(ta:TA):TE:=tCB vG (aa (tCB AU ta) ah)
noncomputable def lI(H:Hp)(ts:List Addr)(ps:List (V×V)):Prop:=Paired (fun(t:Addr)(p:V×V)=>H t=some (.tup [p.1,p.2])) ts ps
noncomputable def vH(S1 S2:Src)(K:Fg)(ta:TA):TE:=fun σ H Q=>ta σ H fun vs H1=>∃a b xs ys,vs=[.ref a,.ref b]/\S1.Sq K H1 a xs/\S2.Sq K H1 b ys/\xs.length<=1000000/\
 ∀p H',H1 p=none->ak H1 H'->(∃ts:List Addr,H' p=some (.lst (ts.map V.ref))/\lI H' ts (xs.zip ys))->Q (.ref p) H'
section
variable{σ:St}{H:Hp}{Q:VK}{K:Fg}
theorem C7{ta:TA}(h:ta σ H fun vs H1=>∃n:Nat,vs=[.int (n:Int)]/\n<=1000000/\New H1 (.rng 0 (n:Int)) fun p H2=>vG [.ref p] H2 Q):AV ta σ H Q:=h
theorem C8{S1 S2:Src}{ta:TA} (h:ta σ H fun vs H1=>∃a b xs ys,vs=[.ref a,.ref b]/\S1.Sq K H1 a xs/\S2.Sq K H1 b ys/\xs.length<=1000000/\
 ∀p H',H1 p=none->ak H1 H'->(∃ts:List Addr,H' p=some (.lst (ts.map V.ref))/\lI H' ts (xs.zip ys))->Q (.ref p) H'):vH S1 S2 K ta σ H Q:=h
end
section
variable{K:Fg}{vs:List V}{H:Hp}{Q:VK}{E:XK}
noncomputable def h9(v:List Nat)(as:List IA):List Nat:=bz (v.zip as)
noncomputable def rV(p:Nat×IA):MK:=.inr [.inl (some ((p.1:Nat):Int)),.inl p.2]
theorem zv(a b:Nat×IA)(e:rV a=rV b):a=b:=by
 have h:=KR e;injection h with h1 h2
 injection h1 with h1
 injection h1 with h1
 injection h2 with h2 _
 injection h2 with h2
 obtain⟨a1,a2⟩:=a;obtain⟨b1,b2⟩:=b;simp only at h1 h2;rw[show a1=b1 by omega,h2]
theorem tY(v:List Nat)(as:List IA):bz ((v.zip as).map rV)=h9 v as:=mf (f:=rV) zv _
theorem vI{v:List Nat}{as:List IA}(h:v.length=as.length):(h9 v as).length=v.length:=by unfold h9;rw[gK,Iu];omega
noncomputable def ko(_:Fg):Sp:=fun vs H Q _=>∃(a b:Addr)(v:List Nat)(ys:List V)(as:List IA),vs=[.ref a,.ref b]/\H a=some (.lst (ap v))/\H b=some (.lst ys)/\ys.map iaV=as.map some/\v.length=as.length/\v.length<=100000/\
 ∀p H',H p=none->ak H H'->H' p=some (.lst (ap (h9 v as)))->Q (.ref p) H'
theorem rW{H:Hp}:∀{ts:List Addr} {v:List Nat} {ys:List V} {as:List IA},lI H ts ((ap v).zip ys)->ys.map iaV=as.map some->Paired (bw H) (ts.map V.ref) ((v.zip as).map rV)
 |ts,[],ys,as,h,_=>by
  have e:(ap []).zip ys=[]:=rfl;rw[e]at h;cases h;rw[show([]:List Nat).zip as=[]from rfl];exact .nil
 |ts,x::v,[],as,h,e=>by
  have z:(ap (x::v)).zip ([]:List V)=[]:=by simp
  rw[z]at h;cases h;have:as=[]:=by
   cases as with
   |nil=>rfl
   |cons _ _=>simp at e
  rw[this];simp only[KZ];exact .nil
 |ts,x::v,y::ys,as,h,e=>by
  cases as with
  |nil=>simp at e
  |cons a as=>
   rw[E6,E6]at e;injection e with e1 e2
   have z:(ap (x::v)).zip (y::ys)=(.int (x:Int),y)::(ap v).zip ys:=rfl;rw[z]at h;cases h with
   |cons h t=>
    rw[Iq,E6,E6];exact .cons ⟨_,_,rfl,h,.cons rfl (.cons e1 .nil)⟩ (rW t e2)
noncomputable def lJ(K:Fg):TS:=(bj (aJ (cS K) [] E0 (aa (vH bP bP K (aa (ae 0) (aa (ae 1) ah))) ah)))
theorem zw(h:ko K vs H Q E):lJ K { nx:=fun _ H'=>Q .non H',rt:=Q } (start ["view","values"] vs) H:=by
 obtain⟨a,b,v,ys,as,rfl,ea,eb,hi,hl,hn,q⟩:=h;show lJ K _ [some _,some _] _;unfold lJ;right;refine C8 ?_;right;refine⟨a,b,ap v,ys,rfl,SqL.of ea,SqL.of eb,by rw[bi];omega,fun p H1 hp s1 ⟨ts,e1,pt⟩=>?_⟩;right;refine⟨p,_,_,true,rfl,e1,rW pt hi,?_,by rw[EI,Iu];omega,fun p2 H2 hp2 s2 e2=>?_⟩
 ·intro k hk
  obtain⟨w,_,rfl⟩:=FB.mp hk;rfl
 ·rw[tY]at e2
  exact q _ _ (s1.free hp2) (s1.trans s2) e2
end
end L2
section
namespace KM
noncomputable def swap(w:List Nat)(x y:Nat):List Nat:=(w.set x (w.getD y 0)).set y (w.getD x 0)
end KM
end
section
namespace KF
noncomputable def gc(ps:List Nat):Prop:=∀x y:Nat,ps[x]?=some y->y<=x
inductive dj(ps:List Nat):Nat->Nat->Prop where
 |stop {x:Nat} (h:ps[x]?=some x):dj ps x x
 |step {x y r:Nat} (h:ps[x]?=some y) (hl:y<x) (t:dj ps y r):dj ps x r
theorem dj.inj{ps:List Nat}{x r r':Nat}(a:dj ps x r)(b:dj ps x r'):r=r':=by
 induction a with
 |stop h=>cases b with
  |stop _=>rfl
  |step h' hl _=>rw[h]at h';cases h';omega
 |step h hl _ ih=>cases b with
  |stop h'=>rw[h]at h';cases h';omega
  |step h' _ t=>rw[h]at h';cases h';exact ih t
theorem gc.root{ps:List Nat}(f:gc ps):∀x,x<ps.length->∃r,dj ps x r:=by
 intro x
 induction x using OO with
 |ind x ih=>
  intro hx;have e:=EG hx;have hy:=f x _ e;rcases NG hy with h|h
  ·obtain⟨r,hr⟩:=ih _ h (by omega)
   exact⟨r,.step e h hr⟩
  ·rw[h]at e
   exact⟨x,.stop e⟩
theorem dj.le{ps:List Nat}{x r:Nat}(a:dj ps x r):r<=x:=by
 induction a with
 |stop _=>exact EM _
 |step _ hl _ ih=>omega
theorem dj.lt{ps:List Nat}{x r:Nat}(a:dj ps x r):x<ps.length:=by
 cases a with
 |stop h=>exact(EK.mp h).1
 |step h _ _=>exact(EK.mp h).1
theorem gc.range(n:Nat):gc (EY n):=fun x y h=>by
 obtain⟨h1,h2⟩:=EK.mp h;rw[HK]at h2;omega
theorem dj.range{n x:Nat}(h:x<n):dj (EY n) x x:=.stop (by rw[Gp h])
theorem C9{ps:List Nat}{e g y z:Nat}(h:(ps.set e g)[y]?=some z):(y=e/\z=g)\/(y≠e/\ps[y]?=some z):=by
 rw[NU]at h;by_cases q:e=y
 ·rw[if_pos q]at h
  split at h
  ·cases h;exact .inl ⟨q.symm,rfl⟩
  ·cases h
 ·rw[if_neg q]at h
  exact .inr ⟨fun z=>q z.symm,h⟩
theorem gc.set{ps:List Nat}(f:gc ps){e g:Nat}(h:g<=e):gc (ps.set e g):=fun x y q=>by
 rcases C9 q with⟨rfl,rfl⟩|⟨_,q⟩
 ·exact h
 ·exact f x y q
inductive gN(P:Nat->Nat->Prop):Nat->Nat->Prop where
 |refl (x:Nat):gN P x x
 |one {x y:Nat} (h:P x y):gN P x y
 |symm {x y:Nat} (h:gN P x y):gN P y x
 |trans {x y z:Nat} (h:gN P x y) (t:gN P y z):gN P x z
theorem gN.keeps{P:Nat->Nat->Prop}{α:Type}{f:Nat->α}(h:∀x y,P x y->f x=f y){x y:Nat}(c:gN P x y):f x=f y:=by
 induction c with
 |refl x=>rfl
 |one q=>exact h _ _ q
 |symm _ ih=>exact ih.symm
 |trans _ _ a b=>exact a.trans b
structure Da(n:Nat)(P:Nat->Nat->Prop)(r:List Nat):Prop where
 len:r.length=n
 le:∀i x:Nat,r[i]?=some x->x<=i
 conn:∀i x:Nat,r[i]?=some x->gN P i x
 same:∀i j:Nat,i<n->j<n->gN P i j->r[i]?=r[j]?
structure rX(n:Nat)(P:Nat->Nat->Prop)(ps:List Nat):Prop where
 len:ps.length=n
 forest:gc ps
 conn:∀x r,dj ps x r->gN P x r
 same:∀x y,P x y->∃r,dj ps x r/\dj ps y r
theorem rX.join{n:Nat}{P:Nat->Nat->Prop}{ps r:List Nat}(t:rX n P ps)(hl:r.length=n)(hr:∀i x:Nat,r[i]?=some x->dj ps i x):Da n P r where
 len:=hl
 le:=fun i x h=>(hr i x h).le
 conn:=fun i x h=>t.conn _ _ (hr i x h)
 same:=by
  have key:∀i j,gN P i j->∀x,(dj ps i x↔dj ps j x):=by
   intro i j c
   induction c with
   |refl x=>intro x;exact Iff.rfl
   |one q=>
    intro x;obtain⟨r,h1,h2⟩:=t.same _ _ q;exact⟨fun a=>by rw[a.inj h1];exact h2,fun a=>by rw[a.inj h2];exact h1⟩
   |symm _ ih=>intro x;exact(ih x).symm
   |trans _ _ a b=>intro x;exact(a x).trans (b x)
  intro i j hi hj c;have e1:=EG (l:=r) (i:=i) (by rw[hl];exact hi);have e2:=EG (l:=r) (i:=j) (by rw[hl];exact hj);have q1:=(key i j c _).mp (hr _ _ e1);rw[e1,e2,q1.inj (hr _ _ e2)]
theorem rX.start(n:Nat):rX n (fun _ _=>False) (EY n) where
 len:=Fw
 forest:=gc.range n
 conn:=fun x r h=>by
  have hx:x<n:=by have:=h.lt;rw[Fw]at this;exact this
  rw[h.inj (dj.range hx)];exact .refl x
 same:=fun _ _ h=>h.elim
end KF
end
section
namespace L2
open KF
section
variable{α β γ:Type}[DecidableEq α][DecidableEq β][DecidableEq γ]
theorem rY{ks:List α}{i:Nat}{k:α}(h:ks[i]?=some k):ks[ks.idxOf k]?=some k:=by
 rw[EG (K4 (E2 h)),K8]
theorem qa{ks:List α}{i:Nat}{k:α}(h:ks[i]?=some k):(bz ks)[i]?=some (ks.idxOf k):=by unfold bz;rw[EO,h];rfl
theorem jR{l:List α}{i:Nat}(h:i<l.length):∃x,l[i]?=some x:=⟨_,EG h⟩
theorem jl{ks:List α}{i j:Nat}(hi:i<ks.length)(hj:j<ks.length):(bz ks)[i]?=(bz ks)[j]?↔ks[i]?=ks[j]?:=by
 obtain⟨k,hk⟩:=jR hi;obtain⟨l,hL⟩:=jR hj;rw[qa hk,qa hL,hk,hL];constructor
 ·intro e
  rw[<-rY hk,<-rY hL,Fd e]
 ·intro e
  rw[Fd e]
theorem xL{ks:List α}{i m:Nat}(h:(bz ks)[i]?=some m):ks[m]?=ks[i]?/\m<=i/\i<ks.length:=by
 obtain⟨k,hk,rfl,hle⟩:=vt h;exact⟨(rY hk).trans hk.symm,hle,(EK.mp hk).1⟩
theorem BN{v:List α}{as:List β}(hl:v.length=as.length){i j:Nat}(hi:i<v.length)(hj:j<v.length):(v.zip as)[i]?=(v.zip as)[j]?↔v[i]?=v[j]?/\as[i]?=as[j]?:=by
 obtain⟨x,hx⟩:=jR hi;obtain⟨y,hy⟩:=jR hj;obtain⟨a,ha⟩:=jR (l:=as) (i:=i) (by omega);obtain⟨b,hb⟩:=jR (l:=as) (i:=j) (by omega);have e1:(v.zip as)[i]?=some (x,a):=by rw[HW];exact⟨hx,ha⟩
 have e2:(v.zip as)[j]?=some (y,b):=by rw[HW];exact⟨hy,hb⟩
 rw[e1,e2,hx,hy,ha,hb];simp only[Ft.injEq,Prod.mk.injEq]
end
end L2
end
section
namespace L2
open PySem
section
variable(ws:List (List Nat))(a b e:Int)(num:List Int->Nat)
noncomputable def Fr(i:Nat):Prop:=∃(j:Nat)(wi wj:List Nat),ws[i]?=some wi/\ws[j]?=some wj/\aq wj b=aq wi b/\num (aq wj a)=num (aq wi a)/\aq wj a≠aq wi a
noncomputable def Th(i:Nat):Prop:=∃(wi:List Nat)(c h:Nat),ws[i]?=some wi/\wi[c]?=some h/\(h:Int)≠e/\∀(j:Nat)(wj:List Nat),ws[j]?=some wj->aq wj e=aq wi e->num (aq wj a)=num (aq wi a)->wj[c]?=some h
end
inductive FR
 |ok
 |friend (d:Nat)
 |third (d:Nat)
noncomputable def Db(ws:List (List Nat))(a b e:Int)(num:List Int->Nat):FR->Prop
 | .ok=>∀i,i<ws.length->¬Fr ws a b num i/\¬Th ws a e num i
 | .friend d=>d<ws.length/\Fr ws a b num d/\∀i,i<d->¬Fr ws a b num i/\¬Th ws a e num i
 | .third d=>d<ws.length/\¬Fr ws a b num d/\Th ws a e num d/\∀i,i<d->¬Fr ws a b num i/\¬Th ws a e num i
section
variable{ws:List (List Nat)}{a b e:Int}{num num':List Int->Nat}
noncomputable def FR.at:FR->Nat
 | .ok=>0
 | .friend d=>d
 | .third d=>d
end
theorem zx(w: List Nat)(h: Nat): (aq w (h: Int)).length= w.count h:= by
  unfold aq iX;rw[EI];have: ∀w: List Nat, ((EY w.length).filter fun j=> decide ((w.map fun(s: Nat)=> ((s: Nat): Int))[j]? = some (h: Int))).length= w.count h:= by
    have go: ∀(n: Nat)(w: List Nat), w.length= n → ((EY w.length).filter fun j=> decide ((w.map fun(s: Nat)=> ((s: Nat): Int))[j]? = some (h: Int))).length= w.count h:= by
     intro n
     induction n with
     |zero=> intro w hw;rw[JP.mp hw];rfl
     |succ n ih0=>
      intro w' hw';obtain⟨w, x, rfl⟩: ∃v x, w'= v++[x]:= ⟨w'.dropLast, w'.getLast (by intro e;rw[e]at hw';simp at hw'), (List.dropLast_concat_getLast _).symm⟩;have ih:= ih0 w (by simp at hw';exact hw');rw[EX, Kc, GI, HJ, EX, JV]
      congr 1
      · rw [← ih]
        congr 1
        refine JW fun c hc=> ?_;have hc':= Ff.mp hc;rw[ET, Gb (by rw[EI];exact hc')]
      · rw [ET, Ja]
        have: ((w.map fun(s: Nat)=> ((s: Nat): Int))++[x].map fun(s: Nat)=> ((s: Nat): Int))[w.length]? = some (x: Int):= by
          rw[FN (by rw[EI];exact EM _), EI, HI];rfl
        rw[this];by_cases e: x= h
        · subst e;simp
        · have : ¬ (x : Int) = (h : Int) := by omega
          simp[e, this, Mq]
    exact fun w=> go _ w rfl
  exact this w
noncomputable def rZ(n bits:Nat):List Int:=((EY n).filter fun c=>bits/2^c%2==1).map fun(c:Nat)=>(c:Int)
noncomputable def oX(n size:Nat):List (List Int):=((EY (2^n)).map (rZ n)).filter fun x=>decide (x.length=size)
theorem r0(p:Nat->Bool):∀n:Nat,∃m,m<2^n/\∀c,c<n->(m/2^c%2==1)=p c
 |0=>⟨0,by decide,fun c h=>by omega⟩
 |n+1=>by
  obtain⟨m,hm,h⟩:=r0 p n;have tb:∀(x c:Nat),(x/2^c%2==1)=x.testBit c:=fun x c=>by rw[Nat.testBit_eq_decide_div_mod_eq];rfl
  cases hp:p n with
  |false=>
   refine⟨m,by rw[LR];omega,fun c hc=>?_⟩;rcases FK.mp hc with hc|hc
   ·exact h c hc
   ·subst hc
    rw[tb,My hm,hp]
  |true=>
   refine⟨2^n+m,by rw[LR];omega,fun c hc=>?_⟩;rcases FK.mp hc with hc|hc
   ·rw[tb,Nat.testBit_two_pow_add_gt hc,<-tb];exact h c hc
   ·subst hc
    rw[tb,Nat.testBit_two_pow_add_eq,My hm,hp];rfl
theorem zy{w:List Nat}{n size:Nat}{a:Nat}(hl:w.length=n)(hc:w.count a=size):aq w (a:Int)∈oX n size:=by
 obtain⟨m,hm,h⟩:=r0 (fun c=>decide ((w.map fun(s:Nat)=>((s:Nat):Int))[c]?=some (a:Int))) n;have e:aq w (a:Int)=rZ n m:=by
  unfold aq iX rZ;rw[hl]
  congr 1
  exact(JW fun c hc=>h c (Ff.mp hc)).symm
 refine Gv.mpr ⟨?_,decide_eq_true (by rw[zx,hc])⟩;rw[e];exact List.mem_map_of_mem (Ff.mpr hm)
structure eX(L:List (List (List Int)))(hs:List (List Int))(num:List Int->Nat):Prop where
 mem:∀i l,L[i]?=some l->∀x∈l,x∈hs/\num x=i
 all:∀x∈hs,∃l,L[num x]?=some l/\x∈l
section
variable{room:List Nat}{c:Nat}
theorem nR{w:List Nat}(hs:room.sum=c)(h:w∈KM.aP room c):w.length=c/\(∀j∈w,j<room.length)/\∀j,j<room.length->w.count j=room.getD j 0:=by
 have B:=KM.eV room c w h;refine⟨B.len,B.all,?_⟩;subst hs;exact KM.rO B
end
end L2
end
namespace L2
open PySem PyProof.Rows
noncomputable def r6:V->List V->Hp->VK->Prop:=fun x ys H Q=>∃a f n k y,x=.ref a/\ys=[y]/\Dx H a false f n/\bw H y k/\cZ k=false/\Q ((f k).getD .non) H
theorem BO{H:Hp}{Q:VK}{a:Addr}{f:MK->Option V}{n:Nat}{k:MK}{y:V}(d:Dx H a false f n)(hk:bw H y k)(hs:cZ k=false)(h:Q ((f k).getD .non) H):r6 (.ref a) [y] H Q:=⟨a,f,n,k,y,rfl,rfl,d,hk,hs,h⟩
noncomputable def vJ(K:Fg):List V->Hp->VK->Prop:=fun xs H Q=>∃(p:Addr)(ns:List Int),xs=[.ref p]/\SqT K H p (ns.map V.int)/\Q (.int ns.sum) H
theorem xM{K:Fg}{H:Hp}{Q:VK}{p:Addr}{ns:List Int}(e:SqT K H p (ns.map V.int))(h:Q (.int ns.sum) H):vJ K [.ref p] H Q:=⟨p,ns,rfl,e,h⟩
noncomputable def isN:V->Bool
 | .non=>true
 |_=>false
noncomputable def iK:R2:=fun x y H Q=>y=.non/\Q (.bl (isN x)) H
noncomputable def kr:R2:=fun x y H Q=>y=.non/\Q (.bl (!isN x)) H
theorem i3{x:V}{H:Hp}{Q:VK}(h:Q (.bl (isN x)) H):iK x .non H Q:=⟨rfl,h⟩
theorem qb{x:V}{H:Hp}{Q:VK}(h:Q (.bl (!isN x)) H):kr x .non H Q:=⟨rfl,h⟩
theorem cT{α:Type}{ks:List α}{i:Nat}{k:α}(hk:ks[i]?=some k):ks.take (i+1)=ks.take i++[k]:=by
 rw[HS,hk];rfl
theorem eG{α β:Type}{R:α->β->Prop}{x:α}{y:β}:∀{xs:List α} {ys:List β},Paired R xs ys->R x y->Paired R (xs++[x]) (ys++[y])
 |_,_,.nil,q=>.cons q .nil
 |_,_,.cons r t,q=>.cons r (eG t q)
theorem xN{α β:Type}{R:α->β->Prop}:∀{xs:List α} {ys:List β},Paired R xs ys->∀{i:Nat} {y:β},ys[i]?=some y->∃x,xs[i]?=some x/\R x y
 |_,_,.nil,i,x,e=>by cases e
 |_,_,.cons r t,0,x,e=>by cases e;exact⟨_,rfl,r⟩
 |_,_,.cons r t,i+1,x,e=>xN t e
theorem bZ{rs:List Addr}{i:Nat}{x:V}(hx:(rs.map V.ref)[i]?=some x):∃a,rs[i]?=some a/\x=.ref a:=by
 rw[EO]at hx;cases h:rs[i]? with
 |none=>rw[h]at hx;cases hx
 |some a=>rw[h]at hx;cases hx;exact⟨a,rfl,rfl⟩
theorem bu{rs:List Addr}{i:Nat}{a:Addr}(h:rs[i]?=some a):atI (rs.map V.ref) (i:Int)=some (.ref a):=fK (by rw[EO,h];rfl)
section
variable{α:Type}{f:α->List V}{H H' H2 H5:Hp}{p r:Addr}{rs:List Addr}{fs:List α}{v:α}
noncomputable def LsP(f:α->List V)(H:Hp)(rs:List Addr)(fs:List α):Prop:=Paired (fun(a:Addr)(v:α)=>H a=some (.lst (f v))) rs fs
noncomputable def r9(f:α->List V)(H:Hp)(p:Addr)(fs:List α):Prop:=∃rs:List Addr,H p=some (.lst (rs.map V.ref))/\LsP f H rs fs
theorem LsP.same(h:LsP f H rs fs)(s:ak H H'):LsP f H' rs fs:=Paired.mapP h fun _ _ q=>s _ _ q
theorem r9.same(h:r9 f H p fs)(s:ak H H'):r9 f H' p fs:=let⟨rs,e,q⟩:=h;⟨rs,s _ _ e,q.same s⟩
noncomputable def jm(f:α->List V)(p:Addr)(H:Hp)(rs:List Addr)(fs:List α):Prop:=Paired (fun(a:Addr)(v:α)=>a≠p/\H a=some (.lst (f v))) rs fs
theorem jm.same(h:jm f p H rs fs)(s:ak H H'):jm f p H' rs fs:=Paired.mapP h fun _ _ q=>⟨q.1,s _ _ q.2⟩
theorem jm.off(h:jm f p H rs fs)(o:Off p H H'):jm f p H' rs fs:=Paired.mapP h fun _ _ q=>⟨q.1,by rw[o _ q.1];exact q.2⟩
theorem LsP.len(h:LsP f H rs fs):rs.length=fs.length:=Im h
theorem jm.len(h:jm f p H rs fs):rs.length=fs.length:=Im h
theorem LsP.of(h:LsP f H rs fs){i:Nat}{v:α}(e:fs[i]?=some v):∃a,rs[i]?=some a/\H a=some (.lst (f v)):=xN h e
end
section
variable{α:Type}{f:α->List V}{g:CF TG}{tt:CF TT}{te:CF TE}{σ₀:St}{Q:VK}{H:Hp}{K:Fg}
end
end L2
section
namespace L2
open PySem
noncomputable def zA(t1 t2:String):Bool:=t1==t2||(t1=="bool"&&t2=="int")
noncomputable def xO:List String:=["NoneType","bool","int","str","tuple","list","dict"]
noncomputable def uC:List String:=["bool","int","str","tuple","list"]
theorem Dc{K:Fg}{t1 t2:String}{b:Bool}(h:(if(FE t1==FE t2)=true then some true else if Mo t2=true then(ME t1).map (·.contains (.type t2))else none)=some b):Gk K (.type t1) (.type t2)=some b:=h
theorem BP(K:Fg):∀t1∈xO,∀t2∈uC,Gk K (.type t1) (.type t2)=some (zA t1 t2):=by
 have go:∀t1∈xO,∀t2∈uC,(if(FE t1==FE t2)=true then some true else if Mo t2=true then(ME t1).map (·.contains (.type t2))else none)=some (zA t1 t2):=by decide+kernel
 exact fun t1 h1 t2 h2=>Dc (go t1 h1 t2 h2)
end L2
end
namespace L2
open PySem PyProof.Rows
section
variable{K:Fg}{vs:List V}{H:Hp}{Q:VK}{E:XK}
noncomputable abbrev blL(bs:List Bool):List V:=bs.map V.bl
structure zB(H:Hp)(p b c:Addr)(rows:List (List Bool))(gs:List Int)(ds:List Nat)(m:Nat):Prop where
 asks:r9 blL H p rows
 goal:H b=some (.lst (gs.map V.int))
 some_:H c=some (.lst (ap ds))
 six:rows.length<=6
 four:13<=m->rows.length<=4
 row:∀r∈rows,r.length=m
 gl:gs.length=m
 m0:0<m
 m60:m<=60
 dl:ds.length<=60
 d0:ds≠[]
 dm:∀d∈ds,d<m
theorem zB.same{H H':Hp}{p b c:Addr}{rows:List (List Bool)}{gs:List Int}{ds:List Nat}{m:Nat}(h:zB H p b c rows gs ds m)(s:ak H H'):zB H' p b c rows gs ds m:=
 ⟨h.asks.same s,s _ _ h.goal,s _ _ h.some_,h.six,h.four,h.row,h.gl,h.m0,h.m60,h.dl,h.d0,h.dm⟩
end
end L2
section
namespace L2
noncomputable def okA(d:Nat)(p:List Bool×Option Bool):Bool:=match p.2 with
 |none=>true
 |some a=>p.1.getD d false==a
noncomputable def okS(rows:List (List Bool))(st:List (Option Bool))(d:Nat):Bool:=(rows.zip st).all (okA d)
noncomputable def Dd(rows:List (List Bool))(i k:Nat):Bool:=(rows.getD i []).getD k false
noncomputable def Es(st:List (Option Bool)):Nat:=st.count none
noncomputable def se(gs:List Int)(ds:List Nat):Prop:=∀a∈ds,∀b∈ds,gs.getD a 0=gs.getD b 0
open Classical in
noncomputable def fwN(rows:List (List Bool))(gs:List Int)(ds:List Nat):Nat->List (Option Bool)->Option Nat
 |0,st=>if se gs (ds.filter (okS rows st))then some 0 else none
 |u+1,st=>if se gs (ds.filter (okS rows st))then some 0 else
  ((EY st.length).filterMap fun k=>if st[k]?=some none then(match fwN rows gs ds u (st.set k (some true)),fwN rows gs ds u (st.set k (some false))with
   |some a,some b=>some (1+max a b)
   |_,_=>none)else none).min?
noncomputable def vK(rows:List (List Bool))(gs:List Int)(ds:List Nat)(st:List (Option Bool)):Option Nat:=fwN rows gs ds (Es st) st
noncomputable def EE(rows:List (List Bool))(gs:List Int)(ds:List Nat)(st:List (Option Bool))(k:Nat):Option Nat:=
 if st[k]?=some none then(match vK rows gs ds (st.set k (some true)),vK rows gs ds (st.set k (some false))with
   |some a,some b=>some (1+max a b)
   |_,_=>none)else none
end L2
end
namespace L2
open PySem PyProof.Rows
section
variable{K:Fg}{vs:List V}{H:Hp}{Q:VK}{E:XK}
noncomputable def stV:Option Bool->V
 |none=>.non
 |some b=>.bl b
theorem jS{ds:List Nat}{i:Nat}{x:V}(h:(ap ds)[i]?=some x):∃d:Nat,ds[i]?=some d/\x=.int (d:Int):=by
 unfold ap at h;rw[EO]at h;cases e:ds[i]? with
 |none=>rw[e]at h;cases h
 |some s=>rw[e]at h;cases h;exact⟨s,rfl,rfl⟩
end
end L2
section
namespace L2
noncomputable def jn(rows:List (List Bool))(gs:List Int):Nat->List Nat->Prop
 |0,ds=>se gs ds
 |n+1,ds=>se gs ds\/∃k,k<rows.length/\jn rows gs n (ds.filter fun d=>Dd rows k d==true)/\jn rows gs n (ds.filter fun d=>Dd rows k d==false)
section
variable{rows rows':List (List Bool)}{gs gs':List Int}
theorem jn.more{ds:List Nat}{n:Nat}(h:jn rows gs n ds):jn rows gs (n+1) ds:=by
 induction n generalizing ds with
 |zero=>exact .inl h
 |succ n ih=>
  rcases h with h|⟨k,hk,h1,h2⟩
  ·exact .inl h
  ·exact .inr ⟨k,hk,ih h1,ih h2⟩
theorem jn.le{ds:List Nat}{n m:Nat}(h:jn rows gs n ds)(l:n<=m):jn rows gs m ds:=by
 induction l with
 |refl=>exact h
 |step _ ih=>exact ih.more
end
noncomputable def EB(rows:List (List Bool))(gs:List Int)(ds:List Nat):Option Nat:=vK rows gs ds (KG rows.length none)
section
variable{rows rows':List (List Bool)}{gs gs':List Int}{ds ds':List Nat}
noncomputable def sf(a b:Option Nat):Prop:=∀m,b=some m->∃m',a=some m'/\m'<=m
theorem sf.eq{a b: Option Nat}(h1: sf a b)(h2: sf b a): a= b:= by
  cases a with
  |none=> cases b with
    |none=> rfl
    |some m=> obtain⟨m', e, _⟩:= h1 m rfl;cases e
  | some n => obtain ⟨m, e, l⟩ := h2 n rfl
              obtain⟨n', e2, l2⟩:= h1 m e;cases e2;rw[e, Nat.le_antisymm l2 l]
end
end L2
end
namespace L2
open PySem PyProof.Rows
section
variable{K:Fg}{vs:List V}{H:Hp}{Q:VK}{E:XK}
noncomputable def d7:Option Nat->V
 |none=>.non
 |some n=>.int (n:Int)
theorem uD(o:Option Nat):isN (d7 o)=o.isNone:=by cases o<;>rfl
noncomputable def iaO:Option Bool->IA
 |none=>none
 |some b=>some (if b then 1 else 0)
noncomputable def zC(st:List (Option Bool)):MK:=.inr (st.map fun s=>(G4 (iaO s):IK))
noncomputable def fm(d:Addr)(H H':Hp):Prop:=∀b u,b≠d->H b=some u->H' b=some u
theorem fm.refl(d:Addr)(H:Hp):fm d H H:=fun _ _ _ h=>h
theorem fm.trans{d:Addr}{H H1 H2:Hp}(a:fm d H H1)(b:fm d H1 H2):fm d H H2:=fun x u n h=>b x u n (a x u n h)
section
variable{H H':Hp}{d:Addr}{s:Bool}{f:MK->Option V}{n:Nat}
theorem fm.lst(x:fm d H H')(D:Dx H d s f n){a:Addr}{xs:List V}(e:H a=some (.lst xs)):H' a=some (.lst xs):=x a _ (D.ne_lst e) e
theorem fm.tup(x:fm d H H')(D:Dx H d s f n){a:Addr}{xs:List V}(e:H a=some (.tup xs)):H' a=some (.tup xs):=x a _ (D.ne_tup e) e
theorem fm.same(x:fm d H H')(D:Dx H d s f n){H0:Hp}(s0:ak H0 H)(h:H0 d=none):ak H0 H':=fun b u q=>x b u (aT q h) (s0 b u q)
end
noncomputable def Et(st:List (Option Bool))(f:MK->Option V)(i:Nat):Prop:=∀k a,k<i->st[k]?=some none->(f (zC (st.set k (some a)))).isSome
noncomputable def vL(rows:List (List Bool))(gs:List Int)(ds:List Nat)(f:MK->Option V):Prop:=(∀(st:List (Option Bool))(v:V),st.length=rows.length->f (zC st)=some v->v=d7 (vK rows gs ds st))/\∀st:List (Option Bool),st.length=rows.length->(f (zC st)).isSome->¬se gs (ds.filter (okS rows st))->Et st f st.length
theorem vL.none(rows:List (List Bool))(gs:List Int)(ds:List Nat):vL rows gs ds (fun _=>.none):=⟨fun _ _ _ h=>(by cases h),fun _ _ h=>(by cases h)⟩
noncomputable def Ext(f f':MK->Option V):Prop:=∀k,(f k).isSome->(f' k).isSome
theorem Ext.refl(f:MK->Option V):Ext f f:=fun _ h=>h
theorem Ext.trans{f g h:MK->Option V}(a:Ext f g)(b:Ext g h):Ext f h:=fun k z=>b k (a k z)
theorem uE(n d k:Nat):HT.sIx n d (some (k:Int))=min k n:=by
 show(if(k:Int)<0 then((k:Int)+(n:Int)).toNat else min ((k:Int).toNat) n)=min k n;rw[if_neg (by omega),IF]
theorem zD(xs:List V)(k:Nat)(h:k<=xs.length):eN xs none (some (k:Int))=xs.take k:=by
 unfold eN;rw[uE,show HT.sIx xs.length 0 none=0 from rfl,List.drop_zero,LP,Iv h]
theorem zE(xs:List V)(k:Nat)(h:k<=xs.length):eN xs (some (k:Int)) none=xs.drop k:=by
 unfold eN;rw[uE,show HT.sIx xs.length xs.length none=xs.length from rfl,Iv h,Hy (by rw[Gz];exact EM _)]
structure EC(H:Hp)(p b c t d:Addr)(rows:List (List Bool))(gs:List Int)(ds:List Nat)(st:List (Option Bool))(f:MK->Option V)(m:Nat):Prop where
 asks:r9 blL H p rows
 goal:H b=some (.lst (gs.map V.int))
 left:H c=some (.lst (ap (ds.filter (okS rows st))))
 state:H t=some (.tup (st.map stV))
 dict:Dx H d true f m
 good:vL rows gs ds f
 sl:st.length=rows.length
 rl:rows.length<=6
 dl:ds.length<=500
 dr:∀x∈ds,∀r∈rows,x<r.length
 dg:∀x∈ds,x<gs.length
end
section
variable{K:Fg}{vs:List V}{H:Hp}{Q:VK}{E:XK}
theorem bN{α β:Type}{F:α->β->Prop}{l:List α}{m:List β}(h:Paired F l m):l.length=m.length:=by
 induction h with
 |nil=>rfl
 |cons _ _ ih=>rw[Fu,Fu,ih]
theorem bT{α β:Type}{F:α->β->Prop}{l:List α}{m:List β}(h:Paired F l m):∀{i:Nat} {x:α},l[i]?=some x->∃y,m[i]?=some y/\F x y:=by
 induction h with
 |nil=>intro i x e;cases e
 |cons q _ ih=>
  intro i x e;cases i with
  |zero=>cases e;exact⟨_,rfl,q⟩
  |succ i=>exact ih e
noncomputable def gf(H:Hp)(l:Addr)(xs:List (List Int)):Prop:=∃ts:List Addr,H l=some (.lst (ts.map V.ref))/\Paired (fun(t:Addr)(x:List Int)=>H t=some (.tup (x.map V.int))) ts xs
theorem gf.same{H H':Hp}(s:ak H H'){l:Addr}{xs:List (List Int)}(h:gf H l xs):gf H' l xs:=let⟨ts,e,p⟩:=h;⟨ts,s _ _ e,Paired.mapP p fun _ _ q=>s _ _ q⟩
noncomputable def cA(H:Hp)(p:Addr)(L:List (List (List Int))):Prop:=∃ls:List Addr,H p=some (.lst (ls.map V.ref))/\Paired (gf H) ls L
theorem cA.same{H H':Hp}(s:ak H H'){p:Addr}{L:List (List (List Int))}(h:cA H p L):cA H' p L:=let⟨ls,e,q⟩:=h;⟨ls,s _ _ e,Paired.mapP q fun _ _ x=>x.same s⟩
theorem AW{H:Hp}{t:Addr}{x:List Int}(e:H t=some (.tup (x.map V.int))):bw H (.ref t) (gM x):=by
 refine⟨t,_,rfl,e,?_⟩;have go:∀l:List Int,Paired (iB H) (l.map V.int) (l.map fun n=>(G4 (some n):IK)):=by
  intro l
  induction l with
  |nil=>exact .nil
  |cons s l ih=>exact .cons rfl ih
 exact go x
noncomputable def im(_:Fg):Sp:=fun vs H Q _=>∃(d p:Addr)(a:Int)(ws:List (List Nat))(L:List (List (List Int)))(hs:List (List Int))(num:List Int->Nat),vs=[.ref d,.ref p,.int a]/\bf H d ws/\cA H p L/\eX L hs num/\(∀w∈ws,aq w a∈hs/\w.length<=12)/\ws.length<=2000/\L.length<=1000/\(∀l∈L,l.length<=1000)/\
 ∀f H',H f=none->ak H H'->H' f=some (.lst (ap (ws.map fun w=>num (aq w a))))->Q (.ref f) H'
noncomputable def gh(K:Fg):TS:=(ax (aF jQ (aj 3))
 (ax (cp (gU bP K (aa (ae 1) ah)) (dP K 2 (be (aj 4) (be (aj 5) dO))) (cp (cJ K (ae 5)) (aj 6) (aF (ae 4) (uW (ae 3) (ae 6) qO))))
 (bj (bL (cJ K (ae 0)) (fun _ _ _ _=>(aj 0)) (fun _ _ _ _=>bB) (fun _ _ _ _=>(tOp qN (ae 1) (aJ (gY K) [] E0 (aa (ae 0) (aa (ae 2) ah))))) [none,some 3,some 2]))))
theorem qq(h:im K vs H Q E):gh K { nx:=fun _ H'=>Q .non H',rt:=Q } (start ["deals","words","a","numbers","number","word","holding"] vs) H:=by
 obtain⟨d,p,a,ws,L,hs,num,rfl,DA,⟨ls,ep,pl⟩,ok,hw,hwl,hLl,hll,q⟩:=h;show gh K _ [some _,some _,some _,none,none,none,none] _;unfold gh;have hlL:=bN pl;right;refine lF true fun k H1 hk s1 D1=>?_;nofun;refine bx ?_;nofun;refine jO (S:=bP) (ls.map V.ref) (SqL.of (s1 _ _ ep)) (fun i σ H2=>∃(u4 u5 u6:Option V)(f:MK->Option V),σ=[some (.ref d),some (.ref p),some (.int a),some (.ref k),u4,u5,u6]/\ak H H2/\Dx H2 k true f (i*1000)/\∀x∈hs,num x<i->f (gM x)=some (.int (num x:Int))) ⟨_,_,_,_,rfl,s1,D1,fun x _ h=>by omega⟩ ?_ ?_ ?_
 ·rintro i σ H2 hi ⟨u4,u5,u6,f,rfl,s2,D2,hf⟩
  exact SqL.of (s2 _ _ ep)
 ·rintro i x T σ H2 H3 hx ⟨u4,u5,u6,f,rfl,s2,D2,hf⟩ hT s3 e3
  obtain⟨l,hl,rfl⟩:=bZ hx;obtain⟨w,hwi,ts,el,pt⟩:=bT pl hl;have hiL:i<L.length:=(EK.mp hwi).1;have hw1:=hll w (E2 hwi);have htl:=bN pt;have s23:=s2.trans s3;right;refine dE (SqT.of e3) ?_;right;refine oU (ts.map V.ref) (SqL.of (s23 _ _ el)) (fun j σ H4=>∃(u6:Option V)(f':MK->Option V),σ=[some (.ref d),some (.ref p),some (.int a),some (.ref k),some (.int (i:Int)),some (.ref l),u6]/\ak H H4/\Dx H4 k true f' (i*1000+j)/\(∀x∈hs,num x<i->f' (gM x)=some (.int (num x:Int)))/\∀x∈w.take j,f' (gM x)=some (.int (i:Int))) ⟨_,f,rfl,s23,D2.same s3,hf,fun x h=>by cases h⟩ ?_ ?_ ?_
  ·rintro j σ H4 hj ⟨u6,f',rfl,s4,D4,hf',hg'⟩
   exact SqL.of (s4 _ _ el)
  ·rintro j x σ H4 hx ⟨u6,f',rfl,s4,D4,hf',hg'⟩
   obtain⟨t,ht,rfl⟩:=bZ hx;obtain⟨y,hy,et⟩:=bT pt ht;have hjl:j<w.length:=(EK.mp hy).1;obtain⟨hyh,hyn⟩:=ok.mem i w hwi y (E2 hy);right;refine xA D4 (AW (s4 _ _ et)) rfl (by rw[EL];omega) fun H5 o5 D5=>?_;refine⟨_,_,rfl,s4.off hk o5,D5,fun x hx hn=>?_,fun x hx=>?_⟩
   ·unfold dv
    by_cases e:gM x=gM y
    ·have:=rT _ _ e
     subst this;omega
    ·rw[if_neg e];exact hf' x hx hn
   ·unfold dv
    rw[cT hy]at hx;by_cases e:gM x=gM y
    ·rw[if_pos e]
    ·rw[if_neg e]
     rcases FC.mp hx with hx|hx
     ·exact hg' x hx
     ·exact absurd (by rw[E5.mp hx]) e
  ·rintro σ H4 ⟨u6,f',rfl,s4,D4,hf',hg'⟩
   rw[EI,htl,FT]at hg';rw[EI,htl]at D4;refine⟨_,_,_,f',rfl,s4,D4.le (by omega),fun x hx hn=>?_⟩;rcases FK.mp hn with hn|hn
   ·exact hf' x hx hn
   ·obtain⟨l',h1,h2⟩:=ok.all x hx
    rw[hn,hwi]at h1;cases h1;rw[hg' x h2,hn]
 ·rintro σ H2 ⟨u4,u5,u6,f,rfl,s2,D2,hf⟩
  rw[EI,hlL]at hf;obtain⟨rs,ed,pd⟩:=id DA;have hrl:=bN pd;right;refine gJ (rs.map V.ref) (SqL.of (s2 _ _ ed)) (by rw[EI];omega) (fun i acc _=>acc=ap ((ws.take i).map fun w=>num (aq w a))) (fun _ _=>rfl) ?_ ?_
  ·rintro w hwn C s' H' fp i x acc H3 hx ⟨s3,e3,l3,rfl⟩
   obtain⟨r,hr,rfl⟩:=bZ hx;obtain⟨v,hv,ev⟩:=bT pd hr;obtain⟨hvh,hv12⟩:=hw v (E2 hv);have ev3:H3 r=some (.tup ((v.map fun(s:Nat)=>((s:Nat):Int)).map V.int)):=by rw[<-fP];exact s3 _ _ (s2 _ _ ev)
   right;refine⟨r,_,a,rfl,SqT.of ev3,by rw[EI];omega,fun t H4 s4 e4=>?_⟩;rw[EI]at e4;have e4':H4 t=some (.tup ((aq v a).map V.int)):=e4;obtain⟨l',h1,_⟩:=ok.all _ hvh;refine xz ((D2.same s3).same s4) (AW e4') rfl (hf _ hvh (EK.mp h1).1) ?_;refine aW.put hwn (fun _ _ _ _ r _=>r) (s3.trans s4) (s4 _ _ e3) l3 ?_;rw[cT hv,ET];show _=ap (_++[num (aq v a)]);rw[<-jk]
  ·rintro w acc H3 hwn s3 e3 rfl
   rw[EI,hrl,FT]at e3;exact q w H3 (s2.free hwn) (s2.trans s3) e3
noncomputable def sg(v:List Nat):Prop:=∀(i m:Nat),v[i]?=some m->v[m]?=some m/\m<=i
noncomputable def bI(P:Nat->Prop)(j:Nat):Prop:=P j/\∀t,t<j->¬P t
theorem bI.uniq{P P':Nat->Prop}(h:∀t,P t↔P' t){j j':Nat}(a:bI P j)(b:bI P' j'):j=j':=by
 rcases GG j j' with z|z|z
 ·exact absurd ((h j).mp a.1) (b.2 j z)
 ·exact z
 ·exact absurd ((h j').mpr b.1) (a.2 j' z)
theorem bI.of{P P':Nat->Prop}(h:∀t,P t↔P' t){j:Nat}(a:bI P j):bI P' j:=⟨(h j).mp a.1,fun t ht z=>a.2 t ht ((h t).mpr z)⟩
noncomputable def UnP(v o:List Nat)(i j:Nat):Prop:=j<v.length/\v[j]?=v[i]?/\o[j]?≠o[i]?
theorem nU{α:Type}[DecidableEq α](ks:List α):sg (bz ks):=fun i m h=>by
 obtain⟨h1,h2,h3⟩:=xL h;have hm:m<ks.length:=by omega
 refine⟨?_,h2⟩;rw[<-h];exact(jl hm h3).mpr h1
noncomputable def d8(m:Nat):MK:=.inl (some (m:Int))
theorem si{a b:Nat}(h:d8 a=d8 b):a=b:=by
 unfold d8 at h;injection h with h
 injection h with h
 omega
noncomputable def gk(_:Fg):Sp:=fun vs H Q _=>∃(a b:Addr)(v o:List Nat),vs=[.ref a,.ref b]/\H a=some (.lst (ap v))/\H b=some (.lst (ap o))/\v.length=o.length/\v.length<=2000/\sg v/\
 ∀f (xs:List (Option Nat)) H',H f=none->ak H H'->H' f=some (.lst (xs.map d7))->xs.length=v.length->(∀i,i<v.length->(xs[i]?=some none↔∀j,j<v.length->v[j]?=v[i]?->o[j]?=o[i]?))->(∀i j,xs[i]?=some (some j)->bI (UnP v o i) j)->Q (.ref f) H'
noncomputable def eI(K:Fg):TS:=(ax (aF jQ (aj 2))
 (ax (cp (gU bP K (aa (ae 0) ah)) (dP K 2 (be (aj 3) (be (aj 4) dO))) (ck (bA (tOp rNe (tOp (aU K) (ae 1) (ae 3)) (tOp (aU K) (ae 1) (ae 4)))) (gT (tXM nH (ae 2) (aa (ae 4) (aa (ae 3) ah)))) bH))
 (bj (bL (gU bP K (aa (ae 0) ah)) (fun _ _ _ _=>(dP K 2 (be (aj 0) (be (aj 1) dO)))) (fun _ _ _ _=>bB) (fun _ _ _ _=>(tIf (bA (tOp rEq (tOp (aU K) (ae 2) (ae 0)) (tOp (aU K) (ae 2) (ae 1)))) (tXM r6 (ae 3) (aa (ae 1) ah)) (ae 1))) [none,none,some 1,some 2]))))
theorem iL{ds:List Nat}{i:Nat}(h:i<ds.length):atI (ap ds) (i:Int)=some (.int (ds.getD i 0:Int)):=fK (by unfold ap;rw[EO,ER,EG h];rfl)
theorem ie{ds:List Nat}{i:Nat}(h:i<ds.length):ds[i]?=some (ds.getD i 0):=by rw[ER,EG h];rfl
theorem nV(h:gk K vs H Q E):eI K { nx:=fun _ H'=>Q .non H',rt:=Q } (start ["view","other_view","unlike","thing","least"] vs) H:=by
 obtain⟨a,b,v,o,rfl,ea,eb,hl,hv,iv,q⟩:=h;show eI K _ [some _,some _,none,none,none] _;unfold eI;have lt:∀{i m:Nat},v[i]?=some m->m<v.length:=fun{i m} h=>(EK.mp (iv i m h).1).1;right;refine lF false fun k H1 hk s1 D1=>?_;nofun;refine bx ?_;nofun;refine jO (S:=bP) (ap v) (SqL.of (s1 _ _ ea)) (fun i σ H2=>∃(u3 u4:Option V)(f:MK->Option V),σ=[some (.ref a),some (.ref b),some (.ref k),u3,u4]/\ak H H2/\Dx H2 k false f i/\(∀m x,f (d8 m)=some x->∃n:Nat,x=.int (n:Int)/\n<v.length/\v[n]?=some m/\o[n]?≠o[m]?/\∀t,t<n->v[t]?=some m->o[t]?=o[m]?)/\∀m,(f (d8 m)).isSome=true↔∃t,t<i/\v[t]?=some m/\o[t]?≠o[m]?) ⟨_,_,_,rfl,s1,D1,(fun m x h=>by cases h),fun m=>⟨fun h=>(by cases h),fun⟨t,h,_⟩=>(by omega)⟩⟩ ?_ ?_ ?_
 ·rintro i σ H2 hi ⟨u3,u4,f,rfl,s2,D2,hx,hf⟩
  exact SqL.of (s2 _ _ ea)
 ·rintro i x T σ H2 H3 hxi ⟨u3,u4,f,rfl,s2,D2,hx,hf⟩ hT s3 e3
  obtain⟨m,hm,rfl⟩:=jS hxi;have hil:i<v.length:=(EK.mp hm).1;have hml:=lt hm;have s23:=s2.trans s3;have eb3:=s23 _ _ eb;right;refine dE (SqT.of e3) ?_;right;refine aL (SqL.of eb3) (iL (by omega)) ?_;right;refine aL (SqL.of eb3) (iL (by omega)) ?_;right;have cmp:(((o.getD i 0:Nat):Int)=((o.getD m 0:Nat):Int))↔o[i]?=o[m]?:=by
   rw[ie (show i<o.length by omega),ie (show m<o.length by omega)];constructor
   ·intro h;rw[show o.getD i 0=o.getD m 0 by omega]
   ·intro h;injection h with h;omega
  have step:∀m',(∃t,t<i+1/\v[t]?=some m'/\o[t]?≠o[m']?)↔(∃t,t<i/\v[t]?=some m'/\o[t]?≠o[m']?)\/(m'=m/\o[i]?≠o[m]?):=fun m'=>by
   constructor
   ·rintro⟨t,h1,h2,h3⟩
    rcases FK.mp h1 with h|h
    ·exact .inl ⟨t,h,h2,h3⟩
    ·subst h
     rw[hm]at h2;cases h2;exact .inr ⟨rfl,h3⟩
   ·rintro(⟨t,h1,h2,h3⟩|⟨rfl,h⟩)
    ·exact⟨t,by omega,h2,h3⟩
    ·exact⟨i,by omega,hm,h⟩
  refine mI (fun hne=>?_) (fun heq=>?_)
  ·have hne':o[i]?≠o[m]?:=fun z=>hne (cmp.mpr z)
   right;refine zm ?_;right;refine⟨⟨k,false,f,i,rfl,D2.same s3⟩,?_⟩;right;refine uy (y:=.int (m:Int)) (k:=d8 m) (D2.same s3) (show bw H3 (.int (m:Int)) (d8 m)from rfl) rfl (by rw[EL];omega) (fun u hu=>?_) (fun hn H4 o4 D4=>?_)
   ·right
    refine⟨_,_,f,rfl,s23,(D2.same s3).le (by omega),hx,fun m'=>?_⟩;rw[step,hf m'];constructor
    ·exact .inl
    ·rintro(h|⟨rfl,_⟩)
     ·exact h
     ·exact(hf m').mp (by rw[hu];rfl)
   ·right
    refine⟨_,_,_,rfl,s23.off hk o4,D4,fun m' x hx'=>?_,fun m'=>?_⟩
    ·unfold dv at hx'
     by_cases e:d8 m'=d8 m
     ·rw[if_pos e]at hx';cases hx';obtain rfl:=si e;exact⟨i,rfl,hil,hm,hne',fun t ht hvt=>Gd fun h=>by have:=(hf m').mpr ⟨t,ht,hvt,h⟩;rw[hn]at this;cases this⟩
     ·rw[if_neg e]at hx';exact hx m' x hx'
    ·unfold dv
     rw[step];by_cases e:d8 m'=d8 m
     ·rw[if_pos e]
      exact⟨fun _=>.inr ⟨si e,hne'⟩,fun _=>rfl⟩
     ·rw[if_neg e,hf m']
      constructor
      ·exact .inl
      ·rintro(h|⟨rfl,_⟩)
       ·exact h
       ·exact absurd rfl e
  ·have heq':=cmp.mp heq
   right;refine⟨_,_,f,rfl,s23,(D2.same s3).le (by omega),hx,fun m'=>?_⟩;rw[step,hf m'];constructor
   ·exact .inl
   ·rintro(h|⟨_,h⟩)
    ·exact h
    ·exact absurd heq' h
 ·rintro σ H2 ⟨u3,u4,f,rfl,s2,D2,hx,hf⟩
  rw[bi]at hf;right;refine BM (S:=bP) (ap v) (SqL.of (s2 _ _ ea)) (fun H' s=>s.seq (SqL.of (s2 _ _ ea))) (by rw[bi];omega) (fun i acc _=>∃xs:List (Option Nat),acc=xs.map d7/\xs.length=i/\(∀t,t<i->(xs[t]?=some none↔∀j,j<v.length->v[j]?=v[t]?->o[j]?=o[t]?))/\∀t j,t<i->xs[t]?=some (some j)->bI (UnP v o t) j) (fun _ _=>⟨[],rfl,rfl,fun t h=>by omega,fun t j h=>by omega⟩) ?_ ?_
  ·rintro w hw C s' H' fp i x T acc H3 H4 hxi ⟨s3,e3,l3,xs,rfl,hxl,hxs,hxm⟩ hT s4 e4 e5
   obtain⟨m,hm,rfl⟩:=jS hxi;have hil:i<v.length:=(EK.mp hm).1;have hml:=lt hm;have hvm:=(iv i m hm).1;have s34:=s3.trans s4;have eb4:=s34 _ _ (s2 _ _ eb);have put:∀(z:Option Nat),(z=none↔∀j,j<v.length->v[j]?=v[i]?->o[j]?=o[i]?)->(∀j,z=some j->bI (UnP v o i) j)->H4 w=some (.lst (xs.map d7))/\aW H2 w (fun i acc _=>∃xs:List (Option Nat),acc=xs.map d7/\xs.length=i/\(∀t,t<i->(xs[t]?=some none↔∀j,j<v.length->v[j]?=v[t]?->o[j]?=o[t]?))/\∀t j,t<i->xs[t]?=some (some j)->bI (UnP v o t) j) (i+1) (xs.map d7++[d7 z]) (upd H4 w (.lst (xs.map d7++[d7 z]))):=by
    intro z hz hzm;refine aW.put hw (fun _ _ _ _ r _=>r) s34 e5 l3 ⟨xs++[z],by rw[ET];rfl,by rw[EX,hxl];rfl,fun t ht=>?_,fun t j ht hj=>?_⟩
    rotate_left
    ·rcases FK.mp ht with h|h
     ·rw[Gb (by omega)]at hj;exact hxm t j h hj
     ·rw[h,FN (by omega),hxl,HI]at hj
      rw[h];exact hzm j (by injection hj)
    rcases FK.mp ht with h|h
    ·rw[Gb (by omega)];exact hxs t h
    ·rw[h,FN (by omega),hxl,HI]
     rw[<-hz];exact⟨fun q=>by injection q,fun q=>by rw[q];rfl⟩
   right;refine dE (SqT.of e4) ?_;right;refine aL (SqL.of eb4) (iL (by omega)) ?_;right;refine aL (SqL.of eb4) (iL (by omega)) ?_;right;have cmp:(((o.getD i 0:Nat):Int)=((o.getD m 0:Nat):Int))↔o[i]?=o[m]?:=by
    rw[ie (show i<o.length by omega),ie (show m<o.length by omega)];constructor
    ·intro h;rw[show o.getD i 0=o.getD m 0 by omega]
    ·intro h;injection h with h;omega
   refine cO (fun heq=>?_) (fun hne=>?_)
   ·have heq':=cmp.mp heq
    right;refine zm ?_;right;refine⟨⟨k,false,f,_,rfl,D2.same s34⟩,?_⟩;right;refine BO (y:=.int (m:Int)) (k:=d8 m) (D2.same s34) (show bw H4 (.int (m:Int)) (d8 m)from rfl) rfl ?_;have iff:(f (d8 m)).isSome=false↔∀j,j<v.length->v[j]?=v[i]?->o[j]?=o[i]?:=by
     constructor
     ·intro hn j hj hvj
      apply Gd;intro hne;have:(f (d8 m)).isSome=true:=(hf m).mpr ⟨j,hj,by rw[hvj];exact hm,by rw[<-heq'];exact hne⟩;rw[hn]at this;cases this
     ·intro hall
      cases hs:(f (d8 m)).isSome with
      |false=>rfl
      |true=>
       obtain⟨t,h1,h2,h3⟩:=(hf m).mp hs;exact absurd ((hall t h1 (by rw[h2,hm])).trans heq') h3
    cases hfk:f (d8 m)with
    |none=>
     rw[hfk]at iff;exact put none ⟨fun _=>iff.mp rfl,fun _=>rfl⟩ (fun j z=>by cases z)
    |some x=>
     obtain⟨n,rfl,hnl,hnv,hno,hnm⟩:=hx m x hfk;rw[hfk]at iff;refine put (some n) ⟨fun z=>(by cases z),fun z=>absurd (iff.mpr z) (by simp)⟩ (fun j z=>?_);cases z;exact⟨⟨hnl,by rw[hnv,hm],by rw[heq'];exact hno⟩,fun t ht ⟨_,h1,h2⟩=>h2 (by rw[heq'];exact hnm t ht (by rw[h1,hm]))⟩
   ·right
    refine put (some m) ⟨fun z=>(by cases z),fun z=>absurd (cmp.mpr ?_) hne⟩ (fun j z=>?_)
    ·exact(z m hml (by rw[hvm,hm])).symm
    ·cases z
     exact⟨⟨hml,by rw[hvm,hm],fun z=>hne (cmp.mpr z.symm)⟩,fun t ht ⟨_,h1,_⟩=>absurd (iv t m (by rw[h1,hm])).2 (by omega)⟩
  ·rintro w acc H3 hw s3 e3 ⟨xs,rfl,hxl,hxs,hxm⟩
   rw[bi]at hxl hxs hxm;exact q w xs H3 (s2.free hw) (s2.trans s3) e3 hxl hxs fun i j h=>hxm i j (by rw[<-hxl];exact(EK.mp h).1) h
noncomputable def eQ(m c:Nat):MK:=.inr [.inl (some (m:Int)),.inl (some (c:Int))]
theorem zF{m c m' c':Nat}(h:eQ m c=eQ m' c'):m=m'/\c=c':=by
 unfold eQ at h;injection h with h
 injection h with h1 h2
 injection h1 with h1
 injection h1 with h1
 injection h2 with h2 _
 injection h2 with h2
 injection h2 with h2
 exact⟨by omega,by omega⟩
theorem AX{H:Hp}{t:Addr}{m c:Nat}(e:H t=some (.tup [.int (m:Int),.int (c:Int)])):bw H (.ref t) (eQ m c):=⟨t,_,rfl,e,.cons rfl (.cons rfl .nil)⟩
noncomputable def fE(_:Fg):Sp:=fun vs H Q _=>∃(r k:Addr)(w:List Nat)(m e:Nat)(f:MK->Option V)(n:Nat),vs=[.ref r,.int (m:Int),.ref k,.int (e:Int)]/\H r=some (.tup (ap w))/\w.length<=12/\Dx H k true f n/\
 ∀(z:Option Nat)(H':Hp),ak H H'->(z=none↔∀(c h:Nat),w[c]?=some h->h≠e->(f (eQ m c)).isSome=true)->(∀c,z=some c->bI (fun c=>∃h,w[c]?=some h/\h≠e/\(f (eQ m c)).isSome=false) c)->Q (d7 z) H'
noncomputable def dS(K:Fg):TS:=(ax (cp (gU ka K (aa (ae 0) ah)) (dP K 2 (be (aj 4) (be (aj 5) dO))) (ck (qY (bA (tOp rNe (ae 5) (ae 3))) (bA (tOp (zk true) (bq (aa (ae 1) (aa (ae 4) ah))) (ae 2)))) (bj (ae 4)) bH))
 (bj (tC .non)))
theorem mM(h:fE K vs H Q E):dS K { nx:=fun _ H'=>Q .non H',rt:=Q } (start ["deal","least","moved","e","card","holder"] vs) H:=by
 obtain⟨r,k,w,m,e,f,n,rfl,er,hw,D,q⟩:=h;show dS K _ [some _,some _,some _,some _,none,none] _;unfold dS;right;refine jO (S:=ka) (ap w) (SqT.of er) (fun i σ H2=>∃(u4 u5:Option V),σ=[some (.ref r),some (.int (m:Int)),some (.ref k),some (.int (e:Int)),u4,u5]/\ak H H2/\∀c h,c<i->w[c]?=some h->h≠e->(f (eQ m c)).isSome=true) ⟨_,_,rfl,ak.refl _,fun c h z=>by omega⟩ ?_ ?_ ?_
 ·rintro i σ H2 hi ⟨u4,u5,rfl,s2,hf⟩
  exact SqT.of (s2 _ _ er)
 ·rintro i x T σ H2 H3 hx ⟨u4,u5,rfl,s2,hf⟩ hT s3 e3
  obtain⟨h,hh,rfl⟩:=jS hx;have s23:=s2.trans s3;have more:((f (eQ m i)).isSome=true\/h=e)->∀c h',c<i+1->w[c]?=some h'->h'≠e->(f (eQ m c)).isSome=true:=fun ho c h' hc hw' hne=>by
   rcases FK.mp hc with z|z
   ·exact hf c h' z hw' hne
   ·subst z
    rw[hh]at hw';cases hw';exact ho.resolve_right hne
  right;refine dE (SqT.of e3) ?_;right;refine mI (fun hne=>?_) (fun heq=>?_)
  ·right
   refine⟨by simp[EL],fun t H4 ht s4 e4=>?_⟩;right;refine zl (D.same (s23.trans s4)) (AX e4) rfl ?_;cases hk:f (eQ m i)with
   |none=>
    right;refine mH ?_;right;refine q (some i) _ (s23.trans s4) ⟨fun z=>(by cases z),fun z=>?_⟩ (fun c z=>?_)
    ·have:=z i h hh (fun y=>hne (by rw[y]))
     rw[hk]at this;cases this
    ·cases z
     refine⟨⟨h,hh,fun y=>hne (by rw[y]),by rw[hk];rfl⟩,fun t ht ⟨h',h1,h2,h3⟩=>?_⟩;have:=hf t h' ht h1 h2;rw[h3]at this;cases this
   |some v=>
    right;refine mG ?_;right;exact⟨_,_,rfl,s23.trans s4,more (.inl (by rw[hk];rfl))⟩
  ·right
   exact⟨_,_,rfl,s23,more (.inr (by omega))⟩
 ·rintro σ H2 ⟨u4,u5,rfl,s2,hf⟩
  right;refine q none _ s2 ⟨fun _ c h hc hne=>?_,fun _=>rfl⟩ (fun c z=>by cases z);exact hf c h (by rw[bi];exact(EK.mp hc).1) hc hne
noncomputable def io(_:Fg):Sp:=fun vs H Q _=>∃(d p:Addr)(ws:List (List Nat))(v:List Nat)(e:Nat)(n:Nat),vs=[.ref d,.ref p,.int (e:Int)]/\bf H d ws/\H p=some (.lst (ap v))/\v.length=ws.length/\ws.length<=2000/\n<=12/\(∀w∈ws,w.length=n)/\sg v/\
 ∀f (xs:List (Option Nat)) H',H f=none->ak H H'->H' f=some (.lst (xs.map d7))->xs.length=ws.length->(∀(i:Nat)(w:List Nat),ws[i]?=some w->(xs[i]?=some none↔∀(c h:Nat),w[c]?=some h->h≠e->∃(j:Nat)(w':List Nat),ws[j]?=some w'/\v[j]?=v[i]?/\w'[c]?≠some h))->(∀(i:Nat)(w:List Nat)(c:Nat),ws[i]?=some w->xs[i]?=some (some c)->bI (fun c=>∃h,w[c]?=some h/\h≠e/\∀(j:Nat)(w':List Nat),ws[j]?=some w'->v[j]?=v[i]?->w'[c]?=some h) c)->Q (.ref f) H'
noncomputable def gn(K:Fg):TS:=(ax (aF jQ (aj 3))
 (ax (cp (vm bP bP K (aa (ae 0) (aa (ae 1) ah))) (dP K 2 (be (aj 4) (be (aj 5) dO))) (cp (gU ka K (aa (ae 4) ah)) (dP K 2 (be (aj 6) (be (aj 7) dO))) (ck (bA (tOp rNe (ae 7) (tOp (kT K) (tOp (aU K) (ae 0) (ae 5)) (ae 6)))) (aF (tC (.bl true)) (uW (ae 3) (bq (aa (ae 5) (aa (ae 6) ah))) qO)) bH)))
 (bj (bL (vm bP bP K (aa (ae 0) (aa (ae 1) ah))) (fun _ _ _ _=>(dP K 2 (be (aj 0) (be (aj 1) dO)))) (fun _ _ _ _=>bB) (fun _ _ _ _=>(aJ (fE K) [] E0 (aa (ae 0) (aa (ae 1) (aa (ae 2) (aa (ae 3) ah)))))) [none,none,some 3,some 2]))))
theorem qr(h:io K vs H Q E):gn K { nx:=fun _ H'=>Q .non H',rt:=Q } (start ["deals","view","e","moved","deal","least","card","holder"] vs) H:=by
 obtain⟨d,p,ws,v,e,n,rfl,DA,ep,hvl,hwl,hn,hwn,iv,q⟩:=h;show gn K _ [some _,some _,some _,none,none,none,none,none] _;unfold gn;obtain⟨rs,ed,pd⟩:=id DA;have hrl:=bN pd;have lt:∀{i m:Nat},v[i]?=some m->m<v.length:=fun{i m} h=>(EK.mp (iv i m h).1).1
 let Mv:Nat->Nat->Nat->Prop:=fun i m c=>∃(j:Nat)(w' wm:List Nat),j<i/\ws[j]?=some w'/\v[j]?=some m/\ws[m]?=some wm/\w'[c]?≠wm[c]?/\c<n
 right;refine lF true fun k H1 hk s1 D1=>?_;nofun;refine bx ?_;nofun;refine C0 (S1:=bP) (S2:=bP) (rs.map V.ref) (ap v) (SqL.of (s1 _ _ ed)) (SqL.of (s1 _ _ ep)) (fun i σ H2=>∃(u4 u5 u6 u7:Option V)(f:MK->Option V),σ=[some (.ref d),some (.ref p),some (.int (e:Int)),some (.ref k),u4,u5,u6,u7]/\ak H H2/\Dx H2 k true f (i*12)/\∀m c,(f (eQ m c)).isSome=true↔Mv i m c) ⟨_,_,_,_,_,rfl,s1,D1,fun m c=>⟨fun h=>(by cases h),fun⟨j,_,_,h,_⟩=>(by omega)⟩⟩ ?_ ?_ ?_
 ·rintro i σ H2 ⟨u4,u5,u6,u7,f,rfl,s2,D2,hf⟩
  exact⟨SqL.of (s2 _ _ ed),SqL.of (s2 _ _ ep)⟩
 ·rintro i x y T σ H2 H3 hx hy ⟨u4,u5,u6,u7,f,rfl,s2,D2,hf⟩ hT s3 e3
  obtain⟨r,hr,rfl⟩:=bZ hx;obtain⟨m,hm,rfl⟩:=jS hy;obtain⟨w,hw,ew⟩:=bT pd hr;have hwl':=hwn w (E2 hw);have hml:=lt hm;obtain⟨rm,hrm⟩:∃rm,rs[m]?=some rm:=⟨rs[m]'(by omega),EG (by omega)⟩;obtain⟨wm,hwm,ewm⟩:=bT pd hrm;have hwml:=hwn wm (E2 hwm);have hi2:i<ws.length:=(EK.mp hw).1;have s23:=s2.trans s3;right;refine dE (SqT.of e3) ?_;right;refine jO (S:=ka) (ap w) (SqT.of (s23 _ _ ew)) (fun c σ H4=>∃(u6 u7:Option V)(f':MK->Option V),σ=[some (.ref d),some (.ref p),some (.int (e:Int)),some (.ref k),some (.ref r),some (.int (m:Int)),u6,u7]/\ak H H4/\Dx H4 k true f' (i*12+c)/\∀m' c',(f' (eQ m' c')).isSome=true↔Mv i m' c'\/(m'=m/\c'<c/\w[c']?≠wm[c']?)) ⟨_,_,f,rfl,s23,D2.same s3,fun m' c'=>by rw[hf];exact⟨.inl,fun h=>h.elim id fun⟨_,z,_⟩=>by omega⟩⟩ ?_ ?_ ?_
  ·rintro c σ H4 hc ⟨u6,u7,f',rfl,s4,D4,hf'⟩
   exact SqT.of (s4 _ _ ew)
  ·rintro c x T' σ H4 H5 hx ⟨u6,u7,f',rfl,s4,D4,hf'⟩ hT' s5 e5
   obtain⟨h,hh,rfl⟩:=jS hx;have hcn:c<n:=by rw[<-hwl'];exact(EK.mp hh).1
   have s45:=s4.trans s5;right;refine dE (SqT.of e5) ?_;right;refine aL (SqL.of (s45 _ _ ed)) (bu hrm) ?_;right;refine lB (SqT.of (s45 _ _ ewm)) (iL (by omega)) ?_;right;have hgm:wm[c]?=some (wm.getD c 0):=ie (by omega);have upd':∀(P:Prop),(P↔w[c]?≠wm[c]?)->∀m' c',(Mv i m' c'\/(m'=m/\c'<c+1/\w[c']?≠wm[c']?))↔(Mv i m' c'\/(m'=m/\c'<c/\w[c']?≠wm[c']?))\/(m'=m/\c'=c/\P):=fun P hP m' c'=>by
    constructor
    ·rintro(h|⟨rfl,h1,h2⟩)
     ·exact .inl (.inl h)
     ·rcases FK.mp h1 with z|z
      ·exact .inl (.inr ⟨rfl,z,h2⟩)
      ·subst z;exact .inr ⟨rfl,rfl,hP.mpr h2⟩
    ·rintro((h|⟨rfl,h1,h2⟩)|⟨rfl,rfl,h⟩)
     ·exact .inl h
     ·exact .inr ⟨rfl,by omega,h2⟩
     ·exact .inr ⟨rfl,by omega,hP.mp h⟩
   refine mI (fun hne=>?_) (fun heq=>?_)
   ·have hne':w[c]?≠wm[c]?:=fun z=>by rw[hh,hgm]at z;injection z with z;exact hne (by omega)
    right;refine⟨by simp[EL],fun t H6 ht s6 e6=>?_⟩;right;refine xA (D4.same (s5.trans s6)) (AX e6) rfl (by rw[EL];omega) fun H7 o7 D7=>?_;refine⟨_,_,_,rfl,(s45.trans s6).off hk o7,D7,fun m' c'=>?_⟩;rw[upd' True ⟨fun _=>hne',fun _=>trivial⟩];unfold dv;by_cases z:eQ m' c'=eQ m c
    ·rw[if_pos z]
     obtain⟨z1,z2⟩:=zF z;exact⟨fun _=>.inr ⟨z1,z2,trivial⟩,fun _=>rfl⟩
    ·rw[if_neg z,hf']
     exact⟨.inl,fun h=>h.elim id fun⟨z1,z2,_⟩=>absurd (by rw[z1,z2]) z⟩
   ·have heq':w[c]?=wm[c]?:=by rw[hh,hgm,show h=wm.getD c 0 by omega]
    right;refine⟨_,_,f',rfl,s45,(D4.same s5).le (by omega),fun m' c'=>?_⟩;rw[upd' False ⟨G9,fun z=>absurd heq' z⟩,hf'];exact⟨.inl,fun h=>h.elim id fun⟨_,_,z⟩=>z.elim⟩
  ·rintro σ H4 ⟨u6,u7,f',rfl,s4,D4,hf'⟩
   rw[bi,hwl']at hf' D4;refine⟨_,_,_,_,f',rfl,s4,D4.le (by omega),fun m' c'=>?_⟩;rw[hf'];constructor
   ·rintro(⟨j,w',wm',h1,h2,h3,h4,h5,h6⟩|⟨rfl,h1,h2⟩)
    ·exact⟨j,w',wm',by omega,h2,h3,h4,h5,h6⟩
    ·exact⟨i,w,wm,by omega,hw,hm,hwm,h2,h1⟩
   ·rintro⟨j,w',wm',h1,h2,h3,h4,h5,h6⟩
    rcases FK.mp h1 with z|z
    ·exact .inl ⟨j,w',wm',z,h2,h3,h4,h5,h6⟩
    ·subst z
     rw[hw]at h2;cases h2;rw[hm]at h3;cases h3;rw[hwm]at h4;cases h4;exact .inr ⟨rfl,h6,h5⟩
 ·rintro σ H2 ⟨u4,u5,u6,u7,f,rfl,s2,D2,hf⟩
  have hmin:min (rs.map V.ref).length (ap v).length=ws.length:=by rw[EI,bi];omega
  rw[hmin]at hf;right;refine C1 (S1:=bP) (S2:=bP) (rs.map V.ref) (ap v) (SqL.of (s2 _ _ ed)) (SqL.of (s2 _ _ ep)) (fun H' s=>s.seq (SqL.of (s2 _ _ ed))) (fun H' s=>s.seq (SqL.of (s2 _ _ ep))) (by rw[EI];omega) (fun i acc _=>∃xs:List (Option Nat),acc=xs.map d7/\xs.length=i/\(∀(t:Nat)(w:List Nat),t<i->ws[t]?=some w->(xs[t]?=some none↔∀(c h:Nat),w[c]?=some h->h≠e->∃(j:Nat)(w':List Nat),ws[j]?=some w'/\v[j]?=v[t]?/\w'[c]?≠some h))/\∀(t:Nat)(w:List Nat)(c:Nat),t<i->ws[t]?=some w->xs[t]?=some (some c)->bI (fun c=>∃h,w[c]?=some h/\h≠e/\∀(j:Nat)(w':List Nat),ws[j]?=some w'->v[j]?=v[t]?->w'[c]?=some h) c) (fun _ _=>⟨[],rfl,rfl,fun t w h=>by omega,fun t w c h=>by omega⟩) ?_ ?_
  ·rintro wl hwl2 C s' H' fp i x y T acc H3 H4 hx hy ⟨s3,e3,l3,xs,rfl,hxl,hxs,hxm⟩ hT s4 e4 e5
   obtain⟨r,hr,rfl⟩:=bZ hx;obtain⟨m,hm,rfl⟩:=jS hy;obtain⟨w,hw,ew⟩:=bT pd hr;have hwl':=hwn w (E2 hw);have hml:=lt hm;have hi2:i<ws.length:=(EK.mp hw).1;obtain⟨wm,hwm⟩:∃wm,ws[m]?=some wm:=⟨ws[m]'(by omega),EG (by omega)⟩;have hvm:=(iv i m hm).1;have s34:=s3.trans s4;right;refine dE (SqT.of e4) ?_;right;refine⟨r,k,w,m,e,f,_,rfl,s34 _ _ (s2 _ _ ew),by omega,D2.same s34,fun z H6 s6 hz hzm=>?_⟩;have key:∀(c h:Nat),w[c]?=some h->((f (eQ m c)).isSome=true↔∃(j:Nat)(w':List Nat),ws[j]?=some w'/\v[j]?=v[i]?/\w'[c]?≠some h):=fun c h hc=>by
    have hcn:c<n:=by rw[<-hwl'];exact(EK.mp hc).1
    rw[hf];constructor
    ·rintro⟨j,w',wm',h1,h2,h3,h4,h5,h6⟩
     rw[hwm]at h4;cases h4;by_cases hcm:wm[c]?=some h
     ·exact⟨j,w',h2,by rw[h3,hm],by rw[<-hcm];exact h5⟩
     ·exact⟨m,wm,hwm,by rw[hvm,hm],hcm⟩
    ·rintro⟨j,w',h1,h2,h3⟩
     have hjl:j<ws.length:=(EK.mp h1).1;by_cases hcm:wm[c]?=some h
     ·exact⟨j,w',wm,hjl,h1,by rw[h2,hm],hwm,by rw[hcm];exact h3,hcn⟩
     ·exact⟨i,w,wm,hi2,hw,hm,hwm,by rw[hc];exact fun z=>hcm z.symm,hcn⟩
   refine aW.put hwl2 (fun _ _ _ _ r _=>r) (s34.trans s6) (s6 _ _ e5) l3 ⟨xs++[z],by rw[ET];rfl,by rw[EX,hxl];rfl,fun t w' ht hw'=>?_,fun t w' c ht hw' hj=>?_⟩
   rotate_left
   ·rcases FK.mp ht with h|h
    ·rw[Gb (by omega)]at hj;exact hxm t w' c h hw' hj
    ·subst h
     rw[hw]at hw';cases hw';rw[FN (by omega),hxl,HI]at hj;refine(hzm c (by injection hj)).of fun c=>?_;constructor
     ·rintro⟨h,h1,h2,h3⟩
      refine⟨h,h1,h2,fun j w' hj hv=>Gd fun hno=>?_⟩;have:=(key c h h1).mpr ⟨j,w',hj,hv,hno⟩;rw[h3]at this;cases this
     ·rintro⟨h,h1,h2,h3⟩
      refine⟨h,h1,h2,?_⟩;cases hb:(f (eQ m c)).isSome with
      |false=>rfl
      |true=>
       obtain⟨j,w',g1,g2,g3⟩:=(key c h h1).mp hb;exact absurd (h3 j w' g1 g2) g3
   rcases FK.mp ht with h|h
   ·rw[Gb (by omega)];exact hxs t w' h hw'
   ·subst h
    rw[hw]at hw';cases hw';rw[FN (by omega),hxl,HI];have hz':([z][0]?=some none)↔z=none:=⟨fun q=>by injection q,fun q=>by rw[q];rfl⟩;rw[hz',hz];constructor
    ·intro hh c h hc hne;exact(key c h hc).mp (hh c h hc hne)
    ·intro hh c h hc hne;exact(key c h hc).mpr (hh c h hc hne)
  ·rintro wl acc H3 hwl2 s3 e3 ⟨xs,rfl,hxl,hxs,hxm⟩
   rw[hmin]at hxl hxs hxm;exact q wl xs H3 (s2.free hwl2) (s2.trans s3) e3 hxl (fun i w hw=>hxs i w (EK.mp hw).1 hw) fun i w c hw=>hxm i w c (EK.mp hw).1 hw
end
theorem aW.putW{H H4:Hp}{p:Addr}{R:Nat->List V->Hp->Prop}{i:Nat}{acc:List V}{y:V}(hp:H p=none)(s:ak H H4)(e:H4 p=some (.lst acc))(l:acc.length<=i)(r:∀H6,Off p H4 H6->R (i+1) (acc++[y]) H6):
  H4 p=some (.lst acc)/\aW H p R (i+1) (acc++[y]) (upd H4 p (.lst (acc++[y]))):=
 ⟨e,s.upd hp _,ay,by rw[EX];exact Ko l 1,r _ iJ⟩
section
variable{g:CF TG}{tt:CF TT}{te:CF TE}{σ₀:St}{Q:VK}{H:Hp}{K:Fg}
theorem zG{a:Addr}(xs:List V)(hx:SqL K H a xs)(hz:xs.length<=1000000)(R:Addr->Nat->List V->Hp->Prop)(h0:∀p H',ak H H'->R p 0 [] H')
  (hs:∀p,H p=none->∀C s' H' fp,∀i x acc H2,xs[i]?=some x->aW H p (R p) i acc H2->g C s' H' fp x σ₀ H2 fun σ2 H3=>tt C s' H' fp σ2 H3 fun b H4=>if b=true then te C s' H' fp σ2 H4 fun y H5=>H5 p=some (.lst acc)/\aW H p (R p) (i+1) (acc++[y]) (upd H5 p (.lst (acc++[y])))else aW H p (R p) (i+1) acc H4)
  (hd:∀p acc H2,H p=none->ak H H2->H2 p=some (.lst acc)->R p xs.length acc H2->Q (.ref p) H2):
  ∃a',V.ref a=.ref a'/\(∃xs,SqL K H a' xs)/\∀p,H p=none->∃W:Nat->Nat->List V->Hp->Prop,(∃m,W 0 m [] (upd H p (.lst [])))/\∀C s' H' fp,bO (Itl K a') (g C s' H' fp) (tt C s' H' fp) (te C s' H' fp) σ₀ p Q W:=
 ⟨a,rfl,⟨xs,hx⟩,fun p hp=>kY (aW H p (R p)) ⟨aH hp _,ay,EM _,h0 _ _ (aH hp _)⟩ (fun i acc H2 _ c=>⟨c.2.1,c.2.2.1⟩) (fun i acc H2 _ c=>c.1.seq hx) (by rw[EL];omega) (fun C s' H' fp i x acc H2 hi c=>hs p hp C s' H' fp i x acc H2 hi c) fun acc H2 c=>hd p acc H2 hp c.1 c.2.1 c.2.2.2⟩
theorem xP{j:Int}(n:Nat)(hn:j.toNat=n)(hj:j<=1000000)(hj0:-1000000<=j)(R:Addr->Nat->List V->Hp->Prop)(h0:∀p H',ak H H'->R p 0 [] H')
  (hs:∀p,H p=none->∀C s' H' fp,∀i acc H2,i<n->aW H p (R p) i acc H2->g C s' H' fp (.int i) σ₀ H2 fun σ2 H3=>tt C s' H' fp σ2 H3 fun b H4=>if b=true then te C s' H' fp σ2 H4 fun y H5=>H5 p=some (.lst acc)/\aW H p (R p) (i+1) (acc++[y]) (upd H5 p (.lst (acc++[y])))else aW H p (R p) (i+1) acc H4)
  (hd:∀p acc H2,H p=none->ak H H2->H2 p=some (.lst acc)->R p n acc H2->Q (.ref p) H2):
  ∃j':Int,[V.int j]=[.int j']/\-(2^62)<=j'/\j'<2^62/\∀p,H p=none->∃W:Nat->Nat->List V->Hp->Prop,(∃m,W 0 m [] (upd H p (.lst [])))/\∀C s' H' fp,bO (Itr 0 j'.toNat) (g C s' H' fp) (tt C s' H' fp) (te C s' H' fp) σ₀ p Q W:=by
 refine⟨j,rfl,by omega,by omega,fun p hp=>?_⟩;subst hn;exact j9 (lo:=0) (aW H p (R p)) ⟨aH hp _,ay,EM _,h0 _ _ (aH hp _)⟩ (fun i acc H2 _ c=>⟨c.2.1,c.2.2.1⟩) (by rw[EL];omega) (fun C s' H' fp i acc H2 hi c=>by rw[NC];exact hs p hp C s' H' fp i acc H2 hi c) fun acc H2 c=>hd p acc H2 hp c.1 c.2.1 c.2.2.2
end
section
variable{K:Fg}{vs:List V}{H:Hp}{Q:VK}{E:XK}
noncomputable def FrV(H:Hp):FR->V->Prop
 | .ok,v=>v=.non
 | .friend d,v=>∃t x,v=.ref t/\H t=some (.tup [.str "friend",.int (d:Int),x])
 | .third d,v=>∃t x,v=.ref t/\H t=some (.tup [.str "third",.int (d:Int),x])
theorem FrV.same{H H':Hp}(s:ak H H'){r:FR}{v:V}(h:FrV H r v):FrV H' r v:=by
 cases r with
 |ok=>exact h
 |friend d=>obtain⟨t,x,e,q⟩:=h;exact⟨t,x,e,s _ _ q⟩
 |third d=>obtain⟨t,x,e,q⟩:=h;exact⟨t,x,e,s _ _ q⟩
noncomputable def FrW(ws:List (List Nat))(a b:Int)(num:List Int->Nat)(i j:Nat):Prop:=∃(wi wj:List Nat),ws[i]?=some wi/\ws[j]?=some wj/\aq wj b=aq wi b/\num (aq wj a)=num (aq wi a)/\aq wj a≠aq wi a
noncomputable def ThW(ws:List (List Nat))(a e:Int)(num:List Int->Nat)(i c:Nat):Prop:=∃(wi:List Nat)(h:Nat),ws[i]?=some wi/\wi[c]?=some h/\(h:Int)≠e/\∀(j:Nat)(wj:List Nat),ws[j]?=some wj->aq wj e=aq wi e->num (aq wj a)=num (aq wi a)->wj[c]?=some h
noncomputable def FrE(ws:List (List Nat))(a b e:Int)(num:List Int->Nat)(H:Hp):FR->V->Prop
 | .ok,_=>True
 | .friend d,v=>∃(t:Addr)(j:Nat),v=.ref t/\H t=some (.tup [.str "friend",.int (d:Int),.int (j:Int)])/\bI (FrW ws a b num d) j
 | .third d,v=>∃(t:Addr)(c:Nat),v=.ref t/\H t=some (.tup [.str "third",.int (d:Int),.int (c:Int)])/\bI (ThW ws a e num d) c
structure jo(c:Nat)(ss:List Nat):Prop where
 pk:mK c ss
 few:KM.cn c ss<=2000
 c7:c<=8
 l3:3<=ss.length
 hold:∀s∈ss,(oX c s).length<=62
noncomputable abbrev aS(c:Nat)(ss:List Nat):List Nat:=ss++[c-ss.sum]
theorem mO{c:Nat}{ss:List Nat}(h:ss.sum<=c):(aS c ss).sum=c:=by
 unfold aS;rw[Gc];simp;omega
theorem xQ(said:List Nat):(ap said).map iaV=(said.map fun(n:Nat)=>(some (n:Int):IA)).map some:=by
 unfold ap;rw[G6,G6];rfl
theorem fQ{ws:List (List Nat)}{h a:Int}{num:List Int->Nat}{i j:Nat}{wi wj:List Nat}(hi:ws[i]?=some wi)(hj:ws[j]?=some wj):
  (h9 (di ws h) ((ws.map fun w=>num (aq w a)).map fun(n:Nat)=>(some (n:Int):IA)))[i]?=(h9 (di ws h) ((ws.map fun w=>num (aq w a)).map fun(n:Nat)=>(some (n:Int):IA)))[j]?↔aq wi h=aq wj h/\num (aq wi a)=num (aq wj a):=by
 have hil:i<ws.length:=(EK.mp hi).1;have hjl:j<ws.length:=(EK.mp hj).1;have hl:(di ws h).length=((ws.map fun w=>num (aq w a)).map fun(n:Nat)=>(some (n:Int):IA)).length:=by rw[bM,EI,EI]
 unfold h9;rw[jl (by rw[Iu,<-hl,bM];omega) (by rw[Iu,<-hl,bM];omega),BN hl (by rw[bM];exact hil) (by rw[bM];exact hjl)];unfold di;rw[jl (by rw[EI];exact hil) (by rw[EI];exact hjl),EO,EO,hi,hj,EO,EO,EO,EO,hi,hj];constructor
 ·rintro⟨h1,h2⟩
  refine⟨Fd h1,?_⟩;have h3:(some ((num (aq wi a):Nat):Int):IA)=some ((num (aq wj a):Nat):Int):=Fd h2;injection h3 with h3
  omega
 ·rintro⟨h1,h2⟩
  exact⟨congrArg some h1,congrArg (fun(n:Nat)=>some (some (n:Int))) h2⟩
theorem jq{ws:List (List Nat)}{h:Int}{i j:Nat}{wi wj:List Nat}(hi:ws[i]?=some wi)(hj:ws[j]?=some wj):(di ws h)[i]?=(di ws h)[j]?↔aq wi h=aq wj h:=by
 have hil:i<ws.length:=(EK.mp hi).1;have hjl:j<ws.length:=(EK.mp hj).1;unfold di;rw[jl (by rw[EI];exact hil) (by rw[EI];exact hjl),EO,EO,hi,hj];exact⟨fun h=>Fd h,fun h=>congrArg some h⟩
noncomputable def gO(_:Fg):Sp:=fun vs H Q _=>∃(c:Nat)(z p:Addr)(ss:List Nat)(a b e:Nat)(L:List (List (List Int)))(hs:List (List Int))(num:List Int->Nat),vs=[.int (c:Int),.ref z,.ref p,.int (a:Int),.int (b:Int),.int (e:Int)]/\H z=some (.lst (ap ss))/\jo c ss/\a<ss.length/\b<ss.length/\e<ss.length/\cA H p L/\eX L hs num/\(∀w∈KM.aP (aS c ss) c,aq w (a:Int)∈hs)/\L.length<=1000/\(∀l∈L,l.length<=1000)/\
 ∀(r:FR)(v:V)(H':Hp),ak H H'->Db (KM.aP (aS c ss) c) (a:Int) (b:Int) (e:Int) num r->FrV H' r v->FrE (KM.aP (aS c ss) c) (a:Int) (b:Int) (e:Int) num H' r v->Q v H'
noncomputable def jT(K:Fg):TS:=(ax (aF (aJ (dM K) [] E0 (aa (ae 0) (aa (ae 1) ah))) (aj 6))
 (ax (aF (aJ (im K) [] E0 (aa (ae 6) (aa (ae 2) (aa (ae 3) ah)))) (aj 7))
 (ax (aF (aJ (gk K) [] E0 (aa (aJ (ko K) [] E0 (aa (aJ (dF K) [] E0 (aa (ae 6) (aa (ae 4) ah))) (aa (ae 7) ah))) (aa (aJ (dF K) [] E0 (aa (ae 6) (aa (ae 3) ah))) ah))) (aj 8))
 (ax (aF (aJ (io K) [] E0 (aa (ae 6) (aa (aJ (ko K) [] E0 (aa (aJ (dF K) [] E0 (aa (ae 6) (aa (ae 5) ah))) (aa (ae 7) ah))) (aa (ae 5) ah)))) (aj 9))
 (ax (cp (cv (aa (tCB (cD K) (aa (ae 6) ah)) ah)) (aj 10) (ax (ck (bA (tOp kr (tOp (aU K) (ae 8) (ae 10)) (tC .non))) (bj (bq (aa (tC (.str "friend")) (aa (ae 10) (aa (tOp (aU K) (ae 8) (ae 10)) ah))))) bH)
 (ck (bA (tOp kr (tOp (aU K) (ae 9) (ae 10)) (tC .non))) (bj (bq (aa (tC (.str "third")) (aa (ae 10) (aa (tOp (aU K) (ae 9) (ae 10)) ah))))) bH)))
 (bj (tC .non)))))))
noncomputable abbrev uF:List Str:=["cards","sizes","words","a","b","e","deals","said","others","told","deal"]
theorem xR(h:gO K vs H Q E):vs.length=6:=by
 obtain⟨c,z,p,ss,a,b,e,L,hs,num,rfl,ez,pw,ha,hb,he,W,ok,hin,hLl,hll,q⟩:=h;rfl
theorem sj(h:gO K vs H Q E):jT K { nx:=fun _ H'=>Q .non H',rt:=Q } (start ["cards","sizes","words","a","b","e","deals","said","others","told","deal"] vs) H:=by
 obtain⟨c,z,p,ss,a,b,e,L,hs,num,rfl,ez,pw,ha,hb,he,W,ok,hin,hLl,hll,q⟩:=h;show jT K _ [some _,some _,some _,some _,some _,some _,none,none,none,none,none] _;unfold jT;have hc7:=pw.c7;right;refine⟨c,z,ss,rfl,ez,pw.pk,pw.few,fun d H1 s1 hd D1=>?_⟩;have hsum:=mO pw.pk.sum;have hlen:(KM.aP (aS c ss) c).length<=2000:=by
  rw[show KM.aP (aS c ss) c=KM.aP (ss++[c-ss.sum]) c from rfl,KM.eW pw.pk.sum];exact pw.few
 generalize hws:KM.aP (aS c ss) c=ws at *;have aX:∀w∈ws,w.length=c/\(∀j∈w,j<(aS c ss).length)/\∀j,j<(aS c ss).length->w.count j=(aS c ss).getD j 0:=fun w hw=>nR hsum (by rw[hws];exact hw);have hheld:∀w∈ws,aq w (a:Int)∈hs/\w.length<=12:=fun w hw=>⟨hin w hw,by have:=(aX w hw).1;omega⟩;right;refine⟨d,p,(a:Int),ws,L,_,num,rfl,D1,W.same s1,ok,hheld,hlen,hLl,hll,fun sd H2 hsd s2 e2=>?_⟩;have hlw:∀w∈ws,w.length<=1000:=fun w hw=>by have:=(aX w hw).1;omega
 have D2:=D1.same' s2;right;refine⟨d,ws,(b:Int),rfl,D2,hlw,by omega,fun fb H3 hfb s3 e3=>?_⟩;right;refine⟨fb,sd,_,_,_,rfl,e3,s3 _ _ e2,xQ _,by rw[bM,EI,EI],by rw[bM];omega,fun vb H4 hvb s4 e4=>?_⟩;have D4:=(D2.same' s3).same' s4;right;refine⟨d,ws,(a:Int),rfl,D4,hlw,by omega,fun fa H5 hfa s5 e5=>?_⟩;have hvl:∀h:Int,(h9 (di ws h) ((ws.map fun w=>num (aq w (a:Int))).map fun(n:Nat)=>(some (n:Int):IA))).length=ws.length:=fun h=>by rw[vI (by rw[bM,EI,EI]),bM]
 right;refine⟨vb,fa,_,_,rfl,s5 _ _ e4,e5,by rw[hvl,bM],by rw[hvl];omega,nU _,fun ot xs H6 hot s6 e6 l6 x6 m6=>?_⟩;rw[hvl]at l6 x6;have s26:=(s3.trans s4).trans (s5.trans s6);have D6:=D2.same' s26;right;refine⟨d,ws,(e:Int),rfl,D6,hlw,by omega,fun fe H7 hfe s7 e7=>?_⟩;right;refine⟨fe,sd,_,_,_,rfl,e7,s7 _ _ (s26 _ _ e2),xQ _,by rw[bM,EI,EI],by rw[bM];omega,fun ve H8 hve s8 e8=>?_⟩;have s68:=s7.trans s8;right;refine⟨d,ve,ws,_,e,c,rfl,D6.same' s68,e8,hvl _,hlen,by omega,fun w hw=>(aX w hw).1,nU _,fun tl ys H9 htl s9 e9 l9 y9 m9=>?_⟩;have s69:=s68.trans s9;have e69:=s69 _ _ e6;have D9:=D6.same' s69;obtain⟨rs,ed,pd⟩:=id D9;have hrl:=bN pd;have hFr:∀i,i<ws.length->(xs[i]?=some none↔¬Fr ws (a:Int) (b:Int) num i):=fun i hi=>by
  have hwi:ws[i]?=some ws[i]:=EG hi;rw[x6 i hi];constructor
  ·rintro hall ⟨j,wi,wj,h1,h2,h3,h4,h5⟩
   have:=hall j (EK.mp h2).1 ((fQ h2 h1).mpr ⟨h3,h4⟩);exact h5 ((jq h2 h1).mp this)
  ·intro hn j hj hv
   have hwj:ws[j]?=some ws[j]:=EG hj;obtain⟨h3,h4⟩:=(fQ hwj hwi).mp hv;refine(jq hwj hwi).mpr (Gd fun h5=>hn ⟨j,_,_,hwi,hwj,h3,h4,h5⟩)
 have hTh:∀i,i<ws.length->(ys[i]?=some none↔¬Th ws (a:Int) (e:Int) num i):=fun i hi=>by
  have hwi:ws[i]?=some ws[i]:=EG hi;rw[y9 i _ hwi];constructor
  ·rintro hall ⟨wi,k,h,h1,h2,h3,h4⟩
   rw[hwi]at h1;cases h1;obtain⟨j,w',q1,q2,q3⟩:=hall k h h2 (fun z=>h3 (by rw[z]));obtain⟨g1,g2⟩:=(fQ q1 hwi).mp q2;exact q3 (h4 j w' q1 g1 g2)
  ·intro hn k h hk hne
   apply Gd;intro hno;refine hn ⟨_,k,h,hwi,hk,fun z=>hne (by omega),fun j wj hj h1 h2=>Gd fun h3=>hno ⟨j,wj,hj,(fQ hj hwi).mpr ⟨h1,h2⟩,h3⟩⟩
 have hFw:∀i,i<ws.length->∀j,xs[i]?=some (some j)->bI (FrW ws (a:Int) (b:Int) num i) j:=fun i hi j hj=>(m6 i j hj).of fun t=>by
  have hwi:ws[i]?=some ws[i]:=EG hi;constructor
  ·rintro⟨h1,h2,h3⟩
   rw[hvl]at h1;have hwt:ws[t]?=some ws[t]:=EG h1;obtain⟨g1,g2⟩:=(fQ hwt hwi).mp h2;exact⟨_,_,hwi,hwt,g1,g2,fun z=>h3 ((jq hwt hwi).mpr z)⟩
  ·rintro⟨wi,wt,h1,h2,h3,h4,h5⟩
   exact⟨by rw[hvl];exact(EK.mp h2).1,(fQ h2 h1).mpr ⟨h3,h4⟩,fun z=>h5 ((jq h2 h1).mp z)⟩
 have hTw:∀i,i<ws.length->∀k,ys[i]?=some (some k)->bI (ThW ws (a:Int) (e:Int) num i) k:=fun i hi k hk=>by
  have hwi:ws[i]?=some ws[i]:=EG hi;refine(m9 i _ k hwi hk).of fun t=>?_;constructor
  ·rintro⟨h,h1,h2,h3⟩
   exact⟨_,h,hwi,h1,fun z=>h2 (by omega),fun j wj hj g1 g2=>h3 j wj hj ((fQ hj hwi).mpr ⟨g1,g2⟩)⟩
  ·rintro⟨wi,h,h1,h2,h3,h4⟩
   rw[hwi]at h1;cases h1;refine⟨h,h2,fun z=>h3 (by rw[z]),fun j wj hj hv=>?_⟩;obtain⟨g1,g2⟩:=(fQ hj hwi).mp hv;exact h4 j wj hj g1 g2
 have s09:ak H H9:=s1.trans (s2.trans (s26.trans s69));right;rw[EI,hrl];refine d5 ws.length (by omega) (by omega) (by omega) (fun i σ H10=>∃(u10:Option V),σ=[some (.int (c:Int)),some (.ref z),some (.ref p),some (.int (a:Int)),some (.int (b:Int)),some (.int (e:Int)),some (.ref d),some (.ref sd),some (.ref ot),some (.ref tl),u10]/\H10=H9/\∀t,t<i->¬Fr ws (a:Int) (b:Int) num t/\¬Th ws (a:Int) (e:Int) num t) ⟨_,rfl,rfl,fun t h=>by omega⟩ ?_ ?_
 ·rintro i σ H10 hi ⟨u10,rfl,rfl,hpre⟩
  obtain⟨x,hx⟩:∃x,xs[i]?=some x:=⟨xs[i]'(by omega),EG (by omega)⟩;obtain⟨y,hy⟩:∃y,ys[i]?=some y:=⟨ys[i]'(by omega),EG (by omega)⟩;have hxo:atI (xs.map d7) (i:Int)=some (d7 x):=fK (by rw[EO,hx];rfl);have hyo:atI (ys.map d7) (i:Int)=some (d7 y):=fK (by rw[EO,hy];rfl);have hF:=hFr i hi;have hT:=hTh i hi;rw[hx]at hF;rw[hy]at hT;right;refine aL (SqL.of e69) hxo ?_;right;refine qb ?_;rw[uD];right;cases x with
  |some n=>
   refine mH ?_;right;refine aL (SqL.of e69) hxo ?_;right;refine⟨by simp[EL],fun t H11 ht s11 e11=>?_⟩;refine q (.friend i) _ _ (s09.trans s11) ⟨hi,?_,hpre⟩ ⟨t,_,rfl,e11⟩ ⟨t,n,rfl,e11,hFw i hi n hx⟩;exact Gd fun hn=>by have:=hF.mpr hn;cases this
  |none=>
   refine mG ?_;right;refine aL (SqL.of e9) hyo ?_;right;refine qb ?_;rw[uD];right;cases y with
   |some n=>
    refine mH ?_;right;refine aL (SqL.of e9) hyo ?_;right;refine⟨by simp[EL],fun t H11 ht s11 e11=>?_⟩;refine q (.third i) _ _ (s09.trans s11) ⟨hi,hF.mp rfl,?_,hpre⟩ ⟨t,_,rfl,e11⟩ ⟨t,n,rfl,e11,hTw i hi n hy⟩;exact Gd fun hn=>by have:=hT.mpr hn;cases this
   |none=>
    refine mG ?_;right;refine⟨_,rfl,rfl,fun t ht=>?_⟩;rcases FK.mp ht with h|h
    ·exact hpre t h
    ·subst h;exact⟨hF.mp rfl,hT.mp rfl⟩
 ·rintro σ H10 ⟨u10,rfl,rfl,hpre⟩
  right;exact q .ok _ _ s09 hpre rfl trivial
noncomputable def cB(K:Fg):Sp:=fun vs H Q _=>∃(a:Addr)(ns:List Int)(k:Int),vs=[.ref a,.int k]/\iS K H a ns/\0<=k/\k<=1000/\∀z:Int,Q (.int z) H
noncomputable def fo(K:Fg):TS:=(ax (ck (bA (tOp (rI0 fun i j=>.bl (decide (i<j))) (ae 1) (tCB (cD K) (aa (ae 0) ah)))) (bj (tOp (aU K) (ae 0) (ae 1))) bH)
 (ax (aF (tOp (rI0 fun i j=>.int (i+j)) (tOp (rI Hv fun i j=>.int (i*j)) (ae 1) (tC (.int 7919))) (tC (.int 23))) (aj 2))
 (ax (ck (bA (tOp (rI0 fun i j=>.bl (decide (j<i))) (tCB (cD K) (aa (ae 0) ah)) (tC (.int 0)))) (aF (tOp (rI0 fun i j=>.int (i+j)) (tOp (rI Hv fun i j=>.int (i*j)) (tOp (rI (fun _ j=>0<j) fun i j=>.int (i%j)) (tOp (aU K) (ae 0) (tOp (rI (fun _ j=>0<j) fun i j=>.int (i%j)) (tOp (rI Hv fun i j=>.int (i*j)) (ae 1) (tC (.int 5))) (tCB (cD K) (aa (ae 0) ah)))) (tC (.int 2147483647))) (tC (.int 48271))) (tOp (rI Hv fun i j=>.int (i*j)) (ae 1) (tC (.int 7919)))) (aj 2)) bH)
 (ax (aF (tOp (rI (fun _ j=>0<j) fun i j=>.int (i%j)) (tOp (rI Hv fun i j=>.int (i*j)) (ae 2) (ae 2)) (tC (.int 2147483629))) (aj 2))
 (bj (tOp (rI (fun _ j=>0<j) fun i j=>.int (i%j)) (tOp (rI Hv fun i j=>.int (i*j)) (ae 2) (tOp (rI0 fun i j=>.int (i+j)) (ae 2) (tC (.int 48271)))) (tC (.int 2147483647))))))))
noncomputable abbrev qt:List Str:=["_law_script","_law_k","_law_number"]
theorem oY(h:cB K vs H Q E):fo K { nx:=fun _ H'=>Q .non H',rt:=Q } (start qt vs) H:=by
 obtain⟨a,ns,k,rfl,⟨hS,h63,hbits⟩,h0,h1,q⟩:=h;show fo K _ [some _,some _,none] _;unfold fo;have hl:(ns.map V.int).length=ns.length:=EI _;right;rw[hl];refine cO (fun c=>?_) (fun c=>?_)
 ·right
  refine aL hS (rE h0 c) ?_;exact q _
 ·refine xo ?_
  dsimp only;refine bx ?_;nofun;refine fO fun NX hNX=>?_;have last:∀n0:Int,0<=n0->n0<=1000000000000000->NX [some (.ref a),some (.int k),some (.int n0)] H:=by
   intro n0 z0 z1;refine hNX _ _ ?_;right;exact q _
  nofun;rw[hl];refine cO (fun d=>?_) (fun d=>?_)
  ·have m1:0<=k*5%(ns.length:Int):=Hk _ (by omega)
   have m2:k*5%(ns.length:Int)<(ns.length:Int):=GX _ d;nofun;rw[hl];refine aL hS (rE m1 m2) ?_;nofun;refine last _ ?_ ?_<;>omega
  ·nofun
   refine last _ ?_ ?_<;>omega
noncomputable def dU(_:Fg):Sp:=fun vs H Q _=>∃(b k:Int),vs=[.int b,.int k]/\0<=k/\k<=100000/\∀z:Int,0<=z->z<=1000003->Q (.int z) H
noncomputable def eJ(K:Fg):TS:=(ax (aF (tOp (rI (fun _ j=>0<j) fun i j=>.int (i%j)) (tOp (rI0 fun i j=>.int (i+j)) (tOp (rI0 fun i j=>.int (i+j)) (tOp (rI Hv fun i j=>.int (i*j)) (tOp (rI (fun _ j=>0<j) fun i j=>.int (i%j)) (ae 0) (tC (.int 2147483647))) (tC (.int 48271))) (tOp (rI Hv fun i j=>.int (i*j)) (ae 1) (tC (.int 69621)))) (tC (.int 3))) (tC (.int 2147483629))) (aj 2))
 (ax (aF (tOp (rI (fun _ j=>0<j) fun i j=>.int (i%j)) (tOp (rI Hv fun i j=>.int (i*j)) (ae 2) (tOp (rI0 fun i j=>.int (i+j)) (ae 2) (tC (.int 40503)))) (tC (.int 2147483647))) (aj 2))
 (bj (tOp (rI (fun _ j=>0<j) fun i j=>.int (i%j)) (tOp (rI Hv fun i j=>.int (i*j)) (ae 2) (tOp (rI0 fun i j=>.int (i+j)) (ae 2) (tC (.int 7)))) (tC (.int 1000003))))))
noncomputable abbrev oZ:List Str:=["_law_cell_here","_law_k","_law_number"]
theorem nW(h:dU K vs H Q E):eJ K { nx:=fun _ H'=>Q .non H',rt:=Q } (start oZ vs) H:=by
 obtain⟨b,k,rfl,k0,k1,q⟩:=h;show eJ K _ [some _,some _,none] _;unfold eJ;right;exact q _ (by omega) (by omega)
end
end L2
section
namespace L2
open PySem
noncomputable def dG(H:Hp)(rs:List Addr)(ws:List (List Int)):Prop:=Paired (fun(a:Addr)(w:List Int)=>H a=some (.tup (w.map V.int))) rs ws
theorem dG.same{H H':Hp}{rs:List Addr}{ws:List (List Int)}(t:dG H rs ws)(s:ak H H'):dG H' rs ws:=Paired.mapP t fun _ _ e=>s _ _ e
end L2
end
namespace L2
open PySem PyProof.Rows
noncomputable def ig(K:Fg)(t:TA):TE:=fun σ H Q=>t σ H fun xs H1=>∃(p:Addr)(rs:List Addr)(ws ds:List (List Int)),xs=[.ref p]/\SqL K H1 p (rs.map V.ref)/\dG H1 rs ws/\ds.length<=62/\(∀w∈ws,w∈ds)/\
 ∀(q:Addr)(H':Hp)(rs':List Addr)(ms:List (List Int)),H1 q=none->ak H1 H'->H' q=some (.lst (rs'.map V.ref))->dG H' rs' ms->ms.Nodup->(∀y,y∈ms↔y∈ws)->Q (.ref q) H'
theorem vM{K:Fg}{t:TA}{σ:St}{H:Hp}{Q:VK} (h:t σ H fun xs H1=>∃(p:Addr)(rs:List Addr)(ws ds:List (List Int)),xs=[.ref p]/\SqL K H1 p (rs.map V.ref)/\dG H1 rs ws/\ds.length<=62/\(∀w∈ws,w∈ds)/\
 ∀(q:Addr)(H':Hp)(rs':List Addr)(ms:List (List Int)),H1 q=none->ak H1 H'->H' q=some (.lst (rs'.map V.ref))->dG H' rs' ms->ms.Nodup->(∀y,y∈ms↔y∈ws)->Q (.ref q) H'):ig K t σ H Q:=h
noncomputable def zH:R2:=fun x y H Q=>∃(p q:Addr)(w:List Int)(rs:List Addr)(ws:List (List Int)),x=.ref q/\y=.ref p/\H q=some (.tup (w.map V.int))/\H p=some (.lst (rs.map V.ref))/\dG H rs ws/\Q (.bl (decide (w∈ws))) H
theorem De{H:Hp}{Q:VK}{p q:Addr}{w:List Int}{rs:List Addr}{ws:List (List Int)}(e:H q=some (.tup (w.map V.int)))(el:H p=some (.lst (rs.map V.ref)))(t:dG H rs ws)(h:Q (.bl (decide (w∈ws))) H):zH (.ref q) (.ref p) H Q:=⟨p,q,w,rs,ws,rfl,rfl,e,el,t,h⟩
section
variable{K:Fg}{vs:List V}{H:Hp}{Q:VK}{E:XK}
structure vN(c:Nat)(ss:List Nat):Prop where
 c7:c<=8
 l3:3<=ss.length
 l4:ss.length<=5
 sum:ss.sum<=c
 hold:∀s∈ss,(oX c s).length<=62
 few:∀k,k<6->KM.cn c (ss.drop k++ss.take k)<=2000
noncomputable def PkW(H:Hp)(x:V):Prop:=∃(t l:Addr)(c:Nat)(ss:List Nat),x=.ref t/\H t=some (.tup [.int (c:Int),.ref l])/\H l=some (.lst (ap ss))/\vN c ss
theorem PkW.same{H H':Hp}(s:ak H H'){x:V}(h:PkW H x):PkW H' x:=let⟨t,l,c,ss,e,e1,e2,p⟩:=h;⟨t,l,c,ss,e,s _ _ e1,s _ _ e2,p⟩
noncomputable def d9(H:Hp)(xs:List V):Prop:=∀x∈xs,PkW H x
theorem d9.nil(H:Hp):d9 H []:=fun x h=>by cases h
theorem d9.same{H H':Hp}(s:ak H H'){xs:List V}(h:d9 H xs):d9 H' xs:=fun x hx=>(h x hx).same s
theorem d9.snoc{H:Hp}{xs:List V}{x:V}(h:d9 H xs)(q:PkW H x):d9 H (xs++[x]):=fun y hy=>by
 rcases FC.mp hy with z|z
 ·exact h y z
 ·rw[E5.mp z];exact q
theorem d9.app{H:Hp}{xs ys:List V}(h:d9 H xs)(q:d9 H ys):d9 H (xs++ys):=fun y hy=>(FC.mp hy).elim (h y) (q y)
theorem zI{c:Nat}{ss:List Nat}(h:vN c ss){k:Nat}(hk:k<=ss.length):jo c (ss.drop k++ss.take k):=by
 have h4:=h.l4;have h3:=h.l3;have hlen:(ss.drop k++ss.take k).length=ss.length:=by rw[EX,Gz,Fo];omega
 have hsum:(ss.drop k++ss.take k).sum=ss.sum:=by
  conv=>rhs;rw[<-FZ k ss]
  rw[Gc,Gc];omega
 exact⟨⟨by have:=h.c7;omega,by rw[hlen];omega,by rw[hlen];omega,by rw[hsum];exact h.sum⟩,h.few k (by omega),h.c7,by rw[hlen];exact h3,fun s hs=>h.hold s (by
  rcases FC.mp hs with z|z
  ·exact List.mem_of_mem_drop z
  ·exact List.mem_of_mem_take z)⟩
noncomputable def gP(_:Fg):Sp:=fun vs H Q _=>∃z:Int,vs=[.int z]/\∀(t l:Addr)(c:Nat)(ss:List Nat)(H':Hp),ak H H'->H' t=some (.tup [.int (c:Int),.ref l])->H' l=some (.lst (ap ss))->jo c ss->Q (.ref t) H'
noncomputable def fq(K:Fg):TS:=(ax (aF (bg (aa (bq (aa (tC (.int 3)) (aa (bg (aa (tC (.int 1)) (aa (tC (.int 1)) (aa (tC (.int 1)) ah)))) ah))) (aa (bq (aa (tC (.int 4)) (aa (bg (aa (tC (.int 2)) (aa (tC (.int 1)) (aa (tC (.int 1)) ah)))) ah))) (aa (bq (aa (tC (.int 5)) (aa (bg (aa (tC (.int 2)) (aa (tC (.int 2)) (aa (tC (.int 1)) ah)))) ah))) (aa (bq (aa (tC (.int 4)) (aa (bg (aa (tC (.int 1)) (aa (tC (.int 1)) (aa (tC (.int 1)) ah)))) ah))) (aa (bq (aa (tC (.int 2)) (aa (bg (aa (tC (.int 1)) (aa (tC (.int 1)) (aa (tC (.int 0)) ah)))) ah))) (aa (bq (aa (tC (.int 4)) (aa (bg (aa (tC (.int 1)) (aa (tC (.int 1)) (aa (tC (.int 0)) ah)))) ah))) ah))))))) (aj 1))
 (ax (aF (tOp oS (ae 1) (bg (aa (bq (aa (tC (.int 6)) (aa (bg (aa (tC (.int 3)) (aa (tC (.int 2)) (aa (tC (.int 1)) ah)))) ah))) (aa (bq (aa (tC (.int 5)) (aa (bg (aa (tC (.int 2)) (aa (tC (.int 1)) (aa (tC (.int 1)) ah)))) ah))) (aa (bq (aa (tC (.int 5)) (aa (bg (aa (tC (.int 2)) (aa (tC (.int 2)) (aa (tC (.int 0)) ah)))) ah))) (aa (bq (aa (tC (.int 4)) (aa (bg (aa (tC (.int 1)) (aa (tC (.int 1)) (aa (tC (.int 1)) (aa (tC (.int 1)) ah))))) ah))) (aa (bq (aa (tC (.int 6)) (aa (bg (aa (tC (.int 2)) (aa (tC (.int 2)) (aa (tC (.int 2)) ah)))) ah))) (aa (bq (aa (tC (.int 3)) (aa (bg (aa (tC (.int 1)) (aa (tC (.int 0)) (aa (tC (.int 1)) (aa (tC (.int 0)) ah))))) ah))) ah)))))))) (aj 1))
 (ax (aF (tOp oS (ae 1) (bg (aa (bq (aa (tC (.int 0)) (aa (bg (aa (tC (.int 0)) (aa (tC (.int 0)) (aa (tC (.int 0)) ah)))) ah))) (aa (bq (aa (tC (.int 7)) (aa (bg (aa (tC (.int 3)) (aa (tC (.int 3)) (aa (tC (.int 1)) ah)))) ah))) (aa (bq (aa (tC (.int 5)) (aa (bg (aa (tC (.int 2)) (aa (tC (.int 1)) (aa (tC (.int 1)) (aa (tC (.int 1)) ah))))) ah))) (aa (bq (aa (tC (.int 6)) (aa (bg (aa (tC (.int 2)) (aa (tC (.int 2)) (aa (tC (.int 1)) ah)))) ah))) ah)))))) (aj 1))
 (ax (aF (tOp (aU K) (ae 1) (tOp (rI (fun _ j=>0<j) fun i j=>.int (i%j)) (ae 0) (tC (.int 16)))) (dP K 2 (be (aj 2) (be (aj 3) dO))))
 (ax (ck (bA (tOp rEq (tOp (rI (fun _ j=>0<j) fun i j=>.int (i%j)) (tOp (rI j4 fun i j=>.int (i/j)) (ae 0) (tC (.int 16))) (tC (.int 16))) (tC (.int 5)))) (ax (aF (bg (aa (bq (aa (tC (.int 7)) (aa (bg (aa (tC (.int 3)) (aa (tC (.int 2)) (aa (tC (.int 2)) ah)))) ah))) (aa (bq (aa (tC (.int 7)) (aa (bg (aa (tC (.int 2)) (aa (tC (.int 2)) (aa (tC (.int 2)) (aa (tC (.int 1)) ah))))) ah))) (aa (bq (aa (tC (.int 8)) (aa (bg (aa (tC (.int 3)) (aa (tC (.int 3)) (aa (tC (.int 1)) (aa (tC (.int 1)) ah))))) ah))) (aa (bq (aa (tC (.int 6)) (aa (bg (aa (tC (.int 2)) (aa (tC (.int 1)) (aa (tC (.int 1)) (aa (tC (.int 1)) (aa (tC (.int 1)) ah)))))) ah))) ah))))) (aj 1))
 (aF (tOp (aU K) (ae 1) (tOp (rI (fun _ j=>0<j) fun i j=>.int (i%j)) (tOp (rI j4 fun i j=>.int (i/j)) (ae 0) (tC (.int 256))) (tC (.int 4)))) (dP K 2 (be (aj 2) (be (aj 3) dO))))) bH)
 (ax (aF (tOp (rI (fun _ j=>0<j) fun i j=>.int (i%j)) (tOp (rI j4 fun i j=>.int (i/j)) (ae 0) (tC (.int 1024))) (tCB (cD K) (aa (ae 3) ah))) (aj 4))
 (bj (bq (aa (ae 2) (aa (tOp oS (tSl (vp K) (ae 3) (nq (ae 4)) jK) (tSl (vp K) (ae 3) jK (nq (ae 4)))) ah))))))))))
noncomputable abbrev qu:List Str:=["_law_cell_here","_law_some","_law_cards","_law_sizes","_law_at"]
theorem o0(h:gP K vs H Q E):fq K { nx:=fun _ H'=>Q .non H',rt:=Q } (start qu vs) H:=by
 obtain⟨z,rfl,q⟩:=h;show fq K _ [some _,none,none,none,none] _;unfold fq;refine bx ?_;have g0_0:=d9.nil H;nofun;refine⟨by simp[EL],fun la0 Ha0 _ sa0 ea0=>?_⟩;nofun;refine⟨by simp[EL],fun ta0 Hb0 _ sb0 eb0=>?_⟩;have g0_1:=(g0_0.same (sa0.trans sb0)).snoc (x:=.ref ta0) ⟨ta0,la0,3,[1,1,1],rfl,eb0,sb0 _ _ ea0,⟨by decide,by decide,by decide,by decide,by decide+kernel,by decide+kernel⟩⟩;nofun;refine⟨by simp[EL],fun la1 Ha1 _ sa1 ea1=>?_⟩;nofun;refine⟨by simp[EL],fun ta1 Hb1 _ sb1 eb1=>?_⟩;have g0_2:=(g0_1.same (sa1.trans sb1)).snoc (x:=.ref ta1) ⟨ta1,la1,4,[2,1,1],rfl,eb1,sb1 _ _ ea1,⟨by decide,by decide,by decide,by decide,by decide+kernel,by decide+kernel⟩⟩;nofun;refine⟨by simp[EL],fun la2 Ha2 _ sa2 ea2=>?_⟩;nofun;refine⟨by simp[EL],fun ta2 Hb2 _ sb2 eb2=>?_⟩;have g0_3:=(g0_2.same (sa2.trans sb2)).snoc (x:=.ref ta2) ⟨ta2,la2,5,[2,2,1],rfl,eb2,sb2 _ _ ea2,⟨by decide,by decide,by decide,by decide,by decide+kernel,by decide+kernel⟩⟩;nofun;refine⟨by simp[EL],fun la3 Ha3 _ sa3 ea3=>?_⟩;nofun;refine⟨by simp[EL],fun ta3 Hb3 _ sb3 eb3=>?_⟩;have g0_4:=(g0_3.same (sa3.trans sb3)).snoc (x:=.ref ta3) ⟨ta3,la3,4,[1,1,1],rfl,eb3,sb3 _ _ ea3,⟨by decide,by decide,by decide,by decide,by decide+kernel,by decide+kernel⟩⟩;nofun;refine⟨by simp[EL],fun la4 Ha4 _ sa4 ea4=>?_⟩;nofun;refine⟨by simp[EL],fun ta4 Hb4 _ sb4 eb4=>?_⟩;have g0_5:=(g0_4.same (sa4.trans sb4)).snoc (x:=.ref ta4) ⟨ta4,la4,2,[1,1,0],rfl,eb4,sb4 _ _ ea4,⟨by decide,by decide,by decide,by decide,by decide+kernel,by decide+kernel⟩⟩;nofun;refine⟨by simp[EL],fun la5 Ha5 _ sa5 ea5=>?_⟩;nofun;refine⟨by simp[EL],fun ta5 Hb5 _ sb5 eb5=>?_⟩;have g0_6:=(g0_5.same (sa5.trans sb5)).snoc (x:=.ref ta5) ⟨ta5,la5,4,[1,1,0],rfl,eb5,sb5 _ _ ea5,⟨by decide,by decide,by decide,by decide,by decide+kernel,by decide+kernel⟩⟩;nofun;refine⟨by simp[EL],fun ll0 Hl0 _ sl0 el0=>?_⟩;have gl0:=g0_6.same sl0;have sg0:=(((((((ak.refl H).trans (sa0.trans sb0)).trans (sa1.trans sb1)).trans (sa2.trans sb2)).trans (sa3.trans sb3)).trans (sa4.trans sb4)).trans (sa5.trans sb5)).trans sl0;have S0:ak H Hl0:=sg0;have A0:=gl0;nofun;refine bx ?_;have g1_0:=d9.nil Hl0;nofun;refine⟨by simp[EL],fun la6 Ha6 _ sa6 ea6=>?_⟩;nofun;refine⟨by simp[EL],fun ta6 Hb6 _ sb6 eb6=>?_⟩;have g1_7:=(g1_0.same (sa6.trans sb6)).snoc (x:=.ref ta6) ⟨ta6,la6,6,[3,2,1],rfl,eb6,sb6 _ _ ea6,⟨by decide,by decide,by decide,by decide,by decide+kernel,by decide+kernel⟩⟩;nofun;refine⟨by simp[EL],fun la7 Ha7 _ sa7 ea7=>?_⟩;nofun;refine⟨by simp[EL],fun ta7 Hb7 _ sb7 eb7=>?_⟩;have g1_8:=(g1_7.same (sa7.trans sb7)).snoc (x:=.ref ta7) ⟨ta7,la7,5,[2,1,1],rfl,eb7,sb7 _ _ ea7,⟨by decide,by decide,by decide,by decide,by decide+kernel,by decide+kernel⟩⟩;nofun;refine⟨by simp[EL],fun la8 Ha8 _ sa8 ea8=>?_⟩;nofun;refine⟨by simp[EL],fun ta8 Hb8 _ sb8 eb8=>?_⟩;have g1_9:=(g1_8.same (sa8.trans sb8)).snoc (x:=.ref ta8) ⟨ta8,la8,5,[2,2,0],rfl,eb8,sb8 _ _ ea8,⟨by decide,by decide,by decide,by decide,by decide+kernel,by decide+kernel⟩⟩;nofun;refine⟨by simp[EL],fun la9 Ha9 _ sa9 ea9=>?_⟩;nofun;refine⟨by simp[EL],fun ta9 Hb9 _ sb9 eb9=>?_⟩;have g1_10:=(g1_9.same (sa9.trans sb9)).snoc (x:=.ref ta9) ⟨ta9,la9,4,[1,1,1,1],rfl,eb9,sb9 _ _ ea9,⟨by decide,by decide,by decide,by decide,by decide+kernel,by decide+kernel⟩⟩;nofun;refine⟨by simp[EL],fun la10 Ha10 _ sa10 ea10=>?_⟩;nofun;refine⟨by simp[EL],fun ta10 Hb10 _ sb10 eb10=>?_⟩;have g1_11:=(g1_10.same (sa10.trans sb10)).snoc (x:=.ref ta10) ⟨ta10,la10,6,[2,2,2],rfl,eb10,sb10 _ _ ea10,⟨by decide,by decide,by decide,by decide,by decide+kernel,by decide+kernel⟩⟩;nofun;refine⟨by simp[EL],fun la11 Ha11 _ sa11 ea11=>?_⟩;nofun;refine⟨by simp[EL],fun ta11 Hb11 _ sb11 eb11=>?_⟩;have g1_12:=(g1_11.same (sa11.trans sb11)).snoc (x:=.ref ta11) ⟨ta11,la11,3,[1,0,1,0],rfl,eb11,sb11 _ _ ea11,⟨by decide,by decide,by decide,by decide,by decide+kernel,by decide+kernel⟩⟩;nofun;refine⟨by simp[EL],fun ll1 Hl1 _ sl1 el1=>?_⟩;have gl1:=g1_12.same sl1;have sg1:=(((((((ak.refl Hl0).trans (sa6.trans sb6)).trans (sa7.trans sb7)).trans (sa8.trans sb8)).trans (sa9.trans sb9)).trans (sa10.trans sb10)).trans (sa11.trans sb11)).trans sl1;nofun;refine qK (sg1 _ _ el0) el1 (by simp[EL]) fun lc1 Hc1 _ sc1 ec1=>?_;have A1:=((A0.same sg1).app gl1).same sc1;have S1:=S0.trans (sg1.trans sc1);nofun;refine bx ?_;have g2_0:=d9.nil Hc1;nofun;refine⟨by simp[EL],fun la12 Ha12 _ sa12 ea12=>?_⟩;nofun;refine⟨by simp[EL],fun ta12 Hb12 _ sb12 eb12=>?_⟩;have g2_13:=(g2_0.same (sa12.trans sb12)).snoc (x:=.ref ta12) ⟨ta12,la12,0,[0,0,0],rfl,eb12,sb12 _ _ ea12,⟨by decide,by decide,by decide,by decide,by decide+kernel,by decide+kernel⟩⟩;nofun;refine⟨by simp[EL],fun la13 Ha13 _ sa13 ea13=>?_⟩;nofun;refine⟨by simp[EL],fun ta13 Hb13 _ sb13 eb13=>?_⟩;have g2_14:=(g2_13.same (sa13.trans sb13)).snoc (x:=.ref ta13) ⟨ta13,la13,7,[3,3,1],rfl,eb13,sb13 _ _ ea13,⟨by decide,by decide,by decide,by decide,by decide+kernel,by decide+kernel⟩⟩;nofun;refine⟨by simp[EL],fun la14 Ha14 _ sa14 ea14=>?_⟩;nofun;refine⟨by simp[EL],fun ta14 Hb14 _ sb14 eb14=>?_⟩;have g2_15:=(g2_14.same (sa14.trans sb14)).snoc (x:=.ref ta14) ⟨ta14,la14,5,[2,1,1,1],rfl,eb14,sb14 _ _ ea14,⟨by decide,by decide,by decide,by decide,by decide+kernel,by decide+kernel⟩⟩;nofun;refine⟨by simp[EL],fun la15 Ha15 _ sa15 ea15=>?_⟩;nofun;refine⟨by simp[EL],fun ta15 Hb15 _ sb15 eb15=>?_⟩;have g2_16:=(g2_15.same (sa15.trans sb15)).snoc (x:=.ref ta15) ⟨ta15,la15,6,[2,2,1],rfl,eb15,sb15 _ _ ea15,⟨by decide,by decide,by decide,by decide,by decide+kernel,by decide+kernel⟩⟩;nofun;refine⟨by simp[EL],fun ll2 Hl2 _ sl2 el2=>?_⟩;have gl2:=g2_16.same sl2;have sg2:=(((((ak.refl Hc1).trans (sa12.trans sb12)).trans (sa13.trans sb13)).trans (sa14.trans sb14)).trans (sa15.trans sb15)).trans sl2;nofun;refine qK (sg2 _ _ ec1) el2 (by simp[EL]) fun lc2 Hc2 _ sc2 ec2=>?_;have A2:=((A1.same sg2).app gl2).same sc2;have S2:=S1.trans (sg2.trans sc2);nofun;obtain⟨XS,eXS,lXS,pXS⟩:∃XS:List V,Hc2 lc2=some (.lst XS)/\XS.length=16/\d9 Hc2 XS:=⟨_,ec2,rfl,A2⟩;clear ec2 A2;refine bx ?_;nofun;obtain⟨x,hx,hxm⟩:=nE XS z (m:=16) lXS (by decide);refine aL (SqL.of eXS) hx ?_;obtain⟨t,l,c,ss,rfl,e1,e2,pr⟩:=pXS x hxm;refine dE (SqT.of e1) ?_;nofun;refine fO fun NX hNX=>?_;have last:∀(u1:Option V)(l:Addr)(c:Nat)(ss:List Nat)(H0:Hp),ak H H0->H0 l=some (.lst (ap ss))->vN c ss->NX [some (.int z),u1,some (.int (c:Int)),some (.ref l),none] H0:=by
  intro u1 l c ss H0 S0 e2 pr;refine hNX _ _ ?_;clear hNX;have h3:=pr.l3;have h4:=pr.l4;right;rw[bi];obtain⟨k,hk,hkl⟩:∃k:Nat,z/1024%(ss.length:Int)=(k:Int)/\k<ss.length:=by
   have a1:=Hk (z/1024) (b:=(ss.length:Int)) (by omega);have a2:=GX (z/1024) (b:=(ss.length:Int)) (by omega);exact⟨(z/1024%(ss.length:Int)).toNat,by omega,by omega⟩
  right;rw[hk];refine AR (SqL.of e2) fun p1 H1 hp1 s1 f1=>?_;rw[zE _ _ (by rw[bi];omega)]at f1;right;refine AR (SqL.of (s1 _ _ e2)) fun p2 H2 hp2 s2 f2=>?_;rw[zD _ _ (by rw[bi];omega)]at f2;have hd:(ap ss).drop k=ap (ss.drop k):=by unfold ap;rw[Nc]
  have ht:(ap ss).take k=ap (ss.take k):=by unfold ap;rw[Nd]
  refine qK (s2 _ _ f1) f2 (by rw[hd,ht,bi,bi,Gz,Fo,EL];omega) fun p3 H3 hp3 s3 f3=>?_;right;refine⟨by simp[EL],fun p4 H4 hp4 s4 f4=>?_⟩;refine q p4 p3 c (ss.drop k++ss.take k) H4 (S0.trans ((s1.trans s2).trans (s3.trans s4))) f4 ?_ (zI pr (by omega));rw[s4 _ _ f3,hd,ht];unfold ap;rw[ET]
 clear hNX;nofun;refine cO (fun c1=>?_) (fun c1=>?_)
 rotate_left
 ·nofun
  exact last _ l c ss Hc2 S2 e2 pr
 refine bx ?_;have gG_16:=d9.nil Hc2;nofun;refine⟨by simp[EL],fun la16 Ha16 _ sa16 ea16=>?_⟩;nofun;refine⟨by simp[EL],fun ta16 Hb16 _ sb16 eb16=>?_⟩;have gG_17:=(gG_16.same (sa16.trans sb16)).snoc (x:=.ref ta16) ⟨ta16,la16,7,[3,2,2],rfl,eb16,sb16 _ _ ea16,⟨by decide,by decide,by decide,by decide,by decide+kernel,by decide+kernel⟩⟩;nofun;refine⟨by simp[EL],fun la17 Ha17 _ sa17 ea17=>?_⟩;nofun;refine⟨by simp[EL],fun ta17 Hb17 _ sb17 eb17=>?_⟩;have gG_18:=(gG_17.same (sa17.trans sb17)).snoc (x:=.ref ta17) ⟨ta17,la17,7,[2,2,2,1],rfl,eb17,sb17 _ _ ea17,⟨by decide,by decide,by decide,by decide,by decide+kernel,by decide+kernel⟩⟩;nofun;refine⟨by simp[EL],fun la18 Ha18 _ sa18 ea18=>?_⟩;nofun;refine⟨by simp[EL],fun ta18 Hb18 _ sb18 eb18=>?_⟩;have gG_19:=(gG_18.same (sa18.trans sb18)).snoc (x:=.ref ta18) ⟨ta18,la18,8,[3,3,1,1],rfl,eb18,sb18 _ _ ea18,⟨by decide,by decide,by decide,by decide,by decide+kernel,by decide+kernel⟩⟩;nofun;refine⟨by simp[EL],fun la19 Ha19 _ sa19 ea19=>?_⟩;nofun;refine⟨by simp[EL],fun ta19 Hb19 _ sb19 eb19=>?_⟩;have gG_20:=(gG_19.same (sa19.trans sb19)).snoc (x:=.ref ta19) ⟨ta19,la19,6,[2,1,1,1,1],rfl,eb19,sb19 _ _ ea19,⟨by decide,by decide,by decide,by decide,by decide+kernel,by decide+kernel⟩⟩;nofun;refine⟨by simp[EL],fun lz Hz _ sz ez=>?_⟩;have gz:=gG_20.same sz;have sgz:=(((((ak.refl Hc2).trans (sa16.trans sb16)).trans (sa17.trans sb17)).trans (sa18.trans sb18)).trans (sa19.trans sb19)).trans sz;nofun;obtain⟨x2,hx2,hxm2⟩:=nE _ (z/256) (m:=4) (show[V.ref ta16,V.ref ta17,V.ref ta18,V.ref ta19].length=4 from rfl) (by decide);refine aL (SqL.of ez) hx2 ?_;obtain⟨t3,l3,c3,ss3,rfl,e13,e23,pr3⟩:=gz x2 hxm2;refine dE (SqT.of e13) ?_;nofun;exact last _ l3 c3 ss3 Hz (S2.trans sgz) e23 pr3
end
section
variable{σ:St}{H:Hp}{Q:VK}{a:Addr}{kvs:List (Key×V)}{i:Int}{v:V}
end
section
variable{g:CF TG}{tt:CF TT}{te:CF TE}{σ₀:St}{Q:VK}{H:Hp}
end
noncomputable def o8:V->List V->Hp->VK->Prop:=fun x vs H Q=>∃(l:Addr)(xs:List V)(k:Nat)(y:V),x=.ref l/\vs=[.int (k:Int),y]/\H l=some (.lst xs)/\xs.length<E1/\k<=xs.length/\Q .non (upd H l (.lst (xs.take k++y::xs.drop k)))
theorem zJ{H:Hp}{Q:VK}{l:Addr}{xs:List V}{k:Nat}{y:V}(e:H l=some (.lst xs))(hz:xs.length<E1)(hk:k<=xs.length)(h:∀H',Off l H H'->H' l=some (.lst (xs.take k++y::xs.drop k))->Q .non H'):o8 (.ref l) [.int (k:Int),y] H Q:=⟨l,xs,k,y,rfl,rfl,e,hz,hk,h _ iJ ay⟩
section
variable{K:Fg}{vs:List V}{H:Hp}{Q:VK}{E:XK}
theorem nX{α β:Type}{F:α->β->Prop}{l l':List α}{m m':List β}(h:Paired F l m)(h':Paired F l' m'):Paired F (l++l') (m++m'):=by
 induction h with
 |nil=>exact h'
 |cons a t ih=>exact .cons a ih
theorem zK{l:Addr}{xs:List V}{k:Nat}{y:V}{H:Hp}{Q:VK}(e:H l=some (.lst xs))(hk:xs[k]?=some y)(hl:xs.length<=1000000)(h:∀H',Off l H H'->H' l=some (.lst (xs.eraseIdx k))->Q y H'):rA (.ref l) [.int (k:Int)] H Q:=by
 have hlt:k<xs.length:=(EK.mp hk).1;refine⟨l,xs,(k:Int),k,y,rfl,rfl,e,by omega,by omega,?_,hk,h _ iJ ay⟩;unfold NA;simp;omega
noncomputable def ip(_:Fg):Sp:=fun vs H Q _=>∃(z:Int)(m:Nat),vs=[.int z,.int (m:Int)]/\3<=m/\m<=1000/\∀(f:Addr)(a b e:Nat) H',H f=none->ak H H'->H' f=some (.lst [.int (a:Int),.int (b:Int),.int (e:Int)])->a<m->b<m->e<m->Q (.ref f) H'
noncomputable def gp(K:Fg):TS:=(ax (aF (AV (aa (ae 1) ah)) (aj 2))
 (ax (aF (bg ah) (aj 3))
 (ax (cp (cv (aa (tC (.int 3)) ah)) (aj 4) (ax (gT (tBM K "list" lr (ae 3) (aa (tBM K "list" rA (ae 2) (aa (tOp (rI (fun _ j=>0<j) fun i j=>.int (i%j)) (ae 0) (tCB (cD K) (aa (ae 2) ah))) ah)) ah)))
 (aF (tOp (rI j4 fun i j=>.int (i/j)) (ae 0) (tC (.int 7))) (aj 0))))
 (bj (ae 3)))))
theorem xS(xs:List Nat)(k:Nat):(ap xs).eraseIdx k=ap (xs.eraseIdx k):=by
 induction xs generalizing k with
 |nil=>rfl
 |cons a xs ih=>cases k with
  |zero=>rfl
  |succ k=>show _::(ap xs).eraseIdx k=_;rw[ih];rfl
theorem qv(h:ip K vs H Q E):gp K { nx:=fun _ H'=>Q .non H',rt:=Q } (start ["_law_cell_here","_law_many","_law_left","_law_found","_law_k"] vs) H:=by
 obtain⟨z,m,rfl,h3,hm,q⟩:=h;show gp K _ [some _,some _,none,none,none] _;unfold gp;right;refine C7 ?_;right;refine⟨m,rfl,by omega,fun c0 H1 hc0 s1 e1=>?_⟩;refine⟨c0,m,rfl,e1,by omega,fun l H2 hl s2 e2=>?_⟩;right;refine⟨by simp[EL],fun f H3 hf s3 e3=>?_⟩;have s12:=s1.trans s2;have s03:=s12.trans s3;right;refine d5 3 rfl (by decide) (by decide) (fun i σ H4=>∃(z':Int)(u4:Option V)(ls fs:List Nat),σ=[some (.int z'),some (.int (m:Int)),some (.ref l),some (.ref f),u4]/\ak H H4/\H4 l=some (.lst (ap ls))/\H4 f=some (.lst (ap fs))/\fs.length=i/\ls.length=m-i/\(∀x∈ls,x<m)/\(∀x∈fs,x<m)) ⟨z,_,EY m,[],rfl,s03,by rw[s3 _ _ e2];rfl,e3,rfl,by rw[Fw];rfl,fun x hx=>Ff.mp hx,fun x hx=>by(cases hx)⟩ ?_ ?_
 ·rintro i σ H4 hi ⟨z',u4,ls,fs,rfl,s4,el,ef,lf,ll,hls,hfs⟩
  have nlf:l≠f:=aT e2 hf;have hzl:H l=none:=s1.free hl;have hzf:H f=none:=s12.free hf;right;refine⟨nC ef,?_⟩;right;refine⟨nC el,?_⟩;right;have hll:(ap ls).length=ls.length:=EI ..;rw[hll];have hp:0<(ls.length:Int):=by omega
  right;obtain⟨k,hk,hkl⟩:∃k:Nat,z'%(ls.length:Int)=(k:Int)/\k<ls.length:=by
   have a1:=Hk z' (b:=(ls.length:Int)) (by omega);have a2:=GX z' hp;exact⟨(z'%(ls.length:Int)).toNat,by omega,by omega⟩
  rw[hk];refine zK (y:=.int ((ls.getD k 0:Nat):Int)) el (by unfold ap;rw[EO,ER,EG hkl];rfl) (by omega) fun H5 o5 e5=>?_;have ef5:H5 f=some (.lst (ap fs)):=by rw[o5 f nlf.symm];exact ef
  have hfl:(ap fs).length=fs.length:=EI ..;right;refine y7 ef5 (by rw[hfl,EL];omega) fun H6 o6 e6=>?_;right;rw[xS]at e5;refine⟨_,_,ls.eraseIdx k,fs++[ls.getD k 0],rfl,(s4.off hzl o5).off hzf o6,by rw[o6 l nlf];exact e5,by rw[e6];unfold ap;rw[ET];rfl,by rw[EX,lf];rfl,by rw[Ji hkl];omega,fun x hx=>hls x (List.mem_of_mem_eraseIdx hx),fun x hx=>?_⟩;rcases FC.mp hx with hx|hx
  ·exact hfs x hx
  ·rw[E5.mp hx,ER,EG hkl]
   exact hls _ (GK hkl)
 ·rintro σ H4 ⟨z',u4,ls,fs,rfl,s4,el,ef,lf,ll,hls,hfs⟩
  right
  match fs,lf,ef,hfs with
  | [a,b,e],_,ef,hfs=>exact q f a b e H4 (s12.free hf) s4 ef (hfs a (by simp)) (hfs b (by simp)) (hfs e (by simp))
noncomputable def cm(_:Fg):Sp:=fun vs H Q _=>∃(d:Addr)(w:List Nat)(h:Int),vs=[.ref d,.int h]/\H d=some (.tup (ap w))/\w.length<=1000/\∀p H',H p=none->ak H H'->H' p=some (.tup ((aq w h).map V.int))->Q (.ref p) H'
noncomputable def gZ(K:Fg):TS:=(bj (tCB (oT K) (aa (bL (cv (aa (tCB (cD K) (aa (ae 0) ah)) ah)) (fun _ _ _ _=>(aj 0)) (fun _ _ _ _=>(bA (tOp rEq (tOp (kT K) (ae 2) (ae 0)) (ae 1)))) (fun _ _ _ _=>(ae 0)) [none,some 1,some 0]) ah)))
theorem sk(h:cm K vs H Q E):gZ K { nx:=fun _ H'=>Q .non H',rt:=Q } (start ["_law_deal","_law_who"] vs) H:=by
 obtain⟨d,w,h,rfl,e,hl,q⟩:=h;show gZ K _ [some _,some _] _;unfold gZ;rw[fP]at e;right;rw[EI,EI];refine gI w.length (by omega) (by omega) (by omega) (fun i acc _=>acc=(iX (w.map fun(s:Nat)=>((s:Nat):Int)) h i).map V.int) (fun _ _=>rfl) ?_ ?_
 ·rintro r hr C s' H' fp i acc H2 hi ⟨s2,e2,l2,rfl⟩
  have hz:(w.map fun(s:Nat)=>((s:Nat):Int))[i]?=some ((w[i]:Nat):Int):=by rw[EO,EG hi];rfl
  have ha:atI ((w.map fun(s:Nat)=>((s:Nat):Int)).map V.int) (i:Int)=some (.int ((w[i]:Nat):Int)):=fK (by rw[EO,hz];rfl);right;refine lB (SqT.of (s2 _ _ e)) ha ?_;right;have eu:=p9 (w.map fun(s:Nat)=>((s:Nat):Int)) h i;refine cO (fun c=>?_) (fun c=>?_)
  ·right
   refine aW.put hr (fun _ _ _ _ r _=>r) s2 e2 l2 ?_;rw[eu,if_pos (by rw[hz];exact congrArg some (by simpa using c)),ET];rfl
  ·refine aW.skip s2 e2 l2 ?_
   rw[eu,if_neg (by rw[hz];intro z;exact c (by rw[Fd z])),Gw]
 ·rintro p acc H2 hp s2 e2 rfl
  right;refine BE (SqL.of e2) fun t H3 ht s3 e3=>?_;right;exact q t H3 (s2.free ht) (s2.trans s3) e3
noncomputable def fu(_:Fg):Sp:=fun vs H Q _=>∃(c:Nat)(z:Addr)(ss:List Nat),vs=[.int (c:Int),.ref z]/\H z=some (.lst (ap ss))/\jo c ss/\∀f H',H f=none->ak H H'->bf H' f (KM.aP (aS c ss) c)->Q (.ref f) H'
noncomputable def gq(K:Fg):TS:=(ax (aF (tOp oS (ae 1) (bg (aa (tOp (rI0 fun i j=>.int (i-j)) (ae 0) (tCB (vo K) (aa (ae 1) ah))) ah))) (aj 2))
 (ax (aF (bg (aa (bq ah) ah)) (aj 3))
 (ax (cp (cv (aa (ae 0) ah)) (aj 4) (ax (aF (bg ah) (aj 5))
 (ax (cp (cJ K (ae 3)) (aj 6) (gT (tBM K "list" jM (ae 5) (aa (bL (cv (aa (tCB (cD K) (aa (ae 2) ah)) ah)) (fun _ _ _ _=>(aj 0)) (fun _ _ _ _=>(bA (tOp (rI0 fun i j=>.bl (decide (i<j))) (tBT oR (ae 1) (aa (ae 0) ah)) (tOp (aU K) (ae 2) (ae 0))))) (fun _ _ _ _=>(tOp (lE K) (ae 1) (bq (aa (ae 0) ah)))) [none,some 6,some 2]) ah))))
 (aF (ae 5) (aj 3)))))
 (bj (ae 3)))))
theorem qw(h:fu K vs H Q E):gq K { nx:=fun _ H'=>Q .non H',rt:=Q } (start ["_law_cards","_law_sizes","_law_room","_law_rows","_law_card","_law_longer","_law_row"] vs) H:=by
 obtain⟨c,z,ss,rfl,ez,pw,q⟩:=h;show gq K _ [some _,some _,none,none,none,none,none] _;unfold gq;have hnl:(ap ss).length=ss.length:=EI ..;have hsum:=pw.pk.sum;have hl5:=pw.pk.l5;have hc7:=pw.c7;have hlev:=KM.eW hsum;have hfew:=pw.few;have hRs:=mO hsum;right;refine DP (ns:=ss.map fun(s:Nat)=>((s:Nat):Int)) (SqL.of (by rw[<-fP];exact ez)) ?_;rw[iW];right;rw[show(c:Int)-(ss.sum:Int)=((c-ss.sum:Nat):Int) by omega];refine⟨by simp[EL],fun y H1 hy s1 e1=>?_⟩;refine qK (s1 _ _ ez) e1 (by rw[hnl,EL];show ss.length+1<=_;omega) fun r H2 hr s2 e2=>?_;have er:H2 r=some (.lst (ap (aS c ss))):=by rw[e2];unfold ap aS;rw[ET];rfl
 have hrl:(ap (aS c ss)).length=(aS c ss).length:=EI ..;have hrl':(aS c ss).length=ss.length+1:=by unfold aS;rw[EX];rfl
 have hlev':(KM.aP (aS c ss) c).length<=2000:=by rw[show KM.aP (aS c ss) c=KM.aP (ss++[c-ss.sum]) c from rfl,hlev];exact hfew
 have hle:∀i,i<=c->(KM.aP (aS c ss) i).length<=2000:=fun i hi=>by
  have h1:=KM.rQ (room:=aS c ss) (i:=i) (by rw[hRs];exact hi);rw[hRs]at h1;omega
 have s02:=s1.trans s2;generalize aS c ss=R at *;right;refine⟨by simp[EL],fun t H3 ht s3 e3=>?_⟩;right;refine⟨by simp[EL],fun l H4 hl s4 e4=>?_⟩;have s34:=s3.trans s4;right;refine d5 c (by omega) (by omega) (by omega) (fun i σ H5=>∃(u4 u5 u6:Option V)(b:Addr),σ=[some (.int (c:Int)),some (.ref z),some (.ref r),some (.ref b),u4,u5,u6]/\ak H2 H5/\H2 b=none/\bf H5 b (KM.aP R i)) ⟨_,_,_,l,rfl,s34,s3.free hl,[t],e4,.cons (s4 _ _ e3) .nil⟩ ?_ ?_
 ·rintro i σ H5 hi ⟨u4,u5,u6,b,rfl,s5,hb,rs,eb,pb⟩
  have hi1:=hle (i+1) (by omega);have hwl:∀w∈KM.aP R i,w.length<=12:=fun w hw=>by
   have:=(KM.eV R i w hw).len;omega
  have hrsl:=bN pb;generalize hW:KM.aP R i=W at *;have hg:(KM.cF R W).length<=2000:=by rw[<-hW];exact hi1
  right;refine⟨by simp[EL],fun lg H6 hlg s6 e6=>?_⟩;have s26:=s5.trans s6;right;refine oU (rs.map V.ref) (SqL.of (s6 _ _ eb)) (fun j σ H7=>∃(u6:Option V),σ=[some (.int (c:Int)),some (.ref z),some (.ref r),some (.ref b),some (.int (i:Int)),some (.ref lg),u6]/\ak H5 H7/\bf H7 lg (KM.cF R (W.take j))) ⟨_,rfl,s6,[],e6,.nil⟩ (fun j σ H7 _ ⟨_,_,s7,_⟩=>SqL.of (s7 _ _ eb)) ?_ ?_
  ·rintro j x σ H7 hx ⟨u6,rfl,s7,ts,et,pt⟩
   obtain⟨a,ha,rfl⟩:=bZ hx;obtain⟨u,hu,ea⟩:=bT pb ha;have hu12:=hwl u (E2 hu);have gt:=KM.p5 R W j u hu;have gle:=KM.k8 R W (j+1);have htl:=bN pt;have er7:=(s5.trans s7) _ _ er;right;refine⟨nC et,?_⟩;right;rw[hrl];refine gI R.length (by omega) (by omega) (by omega) (fun k acc H8=>∃as:List Addr,acc=as.map V.ref/\Paired (fun(a:Addr)(w:List Nat)=>H8 a=some (.tup (ap w))) as ((KM.cP R u k).map fun m=>u++[m])) (fun _ _=>⟨[],rfl,.nil⟩) ?_ ?_
   ·rintro w hw C s' H' fp k acc H8 hk ⟨s8,e8,l8,as,rfl,pa⟩
    have s58:=s7.trans s8;have ea8:=s58 _ _ ea;have er8:=(s5.trans s58) _ _ er;have ns:=KM.k7 R u k;right;refine⟨⟨a,_,rfl,ea8⟩,?_⟩;right;refine⟨a,_,_,rfl,rfl,ea8,rfl,p8 u,?_⟩;rw[nP];right;refine aL (SqL.of er8) (iL hk) ?_;right;refine cO (fun cc=>?_) (fun cc=>?_)
    ·right
     refine⟨by simp[EL],fun q1 H9 hq1 s9 e9=>?_⟩;refine xu (s9 _ _ ea8) e9 (by rw[bi,EL];show u.length+1<=_;omega) fun q2 H10 s10 e10=>?_;have s810:=s9.trans s10;refine aW.put hw (fun _ _ _ _ r kp=>let⟨as,z1,z2⟩:=r;⟨as,z1,Paired.mapP z2 fun _ _ x=>kp _ _ x⟩) (s8.trans s810) (s810 _ _ e8) l8 ⟨as++[q2],by rw[ET];rfl,?_⟩;rw[ns,if_pos (by omega),ET];exact eG (Paired.mapP pa fun _ _ x=>s810 _ _ x) (by rw[e10];show _=some (HO.tup (ap (u++[k])));unfold ap;rw[ET];rfl)
    ·refine aW.skip s8 e8 l8 ⟨as,rfl,?_⟩
     rw[ns,if_neg (by omega),Gw];exact pa
   rintro w acc H8 hw s8 e8 ⟨as,rfl,pa⟩;rw[KM.jE]at pa;have hal:=bN pa;rw[gt]at gle;rw[EX]at gle;right;refine rG (s8 _ _ et) e8 (by rw[EI,EI,EL];omega) fun H9 o9 e9=>?_;have k9:=o9.keep (s8 _ _ et);right;refine⟨_,rfl,(s7.trans s8).off hlg o9,ts++as,by rw[e9,ET],?_⟩;rw[gt];exact nX (Paired.mapP pt fun _ _ x=>k9 _ _ (s8 _ _ x)) (Paired.mapP pa fun _ _ x=>k9 _ _ x)
  ·rintro σ H7 ⟨u6,rfl,s7,D7⟩
   rw[EI,hrsl,FT]at D7;right;exact⟨_,_,_,lg,rfl,s5.trans s7,s5.free hlg,by rw[KM.aP,hW];exact D7⟩
 ·rintro σ H5 ⟨u4,u5,u6,b,rfl,s5,hb,D5⟩
  right;exact q b H5 (s02.free hb) (s02.trans s5) D5
noncomputable def nY(hs:List (List Int))(nb:Nat->Nat)(i c:Nat):List (List Int):=((EY i).filter fun k=>nb k==c).map fun k=>hs.getD k []
theorem zL{hs:List (List Int)}(nd:hs.Nodup){nb:Nat->Nat}{m:Nat}(hn:∀k,k<hs.length->nb k<m):eX ((EY m).map (nY hs nb hs.length)) hs (fun x=>nb (hs.idxOf x)):=by
 have ix:∀k,k<hs.length->hs.idxOf (hs.getD k [])=k:=fun k hk=>by
  rw[ER,EG hk];show hs.idxOf hs[k]=k;have h1:hs.idxOf hs[k]<hs.length:=LS.mpr (GK hk);have h2:hs[hs.idxOf hs[k]]?=hs[k]?:=by rw[EG h1,EG hk,K8]
  exact(NW h1 nd).mp h2
 constructor
 ·intro i l hl x hx
  rw[EO]at hl;cases hr:(EY m)[i]? with
  |none=>rw[hr]at hl;cases hl
  |some i'=>
   have:i'=i:=by
    obtain⟨h1,h2⟩:=EK.mp hr;rw[HK]at h2;exact h2.symm
   subst this;rw[hr]at hl;cases hl;obtain⟨k,hk,rfl⟩:=FB.mp hx;obtain⟨h1,h2⟩:=Gv.mp hk;have hkl:=Ff.mp h1;refine⟨?_,?_⟩
   ·rw[ER,EG hkl];exact GK hkl
   ·show nb (hs.idxOf (hs.getD k []))=_
    rw[ix k hkl];exact beq_iff_eq.mp h2
 ·intro x hx
  have hlt:hs.idxOf x<hs.length:=LS.mpr hx;refine⟨nY hs nb hs.length (nb (hs.idxOf x)),by rw[EO,Gp (hn _ hlt)];rfl,?_⟩;refine FB.mpr ⟨hs.idxOf x,Gv.mpr ⟨Ff.mpr hlt,beq_self_eq_true _⟩,?_⟩;rw[ER,EG hlt];exact K8 hlt
theorem xT(hs:List (List Int))(nb:Nat->Nat)(i c:Nat):(nY hs nb i c).length<=i:=by
 unfold nY;rw[EI];exact Fz (IS _ _) (by rw[Fw];exact EM _)
theorem xU{L L':List (List (List Int))}{hs:List (List Int)}{num:List Int->Nat}(h:eX L hs num)(hl:L.length=L'.length)(p:∀(i:Nat)(l l':List (List Int)),L[i]?=some l->L'[i]?=some l'->l.Perm l'):eX L' hs num:=by
 refine⟨fun i l' hl' x hx=>?_,fun x hx=>?_⟩
 ·have hi:i<L.length:=by rw[hl];exact(EK.mp hl').1
  have e:=EG hi;exact h.mem i _ e x ((p i _ _ e hl').mem_iff.mpr hx)
 ·obtain⟨l,e,hm⟩:=h.all x hx
  have hi:num x<L'.length:=by rw[<-hl];exact(EK.mp e).1
  have e':=EG hi;exact⟨_,e',(p _ _ _ e e').mem_iff.mp hm⟩
noncomputable def fw(_:Fg):Sp:=fun vs H Q _=>∃(z:Int)(l:Addr)(c:Nat)(hs:List (List Int)),vs=[.int z,.ref l,.int (c:Int)]/\gf H l hs/\hs.Nodup/\1<=hs.length/\hs.length<=62/\c<=8/\
 ∀f (L:List (List (List Int))) (num:List Int->Nat) H',H f=none->ak H H'->cA H' f L->eX L hs num->L.length<=62->(∀l∈L,l.length<=62)->Q (.ref f) H'
noncomputable def gr(K:Fg):TS:=(ax (aF (tOp (aU K) (bg (aa (tCB AQ (aa (tC (.int 1)) (aa (ae 2) ah))) (aa (tOp (rI0 fun i j=>.int (i+j)) (tC (.int 1)) (tOp (rI (fun _ j=>0<j) fun i j=>.int (i%j)) (tOp (rI j4 fun i j=>.int (i/j)) (ae 0) (tC (.int 4))) (tC (.int 9)))) ah))) (tOp (rI (fun _ j=>0<j) fun i j=>.int (i%j)) (tOp (rI j4 fun i j=>.int (i/j)) (ae 0) (tC (.int 36))) (tC (.int 2)))) (aj 3))
 (ax (ck (bA (tOp rEq (tOp (rI (fun _ j=>0<j) fun i j=>.int (i%j)) (ae 0) (tC (.int 4))) (tC (.int 2)))) (aF (tCB (cD K) (aa (ae 1) ah)) (aj 3)) bH)
 (ax (aF (bL (cv (aa (ae 3) ah)) (fun _ _ _ _=>(aj 0)) (fun _ _ _ _=>bB) (fun _ _ _ _=>(bg ah)) [none]) (aj 4))
 (ax (cp (cv (aa (tCB (cD K) (aa (ae 1) ah)) ah)) (aj 5) (ax (aF (tOp (rI (fun _ j=>0<j) fun i j=>.int (i%j)) (tOp (aU K) (bg (aa (tCB (vJ K) (aa (tOp (aU K) (ae 1) (ae 5)) ah)) (aa (tCB (vJ K) (aa (tOp (aU K) (ae 1) (ae 5)) ah)) (aa (ae 5) (aa (aJ (dU K) [] E0 (aa (ae 0) (aa (ae 5) ah))) ah))))) (tOp (rI (fun _ j=>0<j) fun i j=>.int (i%j)) (ae 0) (tC (.int 4)))) (ae 3)) (aj 6))
 (gT (tBM K "list" o8 (tOp (aU K) (ae 4) (ae 6)) (aa (tOp (rI (fun _ j=>0<j) fun i j=>.int (i%j)) (aJ (dU K) [] E0 (aa (ae 0) (aa (tOp (rI0 fun i j=>.int (i+j)) (ae 5) (tC (.int 200))) ah))) (tOp (rI0 fun i j=>.int (i+j)) (tCB (cD K) (aa (tOp (aU K) (ae 4) (ae 6)) ah)) (tC (.int 1)))) (aa (tOp (aU K) (ae 1) (ae 5)) ah))))))
 (bj (ae 4))))))
theorem qc{α β:Type}{F:α->β->Prop}:∀{l:List α} {m:List β},l.length=m.length->(∀(i:Nat)(x:α)(y:β),l[i]?=some x->m[i]?=some y->F x y)->Paired F l m
 | [],[],_,_=>.nil
 |x::l,y::m,hl,h=>.cons (h 0 x y rfl rfl) (qc (by simpa using hl) fun i a b ha hb=>h (i+1) a b ha hb)
 | [],_::_,hl,_=>by simp at hl
 |_::_,[],hl,_=>by simp at hl
theorem qx(h:fw K vs H Q E):gr K { nx:=fun _ H'=>Q .non H',rt:=Q } (start ["_law_cell_here","_law_holdings","_law_cards","_law_many","_law_made","_law_k","_law_number"] vs) H:=by
 obtain⟨z,l,c,hs,rfl,HA,nd,hh1,hhl,hc,q⟩:=h;show gr K _ [some _,some _,some _,none,none,none,none] _;unfold gr;obtain⟨ts,el,pt⟩:=id HA;have htl:=bN pt;have z9:0<=z/4%9/\z/4%9<9:=⟨Hk _ (by decide),GX _ (by decide)⟩;refine bx ?_;nofun;refine⟨by simp[EL],fun l1 H1 hl1 s1 e1=>?_⟩;nofun;obtain⟨x,hx,hxm⟩:=nE _ (z/36) (m:=2) (show[V.int (if(c:Int)>1 then(c:Int)else 1),V.int (1+z/4%9)].length=2 from rfl) (by decide);refine aL (SqL.of e1) hx ?_;obtain⟨m0,rfl,hm1,hm9⟩:∃m:Nat,x=.int (m:Int)/\1<=m/\m<=9:=by
  simp only[EV,FJ,or_false]at hxm;rcases hxm with rfl|rfl
  ·by_cases h:(c:Int)>1
   ·rw[if_pos h];exact⟨c,rfl,by omega,by omega⟩
   ·rw[if_neg h];exact⟨1,rfl,by omega,by omega⟩
  ·exact⟨(1+z/4%9).toNat,by rw[show(((1+z/4%9).toNat:Nat):Int)=1+z/4%9 by omega],by omega,by omega⟩
 nofun;refine fO fun NX hNX=>?_;have last:∀m:Nat,1<=m->m<=62->NX [some (.int z),some (.ref l),some (.int (c:Int)),some (.int (m:Int)),none,none,none] H1:=by
  intro m hm1 hm9;refine hNX _ _ ?_;right;refine xP m (by omega) (by omega) (by omega) (fun p i acc H2=>∃as:List Addr,acc=as.map V.ref/\as.length=i/\as.Nodup/\∀b∈as,b≠p/\H1 b=none/\H2 b=some (.lst [])) (fun p H' s=>⟨[],rfl,rfl,.nil,fun b hb=>by(cases hb)⟩) ?_ ?_
  ·rintro p hp C s' H' fp i acc H2 hi ⟨s2,e2,l2,as,rfl,la,nda,h2⟩
   right;refine⟨by simp[EL],fun b H3 hb s3 e3=>?_⟩;have nb:b≠p:=(aT e2 hb).symm;refine⟨s3 _ _ e2,(s2.trans s3).upd hp _,ay,by rw[EX];exact Ko l2 1,as++[b],by rw[ET];rfl,by rw[EX,la];rfl,?_,fun cc hcc=>?_⟩
   ·refine NY.mpr ⟨nda,by simp,fun x hx y hy e=>?_⟩
    rw[E5.mp hy]at e;subst e;rw[(h2 x hx).2.2]at hb;cases hb
   ·rcases FC.mp hcc with hcc|hcc
    ·exact⟨(h2 cc hcc).1,(h2 cc hcc).2.1,by rw[aQ (h2 cc hcc).1];exact s3 _ _ (h2 cc hcc).2.2⟩
    ·rw[E5.mp hcc]
     exact⟨nb,s2.free hb,by rw[aQ nb];exact e3⟩
  rintro p acc H2 hp s2 e2 ⟨as,rfl,la,nda,h2⟩;have s12:=s1.trans s2;have el2:=s12 _ _ el;right;rw[EI,htl];refine d5 hs.length (by omega) (by omega) (by omega) (fun i σ H3=>∃(u5 u6:Option V)(nb:Nat->Nat)(kf:Nat->List Nat),σ=[some (.int z),some (.ref l),some (.int (c:Int)),some (.int (m:Int)),some (.ref p),u5,u6]/\ak H1 H3/\H3 p=some (.lst (as.map V.ref))/\(∀k,k<i->nb k<m)/\∀(cc:Nat)(b:Addr),as[cc]?=some b->b≠p/\H1 b=none/\H3 b=some (.lst ((kf cc).map fun k=>V.ref (ts.getD k 0)))/\(kf cc).Perm ((EY i).filter fun k=>nb k==cc)) ⟨_,_,fun _=>0,fun _=>[],rfl,s2,e2,fun k h=>by omega,fun cc b hb=>⟨(h2 b (E2 hb)).1,(h2 b (E2 hb)).2.1,(h2 b (E2 hb)).2.2,Gi.refl _⟩⟩ ?_ ?_
  ·rintro i σ H3 hi ⟨u5,u6,nb,kf,rfl,s3,e3,hnb,h3⟩
   have s13:=s1.trans s3;have el3:=s13 _ _ el;obtain⟨t,ht⟩:∃t,ts[i]?=some t:=⟨ts[i]'(by omega),EG (by omega)⟩;obtain⟨x,hx',ex⟩:=bT pt ht;right;refine aL (SqL.of el3) (bu ht) ?_;right;refine xM (SqT.of (s13 _ _ ex)) ?_;right;refine aL (SqL.of el3) (bu ht) ?_;right;refine xM (SqT.of (s13 _ _ ex)) ?_;right;refine⟨z,(i:Int),rfl,by omega,by omega,fun y y0 y1=>?_⟩;right;refine⟨by simp[EL],fun l4 H4 hl4 s4 e4=>?_⟩;right;obtain⟨v,hv,hvm⟩:=nE _ z (m:=4) (show[V.int x.sum,V.int x.sum,V.int (i:Int),V.int y].length=4 from rfl) (by decide);obtain⟨nn,rfl⟩:∃nn:Int,v=.int nn:=by
    simp only[EV,FJ,or_false]at hvm;rcases hvm with rfl|rfl|rfl|rfl<;>exact⟨_,rfl⟩
   refine aL (SqL.of e4) hv ?_;right;obtain⟨cc,hcc,hccm⟩:∃cc:Nat,nn%(m:Int)=(cc:Int)/\cc<m:=by
    have a1:=Hk nn (b:=(m:Int)) (by omega);have a2:=GX nn (b:=(m:Int)) (by omega);exact⟨(nn%(m:Int)).toNat,by omega,by omega⟩
   rw[hcc];obtain⟨b,hb⟩:∃b,as[cc]?=some b:=⟨as[cc]'(by omega),EG (by omega)⟩;obtain⟨b1,b2,b3,bp⟩:=h3 cc b hb;refine aL (SqL.of (s4 _ _ e3)) (bu hb) ?_;have b4:=s4 _ _ b3;have hcl:(kf cc).length<=62:=by
    rw[bp.length_eq];exact Fz (IS _ _) (by rw[Fw];omega)
   refine⟨nC b4,?_⟩;right;refine⟨z,(i:Int)+200,rfl,by omega,by omega,fun y' y0' y1'=>?_⟩;right;refine aL (SqL.of (s4 _ _ e3)) (bu hb) ?_;right;rw[EI];obtain⟨w,hw,hwl⟩:∃w:Nat,y'%(((kf cc).length:Int)+1)=(w:Int)/\w<=(kf cc).length:=by
    have a1:=Hk y' (b:=((kf cc).length:Int)+1) (by omega);have a2:=GX y' (b:=((kf cc).length:Int)+1) (by omega);exact⟨(y'%(((kf cc).length:Int)+1)).toNat,by omega,by omega⟩
   rw[hw];refine aL (SqL.of (s4 _ _ el3)) (bu ht) ?_;right;refine zJ b4 (by rw[EI,EL];omega) (by rw[EI];exact hwl) fun H5 o5 e5=>?_;right;have htg:ts.getD i 0=t:=by rw[ER,ht];rfl
   refine⟨_,_,fun k=>if k=i then cc else nb k,fun c'=>if c'=cc then(kf cc).take w++i::(kf cc).drop w else kf c',rfl,(s3.trans s4).off b2 o5,by rw[o5 p b1.symm];exact s4 _ _ e3,fun k hk=>?_,fun c' b' hb'=>?_⟩
   ·show(if k=i then cc else nb k)<m
    split
    ·exact hccm
    ·exact hnb k (by omega)
   ·obtain⟨c1,c2,c3,c4⟩:=h3 c' b' hb'
    refine⟨c1,c2,?_⟩;have hpre:(EY i).filter (fun k=>(if k=i then cc else nb k)==c')=(EY i).filter fun k=>nb k==c':=JW fun k hk=>by
     have:=Ff.mp hk;rw[if_neg (by omega)]
    have hfl:(EY (i+1)).filter (fun k=>(if k=i then cc else nb k)==c')=((EY i).filter fun k=>nb k==c')++if cc=c' then[i]else[]:=by
     rw[GI,HJ,hpre]
     congr 1
     by_cases zz:cc=c'
     ·rw[if_pos zz,JO (by simp[zz])];rfl
     ·rw[if_neg zz,Il (by simp[zz])];rfl
    rw[hfl];dsimp only;by_cases zz:c'=cc
    ·subst zz
     rw[hb]at hb';cases hb';rw[if_pos rfl,if_pos rfl,e5];refine⟨?_,?_⟩
     ·rw[<-Nd,<-Nc,ET,E6,htg]
     ·have:=LU (a:=i) (l₁:=(kf c').take w) (l₂:=(kf c').drop w)
      rw[FZ]at this;exact this.trans ((Gi.cons i bp).trans (List.perm_append_singleton i _).symm)
    ·rw[if_neg zz,if_neg (Ge zz),Gw,o5 b' (fun w=>zz ?_)]
     ·exact⟨s4 _ _ c3,c4⟩
     ·subst w
      exact(NW (EK.mp hb').1 nda).mp (hb'.trans hb.symm)
  ·rintro σ H3 ⟨u5,u6,nb,kf,rfl,s3,e3,hnb,h3⟩
   right;have s03:=s1.trans s3;have at_:∀cc,cc<m->(kf cc).Perm ((EY hs.length).filter fun k=>nb k==cc):=fun cc hcc=>(h3 cc _ (EG (show cc<as.length by omega))).2.2.2;have pm:∀cc,cc<m->((kf cc).map fun k=>hs.getD k []).Perm (nY hs nb hs.length cc):=fun cc hcc=>(at_ cc hcc).map _;refine q p ((EY m).map fun cc=>(kf cc).map fun k=>hs.getD k []) (fun x=>nb (hs.idxOf x)) H3 (s1.free hp) s03 ⟨as,e3,?_⟩ (xU (zL nd hnb) (by rw[EI,EI]) fun i l1 l2 h1 h2=>?_) (by rw[EI,Fw];exact hm9) (fun l' hl'=>?_)
   ·refine qc (by rw[EI,Fw];exact la) fun i b y hb hy=>?_
    obtain⟨c1,c2,c3,c4⟩:=h3 i b hb;have hi:i<m:=by rw[<-la];exact(EK.mp hb).1
    rw[EO,Gp hi]at hy;cases hy;refine⟨(kf i).map fun k=>ts.getD k 0,by rw[c3,G6];rfl,?_⟩;have go:∀ks:List Nat,(∀k∈ks,k<hs.length)->Paired (fun(t:Addr)(x:List Int)=>H3 t=some (.tup (x.map V.int))) (ks.map fun k=>ts.getD k 0) (ks.map fun k=>hs.getD k []):=by
     intro ks
     induction ks with
     |nil=>exact fun _=>.nil
     |cons k ks ih=>
      intro hk;refine .cons ?_ (ih fun k' h'=>hk k' (by simp[h']));have hkl:=hk k (by simp);obtain⟨x,hx',ex⟩:=bT pt (EG (show k<ts.length by omega));show H3 (ts.getD k 0)=some (HO.tup ((hs.getD k []).map V.int));rw[ER,ER,EG (show k<ts.length by omega),hx'];exact s03 _ _ ex
    exact go _ fun k hk=>Ff.mp (Gv.mp (c4.mem_iff.mp hk)).1
   ·have hi:i<m:=by have:=(EK.mp h1).1;rw[EI,Fw]at this;exact this
    rw[EO,Gp hi]at h1 h2;cases h1;cases h2;exact(pm i hi).symm
   ·obtain⟨i,hi,rfl⟩:=FB.mp hl'
    rw[(pm i (Ff.mp hi)).length_eq];exact Fz (xT _ _ _ _) hhl
 have el1:=s1 _ _ el;nofun;refine cO (fun h=>?_) (fun h=>?_)
 ·nofun
  rw[EI,htl];exact last hs.length hh1 hhl
 ·nofun
  exact last m0 hm1 (by omega)
end
noncomputable def i6(H:Hp)(a:Addr)(v:List Int)(m:Int):Prop:=∃p,H a=some (.tup [.ref p,.int m])/\H p=some (.tup (v.map V.int))
noncomputable def qP:R2:=fun x y H Q=>∃(a b:Addr)(v w:List Int)(m n:Int),x=.ref a/\y=.ref b/\i6 H a v m/\i6 H b w n/\Q (.bl (decide (v=w/\m=n))) H
theorem xV{a b:Addr}{v w:List Int}{m n:Int}{H:Hp}{Q:VK}(h1:i6 H a v m)(h2:i6 H b w n)(q:Q (.bl (decide (v=w/\m=n))) H):qP (.ref a) (.ref b) H Q:=⟨a,b,v,w,m,n,rfl,rfl,h1,h2,q⟩
theorem i6.same{H H':Hp}{a:Addr}{v:List Int}{m:Int}(h:i6 H a v m)(s:ak H H'):i6 H' a v m:=let⟨p,e1,e2⟩:=h;⟨p,s _ _ e1,s _ _ e2⟩
end L2
section
namespace L2
open PySem
end L2
end
section
namespace L2
open PySem
theorem xW{α:Type}[DecidableEq α]:∀{l m:List α},l.Nodup->(∀x∈l,x∈m)->l.length<=m.length
 | [],m,_,_=>Fy _
 |x::l,m,nd,h=>by
  have hx:x∈m:=h x EW;obtain⟨n1,n2⟩:=GT.mp nd;have:=xW (m:=m.erase x) n2 fun y hy=>(Ks (fun e:y=x=>n1 (e▸hy))).mpr (h y (E3 _ hy));rw[JE hx]at this;have:=IB hx;rw[Fu];omega
end L2
end
namespace L2
open PySem PyProof.Rows
section
variable{K:Fg}{vs:List V}{H:Hp}{Q:VK}{E:XK}
noncomputable def gQ(_:Fg):Sp:=fun vs H Q _=>∃(p t:Addr)(L:List (List (List Int)))(hs:List (List Int))(num:List Int->Nat)(x:List Int),vs=[.ref p,.ref t]/\cA H p L/\eX L hs num/\H t=some (.tup (x.map V.int))/\x∈hs/\L.length<=1000/\∀H',ak H H'->Q (.int (num x:Nat)) H'
noncomputable def fz(K:Fg):TS:=(bj (tOp (aU K) (bL (cv (aa (tCB (cD K) (aa (ae 0) ah)) ah)) (fun _ _ _ _=>(aj 0)) (fun _ _ _ _=>(bA (tOp zH (ae 1) (tOp (aU K) (ae 2) (ae 0))))) (fun _ _ _ _=>(ae 0)) [none,some 1,some 0]) (tC (.int 0))))
theorem pc(h:gQ K vs H Q E):fz K { nx:=fun _ H'=>Q .non H',rt:=Q } (start ["_law_lists_here","_law_held_here"] vs) H:=by
 obtain⟨p,t,L,hs,num,x,rfl,W,ok,et,hx,hL,q⟩:=h;show fz K _ [some _,some _] _;unfold fz;obtain⟨ls,ep,pl⟩:=id W;have hll:=bN pl;obtain⟨l0,hl0,hin0⟩:=ok.all _ hx;have hnl:num x<L.length:=(EK.mp hl0).1;right;rw[EI,hll];refine gI L.length (by omega) (by omega) (by omega) (fun k acc _=>acc=if num x<k then[V.int ((num x:Nat):Int)]else[]) (fun _ _=>by rw[if_neg (by omega)]) ?_ ?_
 ·rintro y hy C s' H' fp k acc H4 hk ⟨s4,e4,l4,rfl⟩
  obtain⟨b,hb⟩:∃b,ls[k]?=some b:=⟨ls[k]'(by omega),EG (by omega)⟩;obtain⟨l,hl,ts,eb,pt⟩:=bT pl hb;have hiff:x∈l↔k=num x:=⟨fun z=>(ok.mem k l hl _ z).2.symm,fun z=>by rw[<-z,hl]at hl0;cases hl0;exact hin0⟩;right;refine aL (SqL.of (s4 _ _ ep)) (bu hb) ?_;refine De (s4 _ _ et) (s4 _ _ eb) (Paired.mapP pt fun _ _ q=>s4 _ _ q) ?_;right;refine cO (fun cc=>?_) (fun cc=>?_)
  ·have hkn:=hiff.mp cc
   right;refine aW.put hy (fun _ _ _ _ r _=>r) s4 e4 l4 ?_;rw[if_neg (by omega),if_pos (by omega),<-hkn];rfl
  ·have hkn:k≠num x:=fun z=>cc (hiff.mpr z)
   refine aW.skip s4 e4 l4 ?_;by_cases z:num x<k
   ·rw[if_pos z,if_pos (by omega)]
   ·rw[if_neg z,if_neg (by omega)]
 rintro y acc H4 hy s4 e4 rfl;rw[if_pos hnl]at e4;right;refine aL (SqL.of e4) (v:=.int ((num x:Nat):Int)) rfl ?_;exact q H4 s4
noncomputable def FrX(ws:List (List Nat))(a b e:Int)(num:List Int->Nat)(H:Hp)(v:V):Prop:=
 (v=.non/\∀i,i<ws.length->(∀j,¬FrW ws a b num i j)/\∀c,¬ThW ws a e num i c)\/
 (∃(t:Addr)(i j:Nat),v=.ref t/\H t=some (.tup [.str "friend",.int (i:Int),.int (j:Int)])/\i<ws.length/\bI (FrW ws a b num i) j/\∀i',i'<i->(∀j,¬FrW ws a b num i' j)/\∀c,¬ThW ws a e num i' c)\/
 (∃(t:Addr)(i c:Nat),v=.ref t/\H t=some (.tup [.str "third",.int (i:Int),.int (c:Int)])/\i<ws.length/\(∀j,¬FrW ws a b num i j)/\bI (ThW ws a e num i) c/\∀i',i'<i->(∀j,¬FrW ws a b num i' j)/\∀c,¬ThW ws a e num i' c)
noncomputable def eY(_:Fg):Sp:=fun vs H Q _=>∃(d p:Addr)(a b e C:Nat)(ws:List (List Nat))(L:List (List (List Int)))(hs:List (List Int))(num:List Int->Nat),vs=[.ref d,.ref p,.int (a:Int),.int (b:Int),.int (e:Int)]/\bf H d ws/\cA H p L/\eX L hs num/\(∀w∈ws,aq w (a:Int)∈hs)/\(∀w∈ws,w.length=C)/\C<=1000/\ws.length<=2000/\L.length<=1000/\
 ∀v H',ak H H'->FrX ws (a:Int) (b:Int) (e:Int) num H' v->Q v H'
noncomputable def iD(K:Fg):TS:=(ax (aF (bL (cJ K (ae 0)) (fun _ _ _ _=>(aj 0)) (fun _ _ _ _=>bB) (fun _ _ _ _=>(aJ (cm K) [] E0 (aa (ae 0) (aa (ae 1) ah)))) [none,some 2]) (aj 5))
 (ax (aF (bL (cJ K (ae 5)) (fun _ _ _ _=>(aj 0)) (fun _ _ _ _=>bB) (fun _ _ _ _=>(aJ (gQ K) [] E0 (aa (ae 1) (aa (ae 0) ah)))) [none,some 1]) (aj 6))
 (ax (aF (bL (cv (aa (tCB (cD K) (aa (ae 0) ah)) ah)) (fun _ _ _ _=>(aj 0)) (fun _ _ _ _=>bB) (fun _ _ _ _=>(bq (aa (aJ (cm K) [] E0 (aa (tOp (aU K) (ae 3) (ae 0)) (aa (ae 1) ah))) (aa (tOp (aU K) (ae 2) (ae 0)) ah)))) [none,some 3,some 6,some 0]) (aj 7))
 (ax (aF (bL (cv (aa (tCB (cD K) (aa (ae 0) ah)) ah)) (fun _ _ _ _=>(aj 0)) (fun _ _ _ _=>bB) (fun _ _ _ _=>(bq (aa (aJ (cm K) [] E0 (aa (tOp (aU K) (ae 3) (ae 0)) (aa (ae 1) ah))) (aa (tOp (aU K) (ae 2) (ae 0)) ah)))) [none,some 4,some 6,some 0]) (aj 8))
 (ax (cp (cv (aa (tCB (cD K) (aa (ae 0) ah)) ah)) (aj 9) (ax (cp (cv (aa (tCB (cD K) (aa (ae 0) ah)) ah)) (aj 10) (ck (qY (bA (tOp qP (tOp (aU K) (ae 7) (ae 10)) (tOp (aU K) (ae 7) (ae 9)))) (bA (tOp (yX (SqT K) true) (tOp (aU K) (ae 5) (ae 10)) (tOp (aU K) (ae 5) (ae 9))))) (bj (bq (aa (tC (.str "friend")) (aa (ae 9) (aa (ae 10) ah))))) bH))
 (ax (aF (bL (cv (aa (tCB (cD K) (aa (ae 0) ah)) ah)) (fun _ _ _ _=>(aj 0)) (fun _ _ _ _=>(bA (tOp qP (tOp (aU K) (ae 2) (ae 0)) (tOp (aU K) (ae 2) (ae 3))))) (fun _ _ _ _=>(tOp (aU K) (ae 1) (ae 0))) [none,some 0,some 8,some 9]) (aj 11))
 (cp (cv (aa (tCB (cD K) (aa (tOp (aU K) (ae 0) (ae 9)) ah)) ah)) (aj 12) (ck (qY (bA (tOp rNe (tOp (kT K) (tOp (aU K) (ae 0) (ae 9)) (ae 12)) (ae 4))) (tB (tCB (CV K) (aa (bL (cJ K (ae 11)) (fun _ _ _ _=>(aj 0)) (fun _ _ _ _=>bB) (fun _ _ _ _=>(tOp rEq (tOp (kT K) (ae 0) (ae 1)) (tOp (kT K) (tOp (aU K) (ae 2) (ae 3)) (ae 1)))) [none,some 12,some 0,some 9]) ah)))) (bj (bq (aa (tC (.str "third")) (aa (ae 9) (aa (ae 12) ah))))) bH)))))
 (bj (tC .non)))))))
theorem tZ(h:eY K vs H Q E):iD K { nx:=fun _ H'=>Q .non H',rt:=Q } (start ["_law_deals_here","_law_lists_here","_law_a","_law_b","_law_e","_law_told_here","_law_numbers","_law_friends","_law_thirds","_law_k","_law_j","_law_alike","_law_card"] vs) H:=by
 obtain⟨d,p,a,b,e,C,ws,L,hs,num,rfl,DA,W,ok,hw,hwl,hC,hx2,hLl,q⟩:=h;show iD K _ [some _,some _,some _,some _,some _,none,none,none,none,none,none,none,none] _;unfold iD;obtain⟨rs,ed,pd⟩:=id DA;have htl:=bN pd;have dat:∀{i:Nat},i<ws.length->∃r w,rs[i]?=some r/\ws[i]?=some w/\H r=some (.tup (ap w))/\w.length=C:=fun{i} hi=>by
  obtain⟨w,hwi,ew⟩:=bT pd (EG (show i<rs.length by omega));exact⟨_,w,EG _,hwi,ew,hwl w (E2 hwi)⟩
 right;refine gJ (rs.map V.ref) (SqL.of ed) (by rw[EI];omega) (fun i acc H4=>∃ts:List Addr,acc=ts.map V.ref/\Paired (fun(t:Addr)(x:List Int)=>H4 t=some (.tup (x.map V.int))) ts ((ws.take i).map fun w=>aq w (a:Int))) (fun _ _=>⟨[],rfl,.nil⟩) ?_ ?_
 ·rintro w hw' C' s' H' fp i x acc H4 hx ⟨s4,e4,l4,ts,rfl,pt⟩
  obtain⟨r,hr,rfl⟩:=bZ hx;obtain⟨u,hu,eu⟩:=bT pd hr;right;refine⟨r,u,(a:Int),rfl,s4 _ _ eu,by rw[hwl u (E2 hu)];omega,fun t H5 ht s5 e5=>?_⟩;right;refine aW.put hw' (fun _ _ _ _ r kp=>let⟨ts,z1,z2⟩:=r;⟨ts,z1,Paired.mapP z2 fun _ _ x=>kp _ _ x⟩) (s4.trans s5) (s5 _ _ e4) l4 ⟨ts++[t],by rw[ET];rfl,?_⟩;rw[cT hu,ET];exact eG (Paired.mapP pt fun _ _ q=>s5 _ _ q) e5
 rintro tl acc H4 htl4 s4 e4 ⟨ts,rfl,pt⟩;rw[EI,htl,FT]at pt;have ltt:ts.length=ws.length:=by rw[bN pt,EI]
 right;refine gJ (ts.map V.ref) (SqL.of e4) (by rw[EI];omega) (fun i acc _=>acc=ap ((ws.take i).map fun w=>num (aq w (a:Int)))) (fun _ _=>rfl) ?_ ?_
 ·rintro w hw' C' s' H' fp i x acc H5 hx ⟨s5,e5,l5,rfl⟩
  obtain⟨t,ht,rfl⟩:=bZ hx;obtain⟨y,hy,ey⟩:=bT pt ht;have hi:i<ws.length:=by rw[<-ltt];exact(EK.mp ht).1
  obtain⟨r,u,hr,hu,eu,lu⟩:=dat hi;rw[EO,hu]at hy;cases hy;right;refine⟨p,t,L,hs,num,aq u (a:Int),rfl,(W.same s4).same s5,ok,s5 _ _ ey,hw u (E2 hu),hLl,fun H6 s6=>?_⟩;refine aW.put hw' (fun _ _ _ _ r _=>r) (s5.trans s6) (s6 _ _ e5) l5 ?_;rw[cT hu,ET];exact jk _ _
 rintro nl acc H5 hnl s5 e5 rfl;rw[EI,ltt,FT]at e5;have numAt5:∀{i:Nat} {w:List Nat},ws[i]?=some w->atI (ap (ws.map fun w=>num (aq w (a:Int)))) (i:Int)=some (.int ((num (aq w (a:Int)):Nat):Int)):=fun h=>iY (by rw[EO,h];rfl);right;have s05:=s4.trans s5;refine lD (ys:=rs.map V.ref) (SqL.of (s05 _ _ ed)) ?_;right;rw[EI,htl];refine gI ws.length (by omega) (by omega) (by omega) (fun i acc H'=>∃fs:List Addr,acc=fs.map V.ref/\Paired (fun(f:Addr)(w:List Nat)=>i6 H' f (aq w (b:Int)) ((num (aq w (a:Int)):Nat):Int)) fs (ws.take i)) (fun _ _=>⟨[],rfl,.nil⟩) ?_ ?_
 ·rintro w hw' C' s' H' fp i acc H6 hi ⟨s6,e6,l6,fs,rfl,pf⟩
  obtain⟨r,u,hr,hu,eu,lu⟩:=dat hi;right;refine aL (SqL.of (s6 _ _ (s05 _ _ ed))) (bu hr) ?_;right;refine⟨r,u,(b:Int),rfl,s6 _ _ (s05 _ _ eu),by omega,fun t H7 ht s7 e7=>?_⟩;right;refine aL (SqL.of (s7 _ _ (s6 _ _ e5))) (numAt5 hu) ?_;right;refine⟨by simp[EL],fun tq H8 htq s8 e8=>?_⟩;have s78:=s7.trans s8;refine aW.put hw' (fun _ _ _ _ r kp=>let⟨ts,z1,z2⟩:=r;⟨ts,z1,Paired.mapP z2 fun _ _ ⟨p,q1,q2⟩=>⟨p,kp _ _ q1,kp _ _ q2⟩⟩) (s6.trans s78) (s78 _ _ e6) l6 ⟨fs++[tq],by rw[ET];rfl,?_⟩;rw[cT hu];exact eG (Paired.mapP pf fun _ _ z=>z.same s78) ⟨t,e8,s8 _ _ e7⟩
 rintro fl acc H6 hfl s6 e6 ⟨fs,rfl,pf⟩;rw[FT]at pf;right;have s06:=s05.trans s6;refine lD (ys:=rs.map V.ref) (SqL.of (s06 _ _ ed)) ?_;right;rw[EI,htl];refine gI ws.length (by omega) (by omega) (by omega) (fun i acc H'=>∃gs:List Addr,acc=gs.map V.ref/\Paired (fun(f:Addr)(w:List Nat)=>i6 H' f (aq w (e:Int)) ((num (aq w (a:Int)):Nat):Int)) gs (ws.take i)) (fun _ _=>⟨[],rfl,.nil⟩) ?_ ?_
 ·rintro w hw' C' s' H' fp i acc H7 hi ⟨s7,e7,l7,gs,rfl,pg⟩
  obtain⟨r,u,hr,hu,eu,lu⟩:=dat hi;right;refine aL (SqL.of (s7 _ _ (s06 _ _ ed))) (bu hr) ?_;right;refine⟨r,u,(e:Int),rfl,s7 _ _ (s06 _ _ eu),by omega,fun t H8 ht s8 e8=>?_⟩;right;refine aL (SqL.of (s8 _ _ (s7 _ _ (s6 _ _ e5)))) (numAt5 hu) ?_;right;refine⟨by simp[EL],fun tq H9 htq s9 e9=>?_⟩;have s89:=s8.trans s9;refine aW.put hw' (fun _ _ _ _ r kp=>let⟨ts,z1,z2⟩:=r;⟨ts,z1,Paired.mapP z2 fun _ _ ⟨p,q1,q2⟩=>⟨p,kp _ _ q1,kp _ _ q2⟩⟩) (s7.trans s89) (s89 _ _ e7) l7 ⟨gs++[tq],by rw[ET];rfl,?_⟩;rw[cT hu];exact eG (Paired.mapP pg fun _ _ z=>z.same s89) ⟨t,e9,s9 _ _ e8⟩
 rintro gl acc H7 hgl s7 e7 ⟨gs,rfl,pg⟩;rw[FT]at pg;have s07:=s06.trans s7;have e57:=s7 _ _ (s6 _ _ e5);have e47:=s7 _ _ (s6 _ _ (s5 _ _ e4));have e67:=s7 _ _ e6;have lf:=bN pf;have lg:=bN pg;have pf7:∀{i:Nat} {w:List Nat},ws[i]?=some w->∃f,fs[i]?=some f/\i6 H7 f (aq w (b:Int)) ((num (aq w (a:Int)):Nat):Int):=fun{i w} h=>by
  have hi:=(EK.mp h).1;obtain⟨w',h1,h2⟩:=bT pf (EG (show i<fs.length by omega));rw[h]at h1;cases h1;exact⟨_,EG _,h2.same s7⟩
 have pg7:∀{i:Nat} {w:List Nat},ws[i]?=some w->∃f,gs[i]?=some f/\i6 H7 f (aq w (e:Int)) ((num (aq w (a:Int)):Nat):Int):=fun{i w} h=>by
  have hi:=(EK.mp h).1;obtain⟨w',h1,h2⟩:=bT pg (EG (show i<gs.length by omega));rw[h]at h1;cases h1;exact⟨_,EG _,h2⟩
 have pt7:∀{i:Nat} {w:List Nat},ws[i]?=some w->∃t,ts[i]?=some t/\H7 t=some (.tup ((aq w (a:Int)).map V.int)):=fun{i w} h=>by
  have hi:=(EK.mp h).1;obtain⟨y,h1,h2⟩:=bT pt (EG (show i<ts.length by omega));rw[EO,h]at h1;cases h1;exact⟨_,EG _,s7 _ _ (s6 _ _ (s5 _ _ h2))⟩
 refine fO fun NX hNX=>?_;right;refine lD (ys:=rs.map V.ref) (SqL.of (s07 _ _ ed)) ?_;right;rw[EI,htl];refine d5 ws.length (by omega) (by omega) (by omega) (fun i σ H8=>∃(u9 u10 u11 u12:Option V),σ=[some (.ref d),some (.ref p),some (.int (a:Int)),some (.int (b:Int)),some (.int (e:Int)),some (.ref tl),some (.ref nl),some (.ref fl),some (.ref gl),u9,u10,u11,u12]/\ak H7 H8/\∀i',i'<i->(∀j,¬FrW ws (a:Int) (b:Int) num i' j)/\∀c,¬ThW ws (a:Int) (e:Int) num i' c) ⟨none,none,none,none,rfl,ak.refl _,fun _ z=>absurd z (Gm _)⟩ ?_ ?_
 ·rintro i σ H8 hi ⟨u9,u10,u11,u12,rfl,s8,hno⟩
  obtain⟨r,w,hr,hwi,ew,lw⟩:=dat hi;obtain⟨fi,hfi,pfi⟩:=pf7 hwi;obtain⟨gi,hgi,pgi⟩:=pg7 hwi;obtain⟨ti,hti,eti⟩:=pt7 hwi;refine fO fun NX2 hNX2=>?_;right;refine lD (ys:=rs.map V.ref) (SqL.of (s8 _ _ (s07 _ _ ed))) ?_;right;rw[EI,htl];refine d5 ws.length (by omega) (by omega) (by omega) (fun j σ H9=>∃(u10:Option V),σ=[some (.ref d),some (.ref p),some (.int (a:Int)),some (.int (b:Int)),some (.int (e:Int)),some (.ref tl),some (.ref nl),some (.ref fl),some (.ref gl),some (.int (i:Int)),u10,u11,u12]/\H9=H8/\∀j',j'<j->¬FrW ws (a:Int) (b:Int) num i j') ⟨u10,rfl,rfl,fun _ z=>absurd z (Gm _)⟩ ?_ ?_
  ·rintro j σ H9 hj ⟨u10,rfl,rfl,hnj⟩
   obtain⟨r2,w2,hr2,hwj,ew2,lw2⟩:=dat hj;obtain⟨fj,hfj,pfj⟩:=pf7 hwj;obtain⟨tj,htj,etj⟩:=pt7 hwj;right;refine aL (SqL.of (s8 _ _ e67)) (bu hfj) ?_;right;refine aL (SqL.of (s8 _ _ e67)) (bu hfi) ?_;right;refine xV (pfj.same s8) (pfi.same s8) ?_;have step:(∀j',j'<j+1->¬FrW ws (a:Int) (b:Int) num i j')->∃(u:Option V),[some (.ref d),some (.ref p),some (.int (a:Int)),some (.int (b:Int)),some (.int (e:Int)),some (.ref tl),some (.ref nl),some (.ref fl),some (.ref gl),some (.int (i:Int)),some (.int (j:Int)),u11,u12]=[some (.ref d),some (.ref p),some (.int (a:Int)),some (.int (b:Int)),some (.int (e:Int)),some (.ref tl),some (.ref nl),some (.ref fl),some (.ref gl),some (.int (i:Int)),u,u11,u12]/\H9=H9/\∀j',j'<j+1->¬FrW ws (a:Int) (b:Int) num i j':=fun h=>⟨_,rfl,rfl,h⟩;have nxt:¬FrW ws (a:Int) (b:Int) num i j->∀j',j'<j+1->¬FrW ws (a:Int) (b:Int) num i j':=fun h j' hj'=>by
    by_cases z:j'=j
    ·rw[z];exact h
    ·exact hnj j' (by omega)
   right;refine cO (fun c1=>?_) (fun c1=>?_)
   ·right
    refine aL (SqL.of (s8 _ _ e47)) (bu htj) ?_;right;refine aL (SqL.of (s8 _ _ e47)) (bu hti) ?_;right;refine DS (SqT.of (s8 _ _ etj)) (SqT.of (s8 _ _ eti)) ?_;right;by_cases c2:aq w2 (a:Int)=aq w (a:Int)
    ·rw[decide_eq_true c2]
     right;refine step (nxt ?_);rintro⟨x,y,q1,q2,q3,q4,q5⟩;rw[hwi]at q1;cases q1;rw[hwj]at q2;cases q2;exact q5 c2
    ·rw[decide_eq_false c2]
     right;refine⟨by simp[EL],fun tq HA htq sA eA=>?_⟩;have hF:FrW ws (a:Int) (b:Int) num i j:=⟨w,w2,hwi,hwj,c1.1,by have:=c1.2;omega,c2⟩;exact q _ HA ((s07.trans s8).trans sA) (.inr (.inl ⟨tq,i,j,rfl,eA,hi,⟨hF,fun j' hj'=>hnj j' hj'⟩,hno⟩))
   ·right
    refine step (nxt ?_);rintro⟨x,y,q1,q2,q3,q4,q5⟩;rw[hwi]at q1;cases q1;rw[hwj]at q2;cases q2;exact c1 ⟨q3,by rw[q4]⟩
  ·rintro σ H9 ⟨u10,rfl,rfl,hnj⟩
   refine hNX2 _ _ ?_;clear hNX2;have noF:∀j,¬FrW ws (a:Int) (b:Int) num i j:=fun j z=>by
    obtain⟨x,y,q1,q2,_⟩:=id z;exact hnj j (EK.mp q2).1 z
   right;refine lD (ys:=rs.map V.ref) (SqL.of (s8 _ _ (s07 _ _ ed))) ?_;right;rw[EI,htl];refine gI ws.length (by omega) (by omega) (by omega) (fun j acc _=>∃as:List Addr,acc=as.map V.ref/\Paired (fun(t:Addr)(v:List Nat)=>H9 t=some (.tup (ap v))) as (((EY j).filter fun j=>decide (aq (ws.getD j []) (e:Int)=aq w (e:Int)/\num (aq (ws.getD j []) (a:Int))=num (aq w (a:Int)))).map fun j=>ws.getD j [])) (fun _ _=>⟨[],rfl,.nil⟩) ?_ ?_
   ·rintro y hy C' s' H' fp j acc HA hj ⟨sA,eA,lA,as,rfl,pa⟩
    obtain⟨r2,w2,hr2,hwj,ew2,lw2⟩:=dat hj;obtain⟨gj,hgj,pgj⟩:=pg7 hwj;right;refine aL (SqL.of (sA _ _ (s8 _ _ e7))) (bu hgj) ?_;right;refine aL (SqL.of (sA _ _ (s8 _ _ e7))) (bu hgi) ?_;right;refine xV ((pgj.same s8).same sA) ((pgi.same s8).same sA) ?_;have gj:ws.getD j []=w2:=by rw[ER,hwj];rfl
    have eq:(aq (ws.getD j []) (e:Int)=aq w (e:Int)/\num (aq (ws.getD j []) (a:Int))=num (aq w (a:Int)))↔aq w2 (e:Int)=aq w (e:Int)/\((num (aq w2 (a:Int)):Nat):Int)=((num (aq w (a:Int)):Nat):Int):=by
     rw[gj];exact⟨fun⟨z2,z3⟩=>⟨z2,by rw[z3]⟩,fun⟨z2,z3⟩=>⟨z2,by omega⟩⟩
    right;refine cO (fun c1=>?_) (fun c1=>?_)
    ·right
     refine aL (SqL.of (sA _ _ (s8 _ _ (s07 _ _ ed)))) (bu hr2) ?_;refine aW.put hy (fun _ _ _ _ r _=>r) sA eA lA ⟨as++[r2],by rw[ET];rfl,?_⟩;rw[GI,HJ,ET,Ja,if_pos (decide_eq_true (eq.mpr c1)),OP];refine eG pa ?_;show H9 r2=some (HO.tup (ap (ws.getD j [])));rw[gj];exact s8 _ _ (s07 _ _ ew2)
    ·refine aW.skip sA eA lA ⟨as,rfl,?_⟩
     rw[GI,HJ,Il (by simpa using fun z=>c1 (eq.mp z)),OP,Gw];exact pa
   rintro al acc HA hal sA eA ⟨as,rfl,pa⟩;have sal:∀v:List Nat,v∈((EY ws.length).filter fun j=>decide (aq (ws.getD j []) (e:Int)=aq w (e:Int)/\num (aq (ws.getD j []) (a:Int))=num (aq w (a:Int)))).map (fun j=>ws.getD j [])↔∃j,ws[j]?=some v/\aq v (e:Int)=aq w (e:Int)/\num (aq v (a:Int))=num (aq w (a:Int)):=fun v=>by
    rw[FB];constructor
    ·rintro⟨j,hj,rfl⟩
     obtain⟨z2,z3⟩:=of_decide_eq_true (Gv.mp hj).2;have hjl:=Ff.mp (Gv.mp hj).1;exact⟨j,by rw[ER,EG hjl];rfl,z2,z3⟩
    ·rintro⟨j,z1,z2,z3⟩
     have gv:ws.getD j []=v:=by rw[ER,z1];rfl
     exact⟨j,Gv.mpr ⟨Ff.mpr (EK.mp z1).1,decide_eq_true (by rw[gv];exact⟨z2,z3⟩)⟩,gv⟩
   generalize hvs:((EY ws.length).filter fun j=>decide (aq (ws.getD j []) (e:Int)=aq w (e:Int)/\num (aq (ws.getD j []) (a:Int))=num (aq w (a:Int)))).map (fun j=>ws.getD j [])=vs at *;have lv:as.length<=2000:=by
    rw[bN pa,<-hvs,EI];exact Fz (IS _ _) (by rw[Fw];exact hx2)
   have sHA:=s8.trans sA;right;refine aL (SqL.of (sHA _ _ (s07 _ _ ed))) (bu hr) ?_;right;refine uw (ys:=ap w) (SqT.of (sHA _ _ (s07 _ _ ew))) ?_;right;rw[bi,lw];refine d5 C (by omega) (by omega) (by omega) (fun c σ HB=>∃(u12:Option V),σ=[some (.ref d),some (.ref p),some (.int (a:Int)),some (.int (b:Int)),some (.int (e:Int)),some (.ref tl),some (.ref nl),some (.ref fl),some (.ref gl),some (.int (i:Int)),u10,some (.ref al),u12]/\ak HA HB/\∀c',c'<c->¬ThW ws (a:Int) (e:Int) num i c') ⟨u12,rfl,ak.refl _,fun _ z=>absurd z (Gm _)⟩ ?_ ?_
   ·rintro c σ HB hc ⟨u12,rfl,sB,hnc⟩
    have ec:w[c]?=some (w.getD c 0):=by rw[ER,EG (by omega)];rfl
    have sHB:=sHA.trans sB;have nxt:¬ThW ws (a:Int) (e:Int) num i c->∀c',c'<c+1->¬ThW ws (a:Int) (e:Int) num i c':=fun h c' hc'=>by
     by_cases z:c'=c
     ·rw[z];exact h
     ·exact hnc c' (by omega)
    right;refine aL (SqL.of (sHB _ _ (s07 _ _ ed))) (bu hr) ?_;right;refine lB (SqT.of (sHB _ _ (s07 _ _ ew))) (iY ec) ?_;right;by_cases c1:((w.getD c 0:Nat):Int)=(e:Int)
    ·rw[decide_eq_true c1]
     right;refine⟨_,rfl,sB,nxt ?_⟩;rintro⟨x,h,q1,q2,q3,q4⟩;rw[hwi]at q1;cases q1;rw[ec]at q2;cases q2;exact q3 c1
    ·rw[decide_eq_false c1]
     right;refine gJ (as.map V.ref) (SqL.of (sB _ _ eA)) (by rw[EI];omega) (fun k acc _=>acc=((vs.take k).map fun v=>V.bl (decide (v.getD c 0=w.getD c 0)))) (fun _ _=>rfl) ?_ ?_
     ·rintro y hy C' s' H' fp k x acc HC hx ⟨sC,eC,lC,rfl⟩
      obtain⟨t,ht,rfl⟩:=bZ hx;obtain⟨v,hv,ev⟩:=bT pa ht;obtain⟨jv,z1,_⟩:=(sal v).mp (E2 hv);have lv':=hwl v (E2 z1);have ev2:v[c]?=some (v.getD c 0):=by rw[ER,EG (by omega)];rfl
      right;refine lB (SqT.of (sC _ _ (sB _ _ (sA _ _ ev)))) (iY ev2) ?_;right;refine aL (SqL.of (sC _ _ (sHB _ _ (s07 _ _ ed)))) (bu hr) ?_;right;refine lB (SqT.of (sC _ _ (sHB _ _ (s07 _ _ ew)))) (iY ec) ?_;right;refine aW.put hy (fun _ _ _ _ r _=>r) sC eC lC ?_;rw[cT hv,ET]
      congr 3
      exact decide_eq_decide.mpr ⟨fun z=>by omega,fun z=>by rw[z]⟩
     rintro bl acc HC hbl sC eC rfl;rw[EI,bN pa,FT]at eC;right;have eC':HC bl=some (.lst ((vs.map fun v=>decide (v.getD c 0=w.getD c 0)).map V.bl)):=by rw[eC,G6];rfl
     refine⟨bl,_,rfl,SqL.of eC',?_⟩;have iff:((vs.map fun v=>decide (v.getD c 0=w.getD c 0)).all id=true)↔ThW ws (a:Int) (e:Int) num i c:=by
      rw[IZ];constructor
      ·intro h
       refine⟨w,w.getD c 0,hwi,ec,c1,fun j wj z1 z2 z3=>?_⟩;have:=h _ (FB.mpr ⟨wj,(sal wj).mpr ⟨j,z1,z2,z3⟩,rfl⟩);have e1:=of_decide_eq_true this;have lj:=hwl wj (E2 z1);rw[<-e1,ER,EG (by omega)];rfl
      ·rintro⟨x,h,q1,q2,q3,q4⟩ z hz
       rw[hwi]at q1;cases q1;rw[ec]at q2;cases q2;obtain⟨v,hv,rfl⟩:=FB.mp hz;obtain⟨j,z1,z2,z3⟩:=(sal v).mp hv;have:=q4 j v z1 z2 z3;refine decide_eq_true ?_;rw[ER,this];rfl
     by_cases c2:ThW ws (a:Int) (e:Int) num i c
     ·rw[iff.mpr c2]
      right;refine⟨by simp[EL],fun tq HD htq sD eD=>?_⟩;exact q _ HD (((s07.trans sHB).trans sC).trans sD) (.inr (.inr ⟨tq,i,c,rfl,eD,hi,noF,⟨c2,hnc⟩,hno⟩))
     ·rw[NZ.mpr (fun z=>c2 (iff.mp z))]
      right;exact⟨_,rfl,sB.trans sC,nxt c2⟩
   ·rintro σ HB ⟨u12,rfl,sB,hnc⟩
    refine⟨_,_,_,_,rfl,sHA.trans sB,fun i' hi'=>?_⟩;by_cases z:i'=i
    ·rw[z]
     refine⟨noF,fun c hc=>?_⟩;obtain⟨x,h,q1,q2,_⟩:=id hc;rw[hwi]at q1;cases q1;exact hnc c (by rw[<-lw];exact(EK.mp q2).1) hc
    ·exact hno i' (by omega)
 ·rintro σ H8 ⟨u9,u10,u11,u12,rfl,s8,hno⟩
  refine hNX _ _ ?_;right;exact q _ H8 (s07.trans s8) (.inl ⟨rfl,hno⟩)
theorem xX{ws:List (List Nat)}{a b:Int}{num:List Int->Nat}{i:Nat}:Fr ws a b num i↔∃j,FrW ws a b num i j:=⟨fun⟨j,wi,wj,h⟩=>⟨j,wi,wj,h⟩,fun⟨j,wi,wj,h⟩=>⟨j,wi,wj,h⟩⟩
theorem Df{ws:List (List Nat)}{a e:Int}{num:List Int->Nat}{i:Nat}:Th ws a e num i↔∃c,ThW ws a e num i c:=⟨fun⟨wi,c,h,q⟩=>⟨c,wi,h,q⟩,fun⟨c,wi,h,q⟩=>⟨wi,c,h,q⟩⟩
noncomputable def Eu(H:Hp)(v v':V):Prop:=(v=.non/\v'=.non)\/∃(t t':Addr)(s:Str)(i j:Int),(s="friend"\/s="third")/\v=.ref t/\v'=.ref t'/\H t=some (.tup [.str s,.int i,.int j])/\H t'=some (.tup [.str s,.int i,.int j])
theorem Dg{ws:List (List Nat)}{a b e:Int}{num:List Int->Nat}{H:Hp}{r:FR}{v v':V}(h:FrX ws a b e num H v)(f:Db ws a b e num r)(fv:FrV H r v')(fx:FrE ws a b e num H r v'):Eu H v v':=by
 have no:∀{i:Nat},(¬Fr ws a b num i/\¬Th ws a e num i)->(∀j,¬FrW ws a b num i j)/\∀c,¬ThW ws a e num i c:=fun z=>⟨fun j y=>z.1 (xX.mpr ⟨j,y⟩),fun c y=>z.2 (Df.mpr ⟨c,y⟩)⟩;cases r with
 |ok=>
  have fv':v'=.non:=fv;rcases h with⟨h,_⟩|⟨t,i,j,_,_,hi,hj,_⟩|⟨t,i,c,_,_,hi,_,hc,_⟩
  ·exact .inl ⟨h,fv'⟩
  ·exact absurd hj.1 ((no (f i hi)).1 j)
  ·exact absurd hc.1 ((no (f i hi)).2 c)
 |friend d=>
  obtain⟨hd,fd,low⟩:=f;obtain⟨t',j',rfl,e',l'⟩:=fx;rcases h with⟨_,h⟩|⟨t,i,j,rfl,et,hi,hj,hlo⟩|⟨t,i,c,_,_,hi,hf,hc,hlo⟩
  ·exact absurd l'.1 ((h d hd).1 j')
  ·have:i=d:=by
    rcases GG i d with z|z|z
    ·exact absurd hj.1 ((no (low i z)).1 j)
    ·exact z
    ·exact absurd l'.1 ((hlo d z).1 j')
   subst this;have:j=j':=bI.uniq (fun _=>Iff.rfl) hj l';subst this;exact .inr ⟨t,t',_,_,_,.inl rfl,rfl,rfl,et,e'⟩
  ·rcases GG i d with z|z|z
   ·exact absurd hc.1 ((no (low i z)).2 c)
   ·subst z;exact absurd l'.1 (hf j')
   ·exact absurd l'.1 ((hlo d z).1 j')
 |third d=>
  obtain⟨hd,nf,td,low⟩:=f;obtain⟨t',c',rfl,e',l'⟩:=fx;rcases h with⟨_,h⟩|⟨t,i,j,_,_,hi,hj,hlo⟩|⟨t,i,c,rfl,et,hi,hf,hc,hlo⟩
  ·exact absurd l'.1 ((h d hd).2 c')
  ·rcases GG i d with z|z|z
   ·exact absurd hj.1 ((no (low i z)).1 j)
   ·subst z;exact absurd (xX.mpr ⟨j,hj.1⟩) nf
   ·exact absurd l'.1 ((hlo d z).2 c')
  ·have:i=d:=by
    rcases GG i d with z|z|z
    ·exact absurd hc.1 ((no (low i z)).2 c)
    ·exact z
    ·exact absurd l'.1 ((hlo d z).2 c')
   subst this;have:c=c':=bI.uniq (fun _=>Iff.rfl) hc l';subst this;exact .inr ⟨t,t',_,_,_,.inr rfl,rfl,rfl,et,e'⟩
theorem FrX.same{ws:List (List Nat)}{a b e:Int}{num:List Int->Nat}{H H':Hp}{v:V}(h:FrX ws a b e num H v)(s:ak H H'):FrX ws a b e num H' v:=by
 rcases h with h|⟨t,i,j,h1,h2,h3⟩|⟨t,i,c,h1,h2,h3⟩
 ·exact .inl h
 ·exact .inr (.inl ⟨t,i,j,h1,s _ _ h2,h3⟩)
 ·exact .inr (.inr ⟨t,i,c,h1,s _ _ h2,h3⟩)
theorem xY{K:Fg}{H:Hp}{a b:Addr}{x:List (List Int)}(h:gf H a x)(g:gf H b x):dR K H 2 (.ref a) (.ref b):=by
 obtain⟨ts,e1,p1⟩:=h;obtain⟨us,e2,p2⟩:=g;refine .lst (SqL.of e1) (SqL.of e2) (by rw[EI,EI,bN p1,bN p2]) fun i y z hy hz=>?_;obtain⟨r,hr,rfl⟩:=bZ hy;obtain⟨u,hu,rfl⟩:=bZ hz;obtain⟨v,hv,ev⟩:=bT p1 hr;obtain⟨w,hw,ew⟩:=bT p2 hu;rw[hv]at hw;cases hw;exact vF (SqT.of ev) (SqT.of ew) (xJ _)
theorem nZ{K:Fg}{H:Hp}{a b:Addr}{L:List (List (List Int))}(h:cA H a L)(g:cA H b L):dR K H 3 (.ref a) (.ref b):=by
 obtain⟨ts,e1,p1⟩:=h;obtain⟨us,e2,p2⟩:=g;refine .lst (SqL.of e1) (SqL.of e2) (by rw[EI,EI,bN p1,bN p2]) fun i y z hy hz=>?_;obtain⟨r,hr,rfl⟩:=bZ hy;obtain⟨u,hu,rfl⟩:=bZ hz;obtain⟨v,hv,ev⟩:=bT p1 hr;obtain⟨w,hw,ew⟩:=bT p2 hu;rw[hv]at hw;cases hw;exact xY ev ew
noncomputable def fR(p:Addr)(H:Hp)(b:Addr)(x:List (List Int)):Prop:=b≠p/\gf H b x
theorem fR.same{p:Addr}{H H':Hp}(s:ak H H'){b:Addr}{x:List (List Int)}(h:fR p H b x):fR p H' b x:=⟨h.1,h.2.same s⟩
theorem fR.off{p:Addr}{H H':Hp}{xs:List V}(o:Off p H H')(e:H p=some (.lst xs)){b:Addr}{x:List (List Int)}(h:fR p H b x):fR p H' b x:=by
 obtain⟨n,ts,e1,p1⟩:=h;exact⟨n,ts,by rw[o b n];exact e1,Paired.mapP p1 fun _ _ q=>o.keep e _ _ q⟩
noncomputable def ee(_:Fg):Sp:=fun vs H Q _=>∃(c:Nat)(z p ha:Addr)(ss:List Nat)(A B E:Nat)(L:List (List (List Int)))(hs:List (List Int))(num:List Int->Nat)(v:V),vs=[.int (c:Int),.ref z,.ref p,.ref ha,v]/\H z=some (.lst (ap ss))/\jo c ss/\A<ss.length/\B<ss.length/\E<ss.length/\H ha=some (.lst [.int (A:Int),.int (B:Int),.int (E:Int)])/\cA H p L/\eX L hs num/\(∀w∈KM.aP (aS c ss) c,aq w (A:Int)∈hs)/\L.length<=62/\(∀l∈L,l.length<=62)/\FrX (KM.aP (aS c ss) c) (A:Int) (B:Int) (E:Int) num H v/\∀H',ak H H'->Q (.bl true) H'
noncomputable def g0(K:Fg):TS:=(ax (aF (bL (cJ K (ae 2)) (fun _ _ _ _=>(aj 0)) (fun _ _ _ _=>bB) (fun _ _ _ _=>(tCB (nD K) (aa (ae 0) ah))) [none]) (aj 5))
 (ax (aF (aJ (gO K) [] E0 (aa (ae 0) (aa (tCB (nD K) (aa (ae 1) ah)) (aa (ae 5) (aa (tOp (aU K) (ae 3) (tC (.int 0))) (aa (tOp (aU K) (ae 3) (tC (.int 1))) (aa (tOp (aU K) (ae 3) (tC (.int 2))) ah))))))) (aj 6))
 (ax (ck (tOr (bA (tOp (iZ K true) (ae 5) (ae 2))) (tOr (bA (tOp iK (ae 4) (tC .non))) (bA (tOp iK (ae 6) (tC .non))))) (bj (j3 (tOp (iZ K false) (ae 5) (ae 2)) (j3 (tOp iK (ae 4) (tC .non)) (tOp iK (ae 6) (tC .non))))) bH)
 (ax (ck (tOr (gF (tB (tCB (kc K) (aa (ae 6) (aa (tC (.ty "tuple")) ah))))) (tOr (bA (tOp rNe (tCB (cD K) (aa (ae 6) ah)) (tC (.int 3)))) (gF (tB (tCB (kc K) (aa (tOp (kT K) (ae 6) (tC (.int 0))) (aa (tC (.ty "str")) ah))))))) (bj (tC (.bl false))) bH)
 (ax (cp (yJ K (tSl (zb K) (ae 6) (nq (tC (.int 1))) jK)) (aj 7) (ck (tOr (gF (tB (tCB (kc K) (aa (ae 7) (aa (tC (.ty "int")) ah))))) (tB (tCB (kc K) (aa (ae 7) (aa (tC (.ty "bool")) ah))))) (bj (tC (.bl false))) bH))
 (bj (tOp (iZ K false) (ae 6) (ae 4))))))))
theorem so(h:ee K vs H Q E):g0 K { nx:=fun _ H'=>Q .non H',rt:=Q } (start ["_law_cards","_law_sizes","_law_lists_here","_law_hands","_law_due_here","_law_handed","_law_found","_law_number"] vs) H:=by
 obtain⟨c,z,p,ha,ss,A,B,E',L,hs,num,v,rfl,ez,pw,hA,hB,hE,eh,W,ok,hin,hLl,hll,hdue,q⟩:=h;show g0 K _ [some _,some _,some _,some _,some _,none,none,none] _;unfold g0;obtain⟨ls,ep,pl⟩:=id W;have lll:=bN pl;refine bx ?_;nofun;refine zG (ls.map V.ref) (SqL.of ep) (by rw[EI];omega) (fun w k acc H8=>∃bs:List Addr,acc=bs.map V.ref/\Paired (fR w H8) bs (L.take k)) (fun w H' s=>⟨[],rfl,.nil⟩) ?_ ?_
 ·rintro w hw C s' H' fp k x acc H8 hk ⟨s8,e8,l8,bs,rfl,pb⟩
  obtain⟨a,ha,rfl⟩:=bZ hk;obtain⟨y,hy,us,ea,pa⟩:=bT pl ha;right;refine xt (SqL.of (s8 _ _ ea)) fun b H9 hb s9 e9=>?_;refine aW.putW hw (s8.trans s9) (s9 _ _ e8) l8 fun H6 o6=>⟨bs++[b],by rw[ET];rfl,?_⟩;rw[HS,hy];refine eG (Paired.mapP pb fun _ _ q=>(q.same s9).off o6 (s9 _ _ e8)) ?_;exact fR.off o6 (s9 _ _ e8) ⟨(aT e8 hb).symm,us,e9,Paired.mapP pa fun _ _ q=>s9 _ _ (s8 _ _ q)⟩
 rintro w acc H1 hw s1 e1 ⟨bs,rfl,pb⟩;rw[EI,lll,FT]at pb;have W1:cA H1 w L:=⟨bs,e1,Paired.mapP pb fun _ _ q=>q.2⟩;nofun;refine bx ?_;nofun;refine xt (SqL.of (s1 _ _ ez)) fun z2 H2 hz2 s2 e2=>?_;nofun;have s12:=s1.trans s2;refine aL (SqL.of (s12 _ _ eh)) (i:=0) rfl ?_;nofun;refine aL (SqL.of (s12 _ _ eh)) (i:=1) rfl ?_;nofun;refine aL (SqL.of (s12 _ _ eh)) (i:=2) rfl ?_;nofun;refine⟨c,z2,w,ss,A,B,E',L,hs,num,rfl,e2,pw,hA,hB,hE,W1.same s2,ok,hin,by omega,fun l hl=>Fz (hll l hl) (by decide),fun r v' H3 s3 fr fv fx=>?_⟩;have s13:=s12.trans s3;have two:=Dg (hdue.same s13) fr fv fx;have W3:=(W1.same s2).same s3;have Wp:=W.same s13;nofun;refine bx ?_;nofun;refine BL 3 (by decide) (nZ W3 Wp) ?_;nofun;rcases two with⟨rfl,rfl⟩|⟨t,t',s,i,j,hs',rfl,rfl,et,et'⟩
 ·refine i3 ?_
  nofun;rw[show isN V.non=true from rfl];nofun;refine uB 3 (by decide) (nZ W3 Wp) ?_;nofun;refine i3 ?_;nofun;rw[show isN V.non=true from rfl];nofun;refine i3 ?_;exact q H3 s13
 ·refine i3 ?_
  nofun;rw[show isN (V.ref t)=false from rfl];nofun;refine i3 ?_;nofun;rw[show isN (V.ref t')=false from rfl];nofun;refine bx ?_;nofun;refine qL (.tup et') (tM K) ?_;nofun;rw[show(!decide ((([V.str s,V.int i,V.int j].length:Nat):Int)=3))=false from rfl];nofun;refine lB (SqT.of et') (i:=0) rfl ?_;nofun;refine qL (.str s) (BP K "str" (by decide) "str" (by decide)) ?_;rw[show zA "str" "str"=true by decide];nofun;refine fO fun NX hNX=>?_;nofun;refine DT (SqT.of et') (tP _ _) fun b H4 hb s4 e4=>?_;rw[zc]at e4;right;refine CZ [.int i,.int j] (SqT.of e4) (fun k σ H5=>∃(u7:Option V),σ=[some (.int (c:Int)),some (.ref z),some (.ref p),some (.ref ha),some (.ref t),some (.ref w),some (.ref t'),u7]/\H5=H4) ⟨none,rfl,rfl⟩ ?_ ?_ ?_
  ·rintro k σ H5 _ ⟨u7,rfl,rfl⟩
   exact SqT.of e4
  ·rintro k x σ H5 hx ⟨u7,rfl,rfl⟩
   obtain⟨n,rfl⟩:∃n:Int,x=.int n:=by
    have:=E2 hx;simp only[EV,FJ,or_false]at this;rcases this with z|z<;>exact⟨_,z⟩
   right;refine qL (.int n) (md K) ?_;right;refine qL (.int n) (kZ K) ?_;right;exact⟨_,rfl,rfl⟩
  ·rintro σ H5 ⟨u7,rfl,rfl⟩
   refine hNX _ _ ?_;right;refine uB 1 (by decide) (.tup (SqT.of (s4 _ _ et')) (SqT.of (s4 _ _ et)) rfl fun k x y hx hy=>?_) ?_
   ·rw[hx]at hy;cases hy
    have:=E2 hx;simp only[EV,FJ,or_false]at this;rcases this with z|z|z
    ·rw[z]
     rcases hs' with y|y<;>rw[y]<;>exact .str (by decide+kernel)
    ·rw[z];exact .flat rfl
    ·rw[z];exact .flat rfl
   ·exact q _ (s13.trans s4)
noncomputable def gu(_:Fg):Sp:=fun vs H Q _=>∃z:Int,vs=[.int z]/\∀H',ak H H'->Q (.bl true) H'
theorem lK:jo 7 [3,3,1]:=⟨⟨by decide,by decide,by decide,by decide⟩,by decide+kernel,by decide,by decide,by decide+kernel⟩
structure vO(H:Hp)(d p:Addr)(c:Nat)(ss:List Nat)(A:Nat)(L:List (List (List Int)))(hs:List (List Int))(num:List Int->Nat):Prop where
 D:bf H d (KM.aP (aS c ss) c)
 W:cA H p L
 ok:eX L hs num
 hin:∀w∈KM.aP (aS c ss) c,aq w (A:Int)∈hs
 l1:L.length<=62
 l2:∀l∈L,l.length<=62
theorem vO.same{H H':Hp}{d p:Addr}{c:Nat}{ss:List Nat}{A:Nat}{L:List (List (List Int))}{hs:List (List Int)}{num:List Int->Nat}(m:vO H d p c ss A L hs num)(s:ak H H'):vO H' d p c ss A L hs num:=⟨m.D.same' s,m.W.same s,m.ok,m.hin,m.l1,m.l2⟩
structure AY(c:Nat)(ss:List Nat)(A:Nat):Prop where
 len:∀w∈KM.aP (aS c ss) c,w.length=c/\aq w (A:Int)∈oX c (ss.getD A 0)
 few:(KM.aP (aS c ss) c).length<=2000
 pos:0<(KM.aP (aS c ss) c).length
 hold:(oX c (ss.getD A 0)).length<=62
theorem vP{c:Nat}{ss:List Nat}{A:Nat}(pw:jo c ss)(hA:A<ss.length):AY c ss A:=by
 have hsum:=mO pw.pk.sum;refine⟨fun w hw=>?_,?_,?_,?_⟩
 ·obtain⟨f1,_,f3⟩:=nR hsum hw
  refine⟨f1,zy f1 ?_⟩;rw[f3 A (by unfold aS;rw[EX];omega)];unfold aS;rw[ER,ER,Gb hA]
 ·rw[show KM.aP (aS c ss) c=KM.aP (ss++[c-ss.sum]) c from rfl,KM.eW pw.pk.sum]
  exact pw.few
 ·rw[show KM.aP (aS c ss) c=KM.aP (ss++[c-ss.sum]) c from rfl,KM.eW pw.pk.sum]
  exact KM.xE pw.pk.sum
 ·rw[ER,EG hA]
  exact pw.hold _ (GK hA)
noncomputable abbrev Dh(K:Fg):Sp:=nB K
noncomputable def qQ(K:Fg):TS:=(ax (aF (aJ (cB K) [] E0 (aa (ae 0) (aa (tC (.int 0)) ah))) (aj 1))
 (ax (aF (aJ (gP K) [] E0 (aa (ae 1) ah)) (dP K 2 (be (aj 2) (be (aj 3) dO))))
 (ax (aF (aJ (ip K) [] E0 (aa (aJ (cB K) [] E0 (aa (ae 0) (aa (tC (.int 1)) ah))) (aa (tCB (cD K) (aa (ae 3) ah)) ah))) (aj 4))
 (ax (aF (aJ (fu K) [] E0 (aa (ae 2) (aa (ae 3) ah))) (aj 5))
 (ax (aF (ig K (aa (bL (cJ K (ae 5)) (fun _ _ _ _=>(aj 0)) (fun _ _ _ _=>bB) (fun _ _ _ _=>(aJ (cm K) [] E0 (aa (ae 0) (aa (tOp (aU K) (ae 1) (tC (.int 0))) ah)))) [none,some 4]) ah)) (aj 6))
 (ax (aF (aJ (fw K) [] E0 (aa (aJ (cB K) [] E0 (aa (ae 0) (aa (tC (.int 2)) ah))) (aa (ae 6) (aa (ae 2) ah)))) (aj 7))
 (ax (ck (bA (tOp rEq (tOp (rI (fun _ j=>0<j) fun i j=>.int (i%j)) (tOp (rI j4 fun i j=>.int (i/j)) (ae 1) (tC (.int 4096))) (tC (.int 6))) (tC (.int 1)))) (ax (aF (bq (aa (tC (.int 7)) (aa (bg (aa (tC (.int 3)) (aa (tC (.int 3)) (aa (tC (.int 1)) ah)))) (aa (tOp (aU K) (bg (aa (bg (aa (tC (.int 0)) (aa (tC (.int 1)) (aa (tC (.int 2)) ah)))) (aa (bg (aa (tC (.int 1)) (aa (tC (.int 0)) (aa (tC (.int 2)) ah)))) ah))) (tOp (rI (fun _ j=>0<j) fun i j=>.int (i%j)) (ae 1) (tC (.int 2)))) ah)))) (dP K 3 (be (aj 2) (be (aj 3) (be (aj 4) dO)))))
 (ax (aF (aJ (fu K) [] E0 (aa (ae 2) (aa (ae 3) ah))) (aj 5))
 (ax (aF (ig K (aa (bL (cJ K (ae 5)) (fun _ _ _ _=>(aj 0)) (fun _ _ _ _=>bB) (fun _ _ _ _=>(aJ (cm K) [] E0 (aa (ae 0) (aa (tOp (aU K) (ae 1) (tC (.int 0))) ah)))) [none,some 4]) ah)) (aj 6))
 (aF (aJ (fw K) [] E0 (aa (tC (.int 0)) (aa (ae 6) (aa (tC (.int 7)) ah)))) (aj 7))))) bH)
 (ax (ck (gF (tB (aJ (ee K) [] E0 (aa (ae 2) (aa (ae 3) (aa (ae 7) (aa (ae 4) (aa (aJ (eY K) [] E0 (aa (ae 5) (aa (ae 7) (aa (tOp (aU K) (ae 4) (tC (.int 0))) (aa (tOp (aU K) (ae 4) (tC (.int 1))) (aa (tOp (aU K) (ae 4) (tC (.int 2))) ah)))))) ah)))))))) (bj (tC (.bl false))) bH)
 (ax (aF (bg (aa (tOp (aU K) (ae 4) (tC (.int 0))) (aa (tOp (aU K) (ae 4) (tC (.int 2))) (aa (tOp (aU K) (ae 4) (tC (.int 1))) ah)))) (aj 8))
 (ax (ck (gF (tB (aJ (ee K) [] E0 (aa (ae 2) (aa (ae 3) (aa (ae 7) (aa (ae 8) (aa (aJ (eY K) [] E0 (aa (ae 5) (aa (ae 7) (aa (tOp (aU K) (ae 8) (tC (.int 0))) (aa (tOp (aU K) (ae 8) (tC (.int 1))) (aa (tOp (aU K) (ae 8) (tC (.int 2))) ah)))))) ah)))))))) (bj (tC (.bl false))) bH)
 (bj (aJ (gu K) [] E0 (aa (aJ (cB K) [] E0 (aa (ae 0) (aa (tC (.int 3)) ah))) ah)))))))))))))
theorem mm{K:Fg}{H:Hp}{d ha:Addr}{c:Nat}{ss:List Nat}{A:Nat}{x1 x2:V}{Q:VK}{σ:St}{i4 i5:Nat}(h5:σ[i5]?=some (some (.ref d)))(h4:σ[i4]?=some (some (.ref ha)))(D:bf H d (KM.aP (aS c ss) c))(eh:H ha=some (.lst [.int (A:Int),x1,x2]))(F:AY c ss A)(hc:c<=8)
  (k:∀(sq:Addr)(H':Hp)(hs:List (List Int)),ak H H'->gf H' sq hs->hs.Nodup->1<=hs.length->hs.length<=62->(∀w∈KM.aP (aS c ss) c,aq w (A:Int)∈hs)->Q (.ref sq) H'):
  ig K (aa (bL (cJ K (ae i5)) (fun _ _ _ _=>(aj 0)) (fun _ _ _ _=>bB) (fun _ _ _ _=>(aJ (cm K) [] E0 (aa (ae 0) (aa (tOp (aU K) (ae 1) (tC (.int 0))) ah)))) [none,some i4]) ah) σ H Q:=by
 obtain⟨F1,F2,F3,F4⟩:=F;generalize KM.aP (aS c ss) c=ws at *;obtain⟨rs,ed,pd⟩:=id D;have hrl:=bN pd;refine vM ?_;refine xq (xr (uv ⟨_,h5,?_⟩));refine gJ (rs.map V.ref) (SqL.of ed) (by rw[EI];omega) (fun i acc H4=>∃ts:List Addr,acc=ts.map V.ref/\Paired (fun(t:Addr)(x:List Int)=>H4 t=some (.tup (x.map V.int))) ts ((ws.take i).map fun w=>aq w (A:Int))) (fun _ _=>⟨[],rfl,.nil⟩) ?_ ?_
 ·rintro w hw C s' H' fp i x acc H4 hx ⟨s4,e4,l4,ts,rfl,pt⟩
  obtain⟨r,hr,rfl⟩:=bZ hx;obtain⟨u,hu,eu⟩:=bT pd hr;rw[show sub [none,some i4] σ=[none,some (.ref ha)] by simp[sub,h4]];right;refine aL (SqL.of (s4 _ _ eh)) (i:=0) rfl ?_;right;refine⟨r,u,(A:Int),rfl,s4 _ _ eu,by rw[(F1 u (E2 hu)).1];omega,fun t H5 ht s5 e5=>?_⟩;right;refine aW.put hw (fun _ _ _ _ r kp=>let⟨ts,z1,z2⟩:=r;⟨ts,z1,Paired.mapP z2 fun _ _ x=>kp _ _ x⟩) (s4.trans s5) (s5 _ _ e4) l4 ⟨ts++[t],by rw[ET];rfl,?_⟩;rw[cT hu,ET];exact eG (Paired.mapP pt fun _ _ q=>s5 _ _ q) e5
 rintro tl acc H4 htl s4 e4 ⟨ts,rfl,pt⟩;rw[EI,hrl,FT]at pt;refine AO ?_;refine⟨tl,ts,_,oX c (ss.getD A 0),rfl,SqL.of e4,pt,F4,fun x hx=>?_,fun sq H5 ts' ms hsq s5 e5 t5 nd hm=>?_⟩
 ·obtain⟨w,hw,rfl⟩:=FB.mp hx
  exact(F1 w hw).2
 have hml:ms.length<=62:=Fz (xW nd fun x hx=>by
  obtain⟨w,hw,rfl⟩:=FB.mp ((hm x).mp hx);exact(F1 w hw).2) F4
 have hin:∀w∈ws,aq w (A:Int)∈ms:=fun w hw=>(hm _).mpr (FB.mpr ⟨w,hw,rfl⟩);exact k sq H5 ms (s4.trans s5) ⟨ts',e5,t5⟩ nd (IB (hin _ (GK F3))) hml hin
theorem Di(h:Dh K vs H Q E):qQ K { nx:=fun _ H'=>Q .non H',rt:=Q } (start ["_law_script","_law_cell_here","_law_cards","_law_sizes","_law_hands","_law_deals_here","_law_holdings","_law_lists_here","_law_turned"] vs) H:=by
 obtain⟨sc,ns,rfl,hSc,gg⟩:=h;show qQ K _ [some _,none,none,none,none,none,none,none,none] _;unfold qQ;refine bx ?_;nofun;refine⟨sc,ns,0,rfl,hSc,by decide,by decide,fun z0=>?_⟩;nofun;refine bx ?_;nofun;refine⟨z0,rfl,fun t0 z c0 ss H1 s1 e1 ez1 pw=>?_⟩;refine dE (SqT.of e1) ?_;have hSc1:=hSc.same s1;nofun;refine bx ?_;nofun;refine⟨sc,ns,1,rfl,hSc1,by decide,by decide,fun z1=>?_⟩;nofun;rw[bi];refine⟨z1,ss.length,rfl,pw.l3,by have:=pw.pk.l5;omega,fun h A B E' H2 hh s2 e2 hA hB hE=>?_⟩;nofun;have hSc2:=hSc1.same s2;refine bx ?_;nofun;refine⟨c0,z,ss,rfl,s2 _ _ ez1,pw,fun d H3 hd s3 D3=>?_⟩;nofun;refine bx ?_;nofun;refine mm rfl rfl D3 (s3 _ _ e2) (vP pw hA) pw.c7 fun sq H4 hs s4 h4 nd4 l41 l42 hin4=>?_;nofun;refine bx ?_;nofun;have s24:=s3.trans s4;refine⟨sc,ns,2,rfl,hSc2.same s24,by decide,by decide,fun z2=>?_⟩;nofun;refine⟨z2,sq,c0,hs,rfl,h4,nd4,l41,l42,pw.c7,fun lp L num H5 hlp s5 W5 ok5 hL5 hl5=>?_⟩;nofun;have s25:=s24.trans s5;refine fO fun NX hNX=>?_;have last:∀(c:Nat)(z ha d sq lp:Addr)(ss:List Nat)(A B E':Nat)(L:List (List (List Int)))(hs:List (List Int))(num:List Int->Nat)(H6:Hp),ak H H6->H6 z=some (.lst (ap ss))->H6 ha=some (.lst [.int (A:Int),.int (B:Int),.int (E':Int)])->jo c ss->A<ss.length->B<ss.length->E'<ss.length->vO H6 d lp c ss A L hs num->
   NX [some (.ref sc),some (.int z0),some (.int (c:Int)),some (.ref z),some (.ref ha),some (.ref d),some (.ref sq),some (.ref lp),none] H6:=by
  intro c z ha d sq lp ss A B E' L hs num H6 s6 ez eh pw hA hB hE m;refine hNX _ _ ?_;clear hNX;have F:=vP pw hA;have hc7:=pw.c7;have due:∀{b e:Nat} {H7:Hp} {Q':VK},ak H6 H7->(∀v H',ak H7 H'->FrX (KM.aP (aS c ss) c) (A:Int) (b:Int) (e:Int) num H' v->Q' v H')->eY K [.ref d,.ref lp,.int (A:Int),.int (b:Int),.int (e:Int)] H7 Q' E0:=fun{b e H7 Q'} s k=>⟨d,lp,A,b,e,c,KM.aP (aS c ss) c,L,hs,num,rfl,(m.same s).D,(m.same s).W,m.ok,m.hin,fun w hw=>(F.len w hw).1,by omega,F.few,by have:=m.l1;omega,k⟩;have told:∀{b e:Nat} {hb:Addr} {v:V} {H7:Hp} {Q':VK},ak H6 H7->b<ss.length->e<ss.length->H7 hb=some (.lst [.int (A:Int),.int (b:Int),.int (e:Int)])->FrX (KM.aP (aS c ss) c) (A:Int) (b:Int) (e:Int) num H7 v->(∀H',ak H7 H'->Q' (.bl true) H')->ee K [.int (c:Int),.ref z,.ref lp,.ref hb,v] H7 Q' E0:=fun{b e hb v H7 Q'} s h1 h2 h3 h4 k=>⟨c,z,lp,hb,ss,A,b,e,L,hs,num,v,rfl,s _ _ ez,pw,hA,h1,h2,h3,(m.same s).W,m.ok,m.hin,m.l1,m.l2,h4,k⟩;refine bx ?_;nofun;refine aL (SqL.of eh) (i:=0) rfl ?_;nofun;refine aL (SqL.of eh) (i:=1) rfl ?_;nofun;refine aL (SqL.of eh) (i:=2) rfl ?_;nofun;refine due (ak.refl _) fun v H7 s7 f7=>?_;nofun;refine told s7 hB hE (s7 _ _ eh) f7 fun H8 s8=>?_;nofun;have s68:=s7.trans s8;refine bx ?_;nofun;refine aL (SqL.of (s68 _ _ eh)) (i:=0) rfl ?_;nofun;refine aL (SqL.of (s68 _ _ eh)) (i:=2) rfl ?_;nofun;refine aL (SqL.of (s68 _ _ eh)) (i:=1) rfl ?_;nofun;refine⟨by simp[EL],fun hb H9 hhb s9 e9=>?_⟩;nofun;have s69:=s68.trans s9;refine bx ?_;nofun;refine aL (SqL.of e9) (i:=0) rfl ?_;nofun;refine aL (SqL.of e9) (i:=1) rfl ?_;nofun;refine aL (SqL.of e9) (i:=2) rfl ?_;nofun;refine due s69 fun v2 HA sA fA=>?_;nofun;refine told (s69.trans sA) hE hB (sA _ _ e9) fA fun HB sB=>?_;nofun;refine⟨sc,ns,3,rfl,(hSc.same s6).same ((s69.trans sA).trans sB),by decide,by decide,fun z3=>?_⟩;nofun;exact⟨z3,rfl,fun HC sC=>gg _⟩
 have s05:=(s1.trans s2).trans s25;nofun;refine cO (fun hc=>?_) (fun hc=>?_)
 ·refine bx ?_
  nofun;refine⟨by simp[EL],fun l3 H6 hl3 s6 e6=>?_⟩;nofun;refine⟨by simp[EL],fun l4 H7 hl4 s7 e7=>?_⟩;nofun;refine⟨by simp[EL],fun l5 H8 hl5' s8 e8=>?_⟩;nofun;refine⟨by simp[EL],fun l6 H9 hl6 s9 e9=>?_⟩;nofun;have s69:=(s7.trans s8).trans s9;have pick:∃(ha:Addr)(A B:Nat),atI [V.ref l4,V.ref l5] (z0%2)=some (.ref ha)/\H9 ha=some (.lst [.int (A:Int),.int (B:Int),.int ((2:Nat):Int)])/\A<3/\B<3:=by
   by_cases z:z0%2=0
   ·rw[z];exact⟨l4,0,1,rfl,s9 _ _ (s8 _ _ e7),by decide,by decide⟩
   ·rw[show z0%2=1 by omega];exact⟨l5,1,0,rfl,s9 _ _ e8,by decide,by decide⟩
  obtain⟨ha,A',B',hat,eha,hA',hB'⟩:=pick;refine aL (SqL.of e9) hat ?_;nofun;refine⟨by simp[EL],fun tz Hz htz sz ez'=>?_⟩;refine zd (SqT.of ez') ?_;nofun;refine bx ?_;nofun;refine⟨7,l3,[3,3,1],rfl,sz _ _ (s69 _ _ e6),lK,fun d2 HA hd2 sA DA=>?_⟩;nofun;refine bx ?_;nofun;refine mm rfl rfl DA (sA _ _ (sz _ _ eha)) (vP lK hA') lK.c7 fun sq2 HB hs2 sB hB ndB lB1 lB2 hinB=>?_;nofun;refine⟨0,sq2,7,hs2,rfl,hB,ndB,lB1,lB2,by decide,fun lp2 L2 num2 HC hlp2 sC WC okC hLC hlC=>?_⟩;nofun;have s9C:=((sz.trans sA).trans sB).trans sC;exact last 7 l3 ha d2 sq2 lp2 [3,3,1] A' B' 2 L2 hs2 num2 HC ((s05.trans (s6.trans s69)).trans s9C) (s9C _ _ (s69 _ _ e6)) (s9C _ _ eha) lK hA' hB' (by decide) ⟨DA.same' (sB.trans sC),WC,okC,hinB,hLC,hlC⟩
 ·nofun
  exact last c0 z h d sq lp ss A B E' L hs num H5 s05 (s25 _ _ (s2 _ _ ez1)) (s25 _ _ e2) pw hA hB hE ⟨(D3.same' s4).same' s5,W5,ok5,hin4,hL5,hl5⟩
end
section
open PySem.Spec
theorem b7.units64{k:Nat}{A:Around}(r:b7 k A):A.units+64<cLine:=by have:=r.un;omega
section
variable{X:Cx}
theorem OpR.weak{f:Value->Value->Sem Value}{r r':R2}(h:OpR X f r)(w:∀x y H Q,r' x y H Q->r x y H Q):OpR X f r':=fun pins s σ H x y v u Q I rx ry q=>h pins s σ H x y v u Q I rx ry (w x y H Q q)
theorem cw.weak{f:Value}{r r':List V->Hp->VK->Prop}(h:cw X f r)(w:∀xs H Q,r' xs H Q->r xs H Q):cw X f r':=fun pins s σ H xs us Q I rx q=>h pins s σ H xs us Q I rx (w xs H Q q)
theorem n4:OpR X (Ie .Add) oS:=rB.weak fun _ _ _ _ ⟨l,b,xs,zs,e1,e2,h1,h2,hz,q⟩=>⟨l,b,xs,zs,e1,e2,h1,h2,hz,q.upd⟩
theorem uG:OpR X (Ie .Add) (lE X.K):=uu.weak fun _ _ _ _ h=>BD h
theorem uH:cw X (.type "list") (nD X.K):=rq.weak fun _ _ _ ⟨p,ys,e,h,q⟩=>⟨p,ys,e,h,q.upd⟩
theorem zM:cw X (.type "tuple") (oT X.K):=kK.weak fun _ _ _ ⟨p,ys,e,h,q⟩=>⟨p,ys,e,.inl ⟨h,q.upd⟩⟩
theorem uI:SlR X (vp X.K):=fun pins s σ H x v vl vu lo hi sl Q I rx hs pl pu ⟨a,xs,e,h,q⟩=>Bw pins s σ H x v vl vu lo hi sl Q I rx hs pl pu ⟨a,xs,e,h,q.upd⟩
end
section
variable{X:Cx}{es:List Expr}{t:TA}{pos:Pos}
theorem aR{x1}(h:PA X es t):PE X (.Tuple es x1 pos) (bq t):=by
 intro pins s σ H Q I hq;refine Nk (thn (h pos pins s σ H _ I hq) fun us s1 ⟨xs,H1,I1,r,z,q⟩=>⟨by rw[<-r.length];exact z,?_⟩);have hf:H1 s1.heap.objs.size=none:=I1.hok.fresh (EM _);refine⟨.ref s1.heap.objs.size,upd H1 s1.heap.objs.size (.tup xs),I1.laid (t':=s1.toks) (fun b u e=>EH _ e) (EM _) ?_,rfl,q.upd _ hf⟩;exact⟨z,us,r,dz.new _ _⟩
theorem aM(h:PA X es t):PE X (.List es pos) (bg t):=by
 intro pins s σ H Q I hq;refine Ny (thn (h pos pins s σ H _ I hq) fun us s1 ⟨xs,H1,I1,r,z,q⟩=>⟨by rw[<-r.length];exact z,?_⟩);have hf:H1 s1.heap.objs.size=none:=I1.hok.fresh (EM _);refine⟨.ref s1.heap.objs.size,upd H1 s1.heap.objs.size (.lst xs),I1.laid (t':=s1.toks) (fun b u e=>EH _ e) (EM _) ?_,rfl,q.upd _ hf⟩;exact⟨z,us,0,r,ES _ rfl⟩
end
section
variable{X:Cx}{es:List Expr}{te:TE}{t:TA}
theorem ac{v:Const}{j:Nat}{p:Pos}(ha:PE X (.Constant v j p) te)(hr:PA X es t):PA X (.Constant v j p::es) (aa te t):=eF ha hr rfl
theorem ad{x:Str}{p:Pos}(ha:PE X (.Name x p) te)(hr:PA X es t):PA X (.Name x p::es) (aa te t):=eF ha hr rfl
theorem cy{a b:Expr}{o:Operator}{p:Pos}(ha:PE X (.BinOp a o b p) te)(hr:PA X es t):PA X (.BinOp a o b p::es) (aa te t):=eF ha hr rfl
theorem aE{f:Expr}{as:List Expr}{ks:List Keyword}{p:Pos}(ha:PE X (.Call f as ks p) te)(hr:PA X es t):PA X (.Call f as ks p::es) (aa te t):=eF ha hr rfl
theorem aN{as:List Expr}{k:Nat}{p:Pos}(ha:PE X (.Tuple as k p) te)(hr:PA X es t):PA X (.Tuple as k p::es) (aa te t):=eF ha hr rfl
theorem aV{as:List Expr}{p:Pos}(ha:PE X (.List as p) te)(hr:PA X es t):PA X (.List as p::es) (aa te t):=eF ha hr rfl
theorem aw{a b:Expr}{p:Pos}(ha:PE X (.Subscript a b p) te)(hr:PA X es t):PA X (.Subscript a b p::es) (aa te t):=eF ha hr rfl
theorem bV{e:Expr}(ha:PE X e te)(hr:PA X es t)(hs:Fc (e::es) X.env=(false,eval e X.env)::Fc es X.env:=by rfl):PA X (e::es) (aa te t):=eF ha hr hs
structure ED(N:List Str)(sc:Scope)(i:Nat)(x:Str):Prop where
 n:N[i]?=some x
 v:Vis sc x
 d:(x==("__debug__":Str))=false
 c:(x==("__classdict__":Str))=false
end
end
section
open PySem.Spec
theorem Dj{X:Cx}:SlR X (zb X.K):=fun pins s σ H x v vl vu lo hi sl Q I rx hs pl pu ⟨a,xs,e,h,n,q⟩=>CC pins s σ H x v vl vu lo hi sl Q I rx hs pl pu ⟨a,xs,e,h,n,q.upd⟩
noncomputable def AZ(P:Program)(w:World)(K:Fg)(a:Addr)(kvs:List (Str×V)):Prop:=
 (a==G8)=false/\∃(o:Obj)(es:Array Nx)(ep:Nat)(vs:List (Key×Value)),K.lookup a=some o/\o.ExactDict/\o.data=.dict es ep/\KeysOf (jI P w) es/\Pairs (jI P w) es.toList vs/\(vs.map (·.1)).Nodup/\
  Paired (fun(p:Str×V)(q:Key×Value)=>q.1=.inr p.1/\aB p.2 q.2) kvs vs
section
variable{X:Cx}{o i:Expr}{pos:Pos}{td ty:TE}{a:Addr}{kvs:List (Str×V)}
theorem AZ.of{pins:List (Addr×Obj)}{σ:St}{H:Hp}{s:Shared}(D:AZ X.prog X.w X.K a kvs)(I:Inv X pins σ H s):∃vs,s.heap.DictOf (jI X.prog X.w) a vs/\Paired (fun(p:Str×V)(q:Key×Value)=>q.1=.inr p.1/\aB p.2 q.2) kvs vs:=by
 obtain⟨_,o,es,ep,vs,lk,ex,hd,hk,hp,nd,rel⟩:=D;exact⟨vs,⟨o,es,ep,I.kIn a o lk,ex,hd,hk,hp,nd⟩,rel⟩
end
end
section
open PySem.Spec
noncomputable def CX1(P:Program)(w:World):CXT:=fun outer H s E e s'=>
 ∃(a C:Addr)(a0:Value)(H':Hp)(B:Heap),e=.ref a/\s'.os=s.os/\AllBare s'.gens/\Un (frs outer) [] H H' s.heap s'.heap/\HOk P w H' s'.heap/\
  Kt B outer a (.ref C) a0 s'.heap/\(∀b o,s.heap.get? b=some o->H b=none->b∉frs outer->B.get? b=some o)/\
  (∀b o,s.heap.get? b=some o->b∉frs outer->∃o',B.get? b=some o')/\(∀b u o,H' b=some u->s'.heap.get? b=some o->B.get? b=some o)/\H' a=none/\E (.ref C) (some a) H'
theorem br.there{P:Program}{w:World}{H:Hp}{h:Heap}{a:Addr}{o:HO}(x:br P w H h a o):∃ob,h.get? a=some ob:=by
 cases o with
 |lst xs=>obtain⟨_,_,_,_,e⟩:=x;exact⟨_,e⟩
 |tup xs=>obtain⟨_,_,_,_,e,_⟩:=x;exact⟨_,e⟩
 |dK kvs=>obtain⟨_,_,_,_,o,_,_,e,_⟩:=x;exact⟨_,e⟩
 |dT kvs=>obtain⟨_,_,_,_,o,_,_,e,_⟩:=x;exact⟨_,e⟩
 |set S n=>obtain⟨o,_,_,_,e,_⟩:=x;exact⟨_,e⟩
 |ins C dx fs=>obtain⟨_,_,_,e,_⟩:=x;exact⟨_,e⟩
 |own y=>exact x
 |xd fs=>obtain⟨_,⟨_,_,_,e,_⟩,_⟩:=x;exact⟨_,e⟩
 |rng lo hi=>obtain⟨_,_,_,e⟩:=x;exact⟨_,e⟩
 |frz ob u=>obtain⟨e,_⟩:=x;exact⟨_,e⟩
 |tbl ps=>exact⟨_,x⟩
 |met f y=>exact⟨_,x⟩
 |ext φ=>obtain⟨_,e,_⟩:=x;exact e
theorem HOk.on{P:Program}{w:World}{H:Hp}{h h':Heap}(x:HOk P w H h)(k:∀b u o,H b=some u->h.get? b=some o->h'.get? b=some o):HOk P w H h':=fun a o e=>
 (x a o e).stay (fun b u hb q=>by
  rcases hb with rfl|hb
  ·exact k _ _ _ e q
  ·exact k _ _ _ hb q) (fun _ q=>q) fun _ _ q=>q
section
variable{P:Program}{w:World}{K:Fg}{mg:Str->Option Value}{base:Heap}{N:List Str}{qual:Str}{scope:Scope}{f:Addr}{cd:Value}{A:Around}{outer:List Env}{s:Shared}{H:Hp}{E:XK}
theorem DV:iR (CX1 P w) (cq (CX1 P w) P w K mg base N qual scope f cd A outer s H E) E:=by
 rintro pins σ H1 s1 e s' I ⟨a,C,a0,H',B,rfl,os,bare,un,hok,fl,kb,kth,kt,na,q⟩;have own:∀b o,s.heap.get? b=some o->b∉frs outer->b∉frs (cq (CX1 P w) P w K mg base N qual scope f cd A outer s H E).stack:=fun b o hb hn hm=>by
  rcases EV.mp (show b∈s.heap.objs.size::frs outer from hm)with rfl|hm
  ·exact absurd (EN hb) (FM _)
  ·exact hn hm
 have inS:∀b,b∈frs outer->b∈frs (cq (CX1 P w) P w K mg base N qual scope f cd A outer s H E).stack:=fun b h=>E3 s.heap.objs.size h;have un0:Un (frs outer) [] H H1 s.heap s1.heap:=I.base;have no:∀b:Addr,b∉([]:List Addr):=fun b z=>by cases z
 refine wpAny_leaves_onW I.ok.frames rfl fl fun h' x1 x2=>?_;have keep:∀b o,s.heap.get? b=some o->H b=none->b∉frs outer->B.get? b=some o:=fun b o hb hn hf=>
  kb b o (un0.keep b o hb hn hf (no b)) (un0.free b o hb hn (no b)) (own b o hb hf)
 have ther:∀b o,s.heap.get? b=some o->b∉frs outer->∃o',B.get? b=some o':=fun b o hb hf=>by
  obtain⟨o1,h1⟩:=un0.there b o hb (no b);exact kth b o1 h1 (own b o hb hf)
 have slot:∀b o,s.heap.get? b=some o->H b=none->b∈frs outer->∃sl,h'.get? b=some { o with slots:=sl }:=fun b o hb hn hf=>by
  obtain⟨sl,h1⟩:=un0.slot b o hb hn hf (no b);obtain⟨sl2,h2⟩:=un.slot b _ h1 (un0.free b o hb hn (no b)) (E3 _ hf) (no b);obtain⟨_,o3,h3,nf⟩:=fl.2.2.1.mem (inS b hf);rw[h2]at h3;cases h3;obtain⟨sl4,h4⟩:=x2 b _ h2 nf;exact⟨sl4,h4⟩
 refine⟨a,C,a0,H',B,rfl,os.trans I.os,bare,⟨fun b o hb hn hf _=>x1.1 b o (keep b o hb hn hf),fun b o hb hn hf _=>slot b o hb hn hf,fun b o hb hn _=>?_,fun b o hb _=>?_,fun b xs e=>un.tups b xs (un0.tups b xs e),fun b o u e=>un.frzs b o u (un0.frzs b o u e),fun b ps e=>?_⟩,
  hok.on fun b u o e1 e2=>x1.1 b o (kt b u o e1 e2),x1,keep,ther,fun b u o e1 e2=>?_,na,q⟩
 ·obtain⟨o1,h1⟩:=un0.there b o hb (no b)
  exact un.free b o1 h1 (un0.free b o hb hn (no b)) (no b)
 ·by_cases hf:b∈frs outer
  ·obtain⟨o1,h1⟩:=un0.there b o hb (no b)
   obtain⟨o2,h2⟩:=un.there b o1 h1 (no b);obtain⟨_,o3,h3,nf⟩:=x1.2.2.1.mem hf;exact⟨o3,h3⟩
  ·obtain⟨o',e'⟩:=ther b o hb hf
   exact⟨o',x1.1 b o' e'⟩
 ·obtain⟨m1,e1⟩:=un0.tbls b ps e
  obtain⟨m2,e2⟩:=un.tbls b _ e1;exact⟨m1++m2,by rw[e2,KS]⟩
 ·have e2:h'.get? b=some o:=e2
  obtain⟨o1,h1⟩:∃o1,s'.heap.get? b=some o1:=(hok b u e1).there;have h2:=kt b u o1 e1 h1;have h3:=x1.1 b o1 h2;rw[e2]at h3;cases h3;exact h2
theorem DW{pins:List (Addr×Obj)}{σ:St}{H1:Hp}{s1:Shared}{a C:Addr}{h2:Heap}{us:List Value}(I:Inv (cq (CX1 P w) P w K mg base N qual scope f cd A outer s H E) pins σ H1 s1)(hx:Heap.MadeExcOf s1.heap h2 a (.ref C) us)(q:∀a,H1 a=none->E (.ref C) (some a) H1):
  (cq (CX1 P w) P w K mg base N qual scope f cd A outer s H E).xe (.ref a) { s1 with heap:=h2 }:=by
 have un0:Un (frs outer) [] H H1 s.heap s1.heap:=I.base;have no:∀b:Addr,b∉([]:List Addr):=fun b z=>by cases z
 have own:∀b o,s.heap.get? b=some o->b∉frs outer->b∉frs (cq (CX1 P w) P w K mg base N qual scope f cd A outer s H E).stack:=fun b o hb hn hm=>by
  rcases EV.mp (show b∈s.heap.objs.size::frs outer from hm)with rfl|hm
  ·exact absurd (EN hb) (FM _)
  ·exact hn hm
 have hin:∀env∈(cq (CX1 P w) P w K mg base N qual scope f cd A outer s H E).stack,∀b,env.frame=some b->b∈frs (cq (CX1 P w) P w K mg base N qual scope f cd A outer s H E).stack:=fun env he b hb=>HF.mpr ⟨env,he,hb⟩;have na:H1 a=none:=by
  cases e:H1 a with
  |none=>rfl
  |some u=>obtain⟨o,ho⟩:=(I.hok a u e).there;rw[hx.new]at ho;cases ho
 have get:∀b o,s1.heap.get? b=some o->b∉frs (cq (CX1 P w) P w K mg base N qual scope f cd A outer s H E).stack->(Jp s1.heap (frs (cq (CX1 P w) P w K mg base N qual scope f cd A outer s H E).stack)).get? b=some o:=fun b o e n=>Nj _ e n;refine wpAny_leaves_madeW (s:={ s1 with heap:=h2 }) I.ok.frames rfl (fun b o e=>Nv _ e) (PySem.W.funFrames_hide I.stack hin) hx fun h' t x1 x2 x3 x4=>?_;have keep:∀b o,s.heap.get? b=some o->H b=none->b∉frs outer->(Jp s1.heap (frs (cq (CX1 P w) P w K mg base N qual scope f cd A outer s H E).stack)).get? b=some o:=fun b o hb hn hf=>
  get b o (un0.keep b o hb hn hf (no b)) (own b o hb hf)
 have ther:∀b o,s.heap.get? b=some o->b∉frs outer->∃o',(Jp s1.heap (frs (cq (CX1 P w) P w K mg base N qual scope f cd A outer s H E).stack)).get? b=some o':=fun b o hb hf=>by
  obtain⟨o1,h1⟩:=un0.there b o hb (no b);exact⟨o1,get b o1 h1 (own b o hb hf)⟩
 have trk:∀b u o,H1 b=some u->s1.heap.get? b=some o->(Jp s1.heap (frs (cq (CX1 P w) P w K mg base N qual scope f cd A outer s H E).stack)).get? b=some o:=fun b u o e1 e2=>get b o e2 fun hm=>by
  rw[I.stkFree b hm]at e1;cases e1
 refine⟨a,C,.ref t,H1,_,rfl,I.os,I.bare,⟨fun b o hb hn hf _=>x1.1 b o (keep b o hb hn hf),fun b o hb hn hf _=>?_,fun b o hb hn _=>un0.free b o hb hn (no b),fun b o hb _=>?_,un0.tups,un0.frzs,un0.tbls⟩,
  I.hok.on fun b u o e1 e2=>x1.1 b o (trk b u o e1 e2),x1,keep,ther,fun b u o e1 e2=>?_,na,q a na⟩
 ·obtain⟨sl,h1⟩:=un0.slot b o hb hn hf (no b)
  obtain⟨_,o3,h3,nf⟩:=I.stack.mem (E3 s.heap.objs.size hf:b∈s.heap.objs.size::frs outer);rw[h1]at h3;cases h3;obtain⟨sl4,h4⟩:=x4 b _ (hx.keeps _ _ h1) nf;exact⟨sl4,h4⟩
 ·by_cases hf:b∈frs outer
  ·obtain⟨_,o3,h3,nf⟩:=x1.2.2.1.mem hf
   exact⟨o3,h3⟩
  ·obtain⟨o',e'⟩:=ther b o hb hf
   exact⟨o',x1.1 b o' e'⟩
 ·have e2:h'.get? b=some o:=e2
  obtain⟨o1,h1⟩:=(I.hok b u e1).there;have h2:=trk b u o1 e1 h1;have h3:=x1.1 b o1 h2;rw[e2]at h3;cases h3;exact h2
end
noncomputable def vQ(K:Fg)(C:Addr):Prop:=∃(Bn newId inN B nid initId:String)(bmN bmB:List Value),ExcBaseFacts Bn newId inN bmN/\bmB.contains (.type Bn)=true/\ExcBaseFacts B nid initId bmB/\
 ∀h,K.In h->∃nm q N bs bm hdct sn sub ab col dd k0 k1 k2 k3 k5,∃mN:Str->Option Value,bm.contains (.type "BaseException")=true/\mN "__init__"=none/\
  h.get? C=some (excClassObj nm q C N bs bm hdct sn sub ab col dd k0 k1 k2 k3 k5 newId)/\h.Ns N mN/\OwnTail h bmB bm
noncomputable def su(C:Addr)(E:XK)(t:TA):TS:=fun _ σ H=>t σ H fun vs H1=>vs.length<=E1/\∀a,H1 a=none->E (.ref C) (some a) H1
noncomputable def A3(X:Cx)(C:Addr)(E:XK):Prop:=∀(pins:List (Addr×Obj))(σ:St)(H1:Hp)(s1:Shared)(a:Addr)(h2:Heap)(us:List Value),Inv X pins σ H1 s1->Heap.MadeExcOf s1.heap h2 a (.ref C) us->(∀a,H1 a=none->E (.ref C) (some a) H1)->X.xe (.ref a) { s1 with heap:=h2 }
theorem Dk{P:Program}{w:World}{K:Fg}{mg:Str->Option Value}{base:Heap}{N:List Str}{qual:Str}{scope:Scope}{f:Addr}{cd:Value}{A:Around}{outer:List Env}{s:Shared}{H:Hp}{E:XK}{C:Addr}:
  A3 (cq (CX1 P w) P w K mg base N qual scope f cd A outer s H E) C E:=fun _ _ _ _ _ _ _ I hx q=>DW I hx q
theorem zN{X:Cx}{C:Addr}{E:XK}{x:Str}{np cpos pos:Pos}{e:Expr}{es:List Expr}{t:TA}(hc:X.calm=true)(ec:vQ X.K C)(hg:Gl X x)(hm:X.mg x=some (.ref C))(mk:A3 X C E)(ha:PA X (e::es) t)
  (hdb:(x==("__debug__":Str))=false:=by decide) (he:Fc (e::es) X.env=(false,eval e X.env)::Fc es X.env:=by rfl) (hpl:(backTo cpos (Fc es X.env)).any (·.1)=false:=by rfl):
  PS X (.Raise (some (.Call (.Name x np) (e::es) [] cpos)) none pos) (su C E t):=by
 intro pins s σ H D I h;obtain⟨Bn,newId,inN,B,nid,initId,bmN,bmB,Fn,hBn,F,ex⟩:=ec;obtain⟨nm,q,N,bs,bm,hdct,sn,sub,ab,col,dd,k0,k1,k2,k3,k5,mN,hbase,hni,hC,hN,hT⟩:=ex X.base I.ok.mod.kin;obtain⟨z,hs⟩:∃z,backTo cpos (Fc (e::es) X.env)=(false,z)::backTo cpos (Fc es X.env):=⟨_,by rw[he];rfl⟩;refine wpAny_Raise_call_subU (C:=C) (nm:=nm) (q:=q) (N:=N) (bs:=bs) (hdct:=hdct) (sn:=sn) (sub:=sub) (ab:=ab) (col:=col) (dd:=dd) (k0:=k0) (k1:=k1) (k2:=k2) (k3:=k3) (k5:=k5) Fn hBn F hbase (I.ok.hd hc) (by rw[hs];show(false||(backTo cpos (Fc es X.env)).any (·.1))=false;rw[hpl];rfl) hni (oJ I hg hm ⟨rfl,?_⟩ hdb);have hA:=ha cpos pins s σ H _ I h;rw[hs]at hA ⊢;refine IY (thn hA fun us s2 ⟨vs,H2,I2,r2,q2⟩=>⟨rfl,by rw[<-r2.length];exact q2.1,I2.bk _ _ hC,hN.keeps I2.bk,hT.keeps I2.bk,fun h' a hx=>mk pins σ H2 s2 a h' us I2 hx q2.2⟩)
theorem zO{K:Fg}{C:Addr}(q:PySem.W.excIn K C [.type "ValueError",.type "Exception",.type "BaseException",.type "object"] "ValueError.__new__"=true):vQ K C:=by
 refine⟨_,_,_,_,_,_,_,_,HR,HR.hasB,HR,fun h X=>?_⟩;unfold PySem.W.excIn at q
 split at q
 ·rename_i dd cd sl ho
  split at q
  ·rename_i C' bm k0 k1 k2 k3 n k5 hm hs
   simp only[Gr,beq_iff_eq,Bool.not_eq_true']at q;obtain⟨⟨⟨⟨⟨rfl,rfl⟩,hdel⟩,ht⟩,hok⟩,hni⟩:=q;obtain⟨nm,bs,mro,ns,qn,hd,sn,sub,ab,col,del⟩:=cd;dsimp only at hm hdel hok hni;subst hm hdel;have hsl:sl=#[k0,k1,k2,k3,some (.builtin "ValueError.__new__"),k5]:=by
    obtain⟨l⟩:=sl;simp only at hs;rw[hs]
   subst hsl;have T:=PySem.W.tail_of_in X ht;exact⟨nm,qn,ns,bs,bm,hd,sn,sub,ab,col,dd,k0,k1,k2,k3,k5,_,T.hasType HR.hasBase,PySem.W.nsMap_none_of_in X hok hni,X _ _ ho,.of_isNs (PySem.W.isNs_of_in X hok),T⟩
  ·cases q
 ·cases q
end
section
open PySem.Spec
structure mP(X:Cx)(pins:List (Addr×Obj))(H:Hp)(B:Heap):Prop where
 s0:∀b o,X.s₀.heap.get? b=some o->b∉frs X.stack->∃o',B.get? b=some o'
 ce:∀x c,X.env.cells.lookup x=some c->∃o,B.get? c=some o
 pi:∀p∈X.pn++pins,B.get? p.1=some p.2
 tr:∀b u,H b=some u->∃o,B.get? b=some o
section
variable{X:Cx}{pins:List (Addr×Obj)}{σ:St}{H:Hp}{s:Shared}{B h':Heap}
theorem Inv.flew(I:Inv X pins σ H s)(hB:B.StaysIn s.heap)(K:mP X pins H B)(k:B.StaysIn h')(sm:s.heap.UpToSlots h')(ff:h'.FunFrames B X.stack):Inv X pins σ H { s with heap:=h' }:=by
 have notL:∀b o,X.s₀.heap.get? b=some o->b∉X.fs->b∉frs X.stack:=fun b o e n z=>by
  rcases EV.mp (I.stkSub b z)with rfl|z
  ·exact absurd (E8 (EN e) I.ok.above) (FM _)
  ·exact n z
 have same:∀b o,(∃o',B.get? b=some o')->s.heap.get? b=some o->h'.get? b=some o:=fun b o ⟨o',e⟩ q=>by
  have:=hB b o' e;rw[q]at this;cases this;exact k b _ e
 obtain⟨m,ns,hm⟩:=I.loc;refine⟨I.ok,I.os,I.bare,⟨fun b o e n hf hx=>?_,fun b o e n hf hx=>?_,I.base.free,fun b o e hx=>?_,I.base.tups,I.base.frzs,I.base.tbls⟩,⟨m,sm.ns ns,fun i x v h1 h2 h3=>?_⟩,fun x c e=>?_,I.free,I.freeC,fun p hp=>?_,?_,I.len⟩
 ·exact same b o (K.s0 b o e (notL b o e hf)) (I.base.keep b o e n hf hx)
 ·obtain⟨sl,h1⟩:=I.base.slot b o e n hf hx
  have hb:b∈frs X.stack:=by
   rcases I.ok.stk with q|⟨q,_⟩
   ·rw[q];exact hf
   ·rw[q]
    obtain⟨env,he,hb⟩:=HF.mp hf;exact HF.mpr ⟨env,E3 _ he,hb⟩
  obtain⟨_,o3,h3,nf⟩:=I.stack.mem hb;rw[h1]at h3;cases h3;obtain⟨sl2,h4⟩:=sm _ _ h1 nf;exact⟨sl2,h4⟩
 ·by_cases hb:b∈frs X.stack
  ·obtain⟨_,o3,h3,_⟩:=ff.mem hb
   exact⟨o3,h3⟩
  ·obtain⟨o',e'⟩:=K.s0 b o e hb
   exact⟨o',k b o' e'⟩
 ·obtain⟨u,r,l⟩:=hm i x v h1 h2 h3
  refine⟨u,r,?_⟩;rcases l with l|⟨l1,c,l2,o,l3,l4⟩
  ·exact .inl l
  ·exact .inr ⟨l1,c,l2,o,same c o (K.ce x c l2) l3,l4⟩
 ·obtain⟨v,o,l3,l4⟩:=I.cell x c e
  exact⟨v,o,same c o (K.ce x c e) l3,l4⟩
 ·obtain⟨_,r⟩:=I.pin p hp
  exact⟨k _ _ (K.pi p hp),r⟩
 ·exact I.hok.on fun b u o e1 e2=>same b o (K.tr b u e1) e2
theorem Inv.thrown{E:XK}{e:Value}{s':Shared}(hex:X.ex=[])(hfn:∀x,X.fn x=true)(I:Inv X pins σ H s)(x:CX1 X.prog X.w X.stack H s E e s'):
  ∃(a C:Addr)(a0:Value)(H':Hp)(B:Heap),e=.ref a/\Inv X pins σ H' s'/\mP X pins H' B/\Kt B X.stack a (.ref C) a0 s'.heap/\H' a=none/\E (.ref C) (some a) H':=by
 obtain⟨a,C,a0,H',B,rfl,os,bare,un,hok,fl,kb,kth,kt,na,q⟩:=x;have notS:∀b:Addr,b≠X.env.locals->b∉X.fs->b∉frs X.stack:=fun b n1 n2 z=>(EV.mp (I.stkSub b z)).elim n1 n2;refine⟨a,C,a0,H',B,rfl,I.call' (ch:=[]) os un hok bare (fun b z=>by cases z),⟨fun b o e n=>?_,fun x c e=>?_,fun p hp=>?_,fun b u e=>?_⟩,fl,na,q⟩
 ·obtain⟨o1,h1⟩:=I.base.there b o e (by rw[hex];intro z;cases z)
  exact kth b o1 h1 n
 ·obtain⟨v,o,l3,l4⟩:=I.cell x c e
  refine kth c o l3 (notS c (fun z=>?_) fun z=>?_)
  ·obtain⟨m,⟨o2,es,ep,h2,h3,_⟩,_⟩:=I.loc
   rw[<-z,l3]at h2;cases h2;rw[l4]at h3;cases h3
  ·obtain⟨_,o3,h3,_⟩:=I.ok.funs.mem z
   exact absurd (E8 (EN h3) (I.ok.cab x c (hfn x) e)) (FM _)
 ·obtain⟨h1,h2,h3,h4,_⟩:=I.pin p hp
  exact kb _ _ h1 h2 (notS _ h3 h4)
 ·obtain⟨o,ho⟩:=(hok b u e).there
  exact⟨o,kt b u o e ho⟩
theorem vR{a C D:Addr}{a0:Value}{i:Nat}{n y:Str}{np hpos:Pos}{b0:Stmt}{suite:List Stmt}{Q:Flow->Shared->Prop}(hst:X.stack=X.env::X.outer)(hfr:X.env.frame=some X.env.locals)(I:Inv X pins σ H s)(Hd:mP X pins H B)
  (fl:Kt B X.stack a (.ref C) a0 s.heap) (hg:Gl X y) (hm:X.mg y=some (.ref D)) (hx:PySem.W.exmOne X.K (.ref C) (.ref D)=some true) (hN:X.N.Nodup) (hi:X.N[i]?=some n) (hloc:X.env.scope.names.lookup n=some .local)
  (k:∀s3 oe vs,Inv X pins (σ.set i (some (.ref a))) H s3->s3.heap.get? a=some oe->oe.cls=.ref C->oe.data=.fields vs->a≠X.env.locals->
   wpAny (model X.prog X.w) (X.A.mark (some (.ref a))) (execs (b0::suite) X.env) (fun f s4=>wpAny (model X.prog X.w) X.A (do bindName X.env n .none;M3 X.env n hpos) (fun _ s5=>Q f s5) X.xe s4) (fun _ _=>False) s3)
  (hdb:(y==("__debug__":Str))=false:=by decide):
  wpAny (model X.prog X.w) X.A (noteFrame (.ref a) X.env) (fun _ s2=>wpAny (model X.prog X.w) X.A (setFlight (.ref a) none) (fun _ s3=>wpAny (model X.prog X.w) X.A (handleBy (.ref a) X.env [.ExceptHandler (some (.Name y np)) (some n) (b0::suite) hpos]) Q X.xe s3) X.xe s2) X.xe s:=by
 have fl0:Kt B (X.env::X.outer) a (.ref C) a0 s.heap:=hst▸fl;refine wpAny_looks_onW (hst▸I.ok.frames) hfr fl0 fun h1 x1 u1=>?_;refine wpAny_landsW x1 fun h2 x2 u2=>?_;have I2:Inv X pins σ H { s with heap:=h2 }:=I.flew fl.1 Hd x2.1 (u1.trans u2) (hst▸x2.2.2.1);refine wpAny_handleBy_cons (codeAny_handlers_test (Jf I2.ok.kind hg (Mc (by rw[I2.ok.glob];exact I2.mod.glob.keeps I2.bk) hm ?_) hdb)) (by intro q;cases q);have LT:PySem.W.Looks (model X.prog X.w) h2 (typeOf (.ref a)) (.ref C):=by
  obtain⟨ob,hob,hc⟩:=x2.there;rw[<-hc];exact(PySem.W.Looks.ld hob).andThen .now
 refine(PySem.W.exm_one I2.kIn LT hx).here ?_;refine codeAny_handlers_suite_as ?_;refine lands_againW x2 fun h3 x3 u3=>?_;have I3:Inv X pins σ H { s with heap:=h3 }:=I2.flew x2.1 Hd x3.1 u3 (hst▸x3.2.2.1);obtain⟨oe,vs,hoe,hoec,hoed,_⟩:=x3.first;have neL:a≠X.env.locals:=fun z=>by
  obtain⟨m,⟨o2,es,ep,h2,h3,_⟩,_⟩:=I3.loc;rw[<-z]at h2;have h2:=hoe.symm.trans h2;cases h2;rw[hoed]at h3;cases h3
 refine kM I3 hN hi (.inl hloc) (v:=.ref a) rfl (fun s4 I4 ⟨b,sb,hb⟩=>?_) (.inr hloc);have neb:a≠b:=fun z=>by
  rcases hb with hb|hb
  ·exact neL (z.trans hb)
  ·obtain⟨v,o,e1,e2⟩:=I3.cell n b hb
   rw[<-z]at e1;have e1:=hoe.symm.trans e1;cases e1;rw[hoed]at e2;cases e2
 exact F7 (k s4 oe vs I4 ((sb.2 a neb).trans hoe) hoec hoed neL) (fun _ _ q=>q) fun _ _ z=>z.elim
theorem xZ{M:Model}{A:Around}{E:Value->Shared->Prop}{i:Nat}{n:Str}{v:V}{Q:Unit->Shared->Prop}(I:Inv X pins (σ.set i (some v)) H s)(hl:i<σ.length)(hN:X.N.Nodup)(hi:X.N[i]?=some n)(hloc:X.env.scope.names.lookup n=some .local)
  (h:∀s',Inv X pins (σ.set i none) H s'->Q () s'):wpAny M A (unbindName X.env n) Q E s:=by
 obtain⟨m,hn,hm⟩:=id I.loc;have hcls:(X.env.scope.kind== .class||(X.env.scope.kind== .module&&X.env.locals != X.env.globals))=false:=by rw[I.ok.kind];rfl
 obtain⟨u,_,lk⟩:=hm i n v hi (by rw[Iw hl]) (.inl hloc);have hv:m n=some u:=by
  rcases lk with⟨_,e⟩|⟨k,_⟩
  ·exact e
  ·have k:X.env.scope.names.lookup n=some .cell\/X.env.scope.names.lookup n=some .free:=k
   rw[hloc]at k;rcases k with k|k<;>cases k
 have cne:=I.cne;have above:∀b o,X.s₀.heap.get? b=some o->b≠X.env.locals:=fun b o e=>Fi (E8 (EN e) I.ok.above);refine wpAny_unbindName_local hloc hn hv hcls fun h' w hn' hs=>?_;refine h _ ⟨I.ok,I.os,I.bare,⟨fun b o e n hb hx=>(hs.2 b (above b o e)).trans (I.base.keep b o e n hb hx),fun b o e n hb hx=>?_,I.base.free,fun b o e hx=>?_,I.base.tups,I.base.frzs,I.base.tbls⟩,⟨_,hn',fun j y v' e1 e2 e3=>?_⟩,fun y c e=>?_,I.free,I.freeC,fun p hp=>?_,I.hok.on fun b ob o e1 e2=>(hs.2 b fun z=>?_).trans e2,by simpa using I.len⟩
 ·obtain⟨sl,e1⟩:=I.base.slot b o e n hb hx
  exact⟨sl,(hs.2 b (above b o e)).trans e1⟩
 ·obtain⟨o',e1⟩:=I.base.there b o e hx
  exact⟨o',(hs.2 b (above b o e)).trans e1⟩
 ·by_cases hj:j=i
  ·subst hj
   rw[Iw hl]at e2;cases e2
  ·rw[IX (Ge hj)]at e2
   obtain⟨u',r',q⟩:=hm j y v' e1 (by rw[IX (Ge hj)];exact e2) e3;refine⟨u',r',?_⟩;rcases q with⟨k,e⟩|⟨k,c,e,z⟩
   ·refine .inl ⟨k,?_⟩
    have:y≠n:=fun e=>hj (mw hN e1 (e▸hi));simp[this,e]
   ·exact .inr ⟨k,c,e,z.sameBut hs (cne y c e)⟩
 ·obtain⟨w',z⟩:=I.cell y c e
  exact⟨w',z.sameBut hs (cne y c e)⟩
 ·obtain⟨e,n,ne,nf,d⟩:=I.pin p hp
  exact⟨(hs.2 p.1 ne).trans e,n,ne,nf,d⟩
 ·rw[z,I.free]at e1;cases e1
theorem ya{i:Nat}{n:Str}{hpos:Pos}{Q:Unit->Shared->Prop}(I:Inv X pins σ H s)(hN:X.N.Nodup)(hi:X.N[i]?=some n)(hloc:X.env.scope.names.lookup n=some .local)(h:∀s',Inv X pins (σ.set i none) H s'->Q () s'):
  wpAny (model X.prog X.w) X.A (do bindName X.env n .none;M3 X.env n hpos) Q X.xe s:=by
 have hl:i<σ.length:=by rw[I.len];exact(EK.mp hi).1
 refine EF (wpAny_bindName (mz I hN hi (.inl hloc) (v:=.non) rfl (fun s' I'=>?_) (.inr hloc)));exact J7 (xZ I' hl hN hi hloc h)
end
noncomputable abbrev Cx.tried(X:Cx)(pn:List (Addr×Obj))(E:Value->Shared->Prop):Cx:={ X with pn:=pn,xe:=E }
noncomputable abbrev Cx.suite(X:Cx)(a:Addr)(pn:List (Addr×Obj)):Cx:={ X with A:=X.A.mark (some (.ref a)),calm:=false,pn:=pn,xe:=fun _ _=>False }
section
variable{X:Cx}{pins pn pins':List (Addr×Obj)}{σ:St}{H:Hp}{s:Shared}{B:Heap}{E:Value->Shared->Prop}{a:Addr}
theorem Inv.tried(I:Inv X pins σ H s):Inv (X.tried (X.pn++pins) E) [] σ H s:=
 ⟨⟨I.ok.mod,I.ok.kind,I.ok.glob,I.ok.blt,I.ok.above,I.ok.inj,I.ok.has,I.ok.cab,I.ok.hd,I.ok.frames,I.ok.stk,I.ok.exf,I.ok.bs,I.ok.bsz,I.ok.noex,I.ok.exfs,I.ok.funs,I.ok.frf⟩,
  I.os,I.bare,I.base,I.loc,I.cell,I.free,I.freeC,fun p hp=>I.pin p (by simpa using hp),I.hok,I.len⟩
theorem Inv.untried(I:Inv (X.tried (X.pn++pins) E) pins' σ H s):Inv X pins σ H s:=
 ⟨⟨I.ok.mod,I.ok.kind,I.ok.glob,I.ok.blt,I.ok.above,I.ok.inj,I.ok.has,I.ok.cab,I.ok.hd,I.ok.frames,I.ok.stk,I.ok.exf,I.ok.bs,I.ok.bsz,I.ok.noex,I.ok.exfs,I.ok.funs,I.ok.frf⟩,
  I.os,I.bare,I.base,I.loc,I.cell,I.free,I.freeC,fun p hp=>I.pin p (F6 _ hp),I.hok,I.len⟩
theorem Inv.suite{oe:Obj}{vs:Array Value}(I:Inv X pins σ H s)(e:s.heap.get? a=some oe)(hd:oe.data=.fields vs)(hn:H a=none)(hL:a≠X.env.locals):Inv (X.suite a (X.pn++pins++[(a,oe)])) [] σ H s:=
 ⟨⟨I.ok.mod,I.ok.kind,I.ok.glob,I.ok.blt,I.ok.above,I.ok.inj,I.ok.has,I.ok.cab,(fun z=>by cases z),I.ok.frames,I.ok.stk,I.ok.exf,I.ok.bs,I.ok.bsz,I.ok.noex,I.ok.exfs,I.ok.funs,I.ok.frf⟩,
  I.os,I.bare,I.base,I.loc,I.cell,I.free,I.freeC,fun p hp=>by
   rcases FC.mp (show p∈X.pn++pins++[(a,oe)]from by simpa using hp)with hp|hp
   ·exact I.pin p hp
   ·obtain rfl:p=(a,oe):=by simpa using hp
    refine⟨e,hn,hL,fun z=>?_,fun v q=>by have q:oe.data=_:=q;rw[hd]at q;cases q⟩;obtain⟨_,o3,h3,nf⟩:=I.funs.mem z;have h3:=e.symm.trans h3;cases h3;exact nf _ hd,I.hok,I.len⟩
theorem Inv.blank(I:Inv X pins σ H s):Inv X pins (KG X.N.length none) H s:=by
 obtain⟨m,ns,_⟩:=id I.loc;exact⟨I.ok,I.os,I.bare,I.base,⟨m,ns,fun i x v _ h2 _=>by
  rw[Md]at h2
  split at h2<;>cases h2⟩,I.cell,I.free,I.freeC,I.pin,I.hok,by simp⟩
theorem mP.untried(K:mP (X.tried (X.pn++pins) E) pins' H B):mP X pins H B:=⟨K.s0,K.ce,fun p hp=>K.pi p (F6 _ hp),K.tr⟩
end
end
section
open PySem.Spec PySem.W
structure ExI(K:Frag)(C:Addr):Prop where
 ga:findIn K (.ref C) "__getattribute__"=some (some (.builtin "BaseException.__getattribute__"))
 gt:findIn K (.ref C) "__getattr__"=some none
 cl:findIn K (.ref C) "__class__"=some (some (.builtin "object.__class__"))
 mo:mroIn K C (.type "object")=some true
 mb:mroIn K C (.type "BaseException")=some true
section
variable{prog:Program}{w:World}{A:Around}{E:Value->Shared->Prop}{h:Heap}{g:Array KB}{d:Drawn}{t:Nat}{os:OsState}{a:Addr}{o:Obj}{C:Addr}{K:Frag}
theorem Dl{R:Result->Shared->Prop}(X:K.In h)(Z:ExI K C)(hx:h.get? a=some o)(hc:o.cls=.ref C)(hq:R (.ok (.ret (.ref C))) ⟨h,g,d,t,os⟩):
  codeAny (model prog w) A (.call (.builtin "getset_descriptor.__get__") ⟨[.builtin "object.__class__",.ref a,.ref C],[]⟩) R ⟨h,g,d,t,os⟩:=by
 have hT5:(⟨h,g,d,t,os⟩:Shared).TypeIs (.builtin "object.__class__") "getset_descriptor":=Kg;have L1:=looks_mroIn (M:=model prog w) X Z.mo;refine Ku Nf.plain F.entry_gs_get (Nf.check _ _ _ _ _ _ _ _ hT5 (F.args_gs_get _ _ _) ?_)
 repeat (any_goals (first|assumption| (with_reducible refine IH hx ?_;rw[hc])| (rw[F.owner_object_class];with_reducible refine L1.at ?_)|wp_step))
 refine⟨NH _ (by decide+kernel),Gy F.entry_object_class ?_⟩
 repeat (any_goals (first|assumption| (with_reducible refine IH hx ?_;rw[hc])|wp_step))
theorem zP{tk:Tok}{Q:Fin->Shared->Prop}(X:K.In h)(Z:ExI K C)(hx:h.get? a=some o)(hc:o.cls=.ref C)(hq:Q (.done (.ret (.ref C))) ⟨h,g,d,t,os⟩):
  wpAny (model prog w) A (Builtin.«object.__getattribute__» ⟨[.ref a,.str "__class__" tk],[]⟩) Q E ⟨h,g,d,t,os⟩:=by
 have hT5:(⟨h,g,d,t,os⟩:Shared).TypeIs (.builtin "object.__class__") "getset_descriptor":=Kg;have f5:=Kg;have f6:=Nf.lookup;have f7:=F.slot_gs_set.lookup;have L1:=NI (M:=model prog w) X Z.cl
 repeat (any_goals (first|assumption| (with_reducible refine IH hx ?_;rw[hc])|with_reducible refine L1.at ?_|wp_step))
 refine Dl X Z hx hc ?_
 repeat (any_goals (first|assumption|wp_step))
theorem zQ{M:Model}{nameV:Value}{Q:Unit->Shared->Prop}(X:K.In h)(Z:ExI K C)(hx:h.get? a=some o)(hc:o.cls=.ref C)(hq:Q () ⟨h,g,d,t,os⟩):wpAny M A (LV "BaseException.__getattribute__" ⟨[.ref a,nameV],[]⟩) Q E ⟨h,g,d,t,os⟩:=by
 have hk:builtinKind "BaseException.__getattribute__"=some .slot:=by decide+kernel
 have hsplit:splitId "BaseException.__getattribute__"=some ("BaseException","__getattribute__"):=by decide+kernel
 have L1:=looks_mroIn (M:=M) X Z.mb;have ha:=F.args_bexc_ga (.ref a) nameV;simp only[LV,hk,hsplit];refine EF ?_
 ·unfold M1
  repeat (first| (with_reducible refine IH hx ?_;rw[hc])|with_reducible refine L1.at ?_|wp_step)
  exact hq
theorem BQ{tk:Tok}{R:Result->Shared->Prop}(X:K.In h)(Z:ExI K C)(hx:h.get? a=some o)(hc:o.cls=.ref C)(hq:R (.ok (.ret (.ref C))) ⟨h,g,d,t,os⟩):
  codeAny (model prog w) A (.call (.builtin "BaseException.__getattribute__") ⟨[.ref a,.str "__class__" tk],[]⟩) R ⟨h,g,d,t,os⟩:=
 Ku M4.ga.plain F.entry_bexc_ga (zQ X Z hx hc (zP X Z hx hc hq))
theorem DX{tk:Tok}{Q:Value->Shared->Prop}(X:K.In h)(Z:ExI K C)(hx:h.get? a=some o)(hc:o.cls=.ref C)(hq:Q (.ref C) ⟨h,g,d,t,os⟩):
  wpAny (model prog w) A (getAttrBy (.ref a) (.str "__class__" tk) false) Q E ⟨h,g,d,t,os⟩:=by
 have f3:=M4.ga.bind (.ref a);have hx2:(Io "BaseException.__getattribute__"==Io "object.__getattribute__")=false:=by decide+kernel
 have hx1:(onTheHeap (Fh C)&&Io "BaseException.__getattribute__"==Io "object.__getattribute__")=false:=by rw[hx2];rfl
 have L1:=NI (M:=model prog w) X Z.ga;have L2:=NI (M:=model prog w) X Z.gt
 repeat (any_goals (first|assumption| (with_reducible refine IH hx ?_;rw[hc])|with_reducible refine L1.at ?_|with_reducible refine L2.at ?_|wp_step))
 refine BQ X Z hx hc ?_
 repeat (any_goals (first|assumption|wp_step))
theorem BR{Q:Option Value->Shared->Prop}(X:K.In h)(Z:ExI K C)(hx:h.get? a=some o)(hc:o.cls=.ref C)(hq:Q (some (.ref C)) ⟨h,g,d,t+1,os⟩):wpAny (model prog w) A (getAttr? (.ref a) "__class__") Q E ⟨h,g,d,t,os⟩:=by
 unfold getAttr? getAttrBy?
 repeat (any_goals (first|assumption|with_reducible apply DX X Z hx hc|wp_step))
end
theorem mQ{K:Frag}{a C:Addr}{o:Obj}(Z:ExI K C)(hcl:∃c' d' cd' sl',K.lookup C=some ⟨c',d',.cls cd',sl'⟩)(hc:o.cls=.ref C):KitX K (.ref a) (.ref C) (fun h=>h.get? a=some o) where
 ty:=fun _ _ _ e=>hc▸(Looks.ld e).andThen .now
 it:=fun _ _ X _=>by
  obtain⟨c',d',cd',sl',ho⟩:=hcl;intro A' Q' E' s' k q;unfold isType loadHead;exact EF (wpAny_loadPart (k _ _ (X _ _ ho)) (EJ q))
 ne:=fun h tp dd its n sl X htp=>by
  obtain⟨c',d',cd',sl',ho⟩:=hcl;refine NZ.mpr fun q=>?_;have e:C=tp:=Fh.inj (beq_iff_eq.mp q);subst e;have z:=(X _ _ ho).symm.trans htp;cases z
 ca:=fun{_ _ _ _ _ s} X e k=>by
  obtain⟨h,g,d,t,os⟩:=s;exact BR X Z e hc k
end
section
open PySem.Spec PySem.W
theorem n5:IJ "ValueError"=some (.type "ValueError"):=by decide+kernel
noncomputable def FnX(P:Program)(w:World)(K:Frag)(mg:Str->Option Value)(base:Heap)(k:Nat)(x:Str)(ps:List Str)(sp:Sp):Prop:=
 ∃f fd,bU P w K mg base (CX1 P w) k f fd ps sp/\mg x=some (.ref f)/\keepIn K (.ref f)=true/\fg K fd ps []
theorem sv{X:Cx}{k:Nat}{x:Str}{ps:List Str}{sp:Sp}{E:XK}{p pos:Pos}{e:Expr}{es:List Expr}{t:TA}(F:FnX X.prog X.w X.K X.mg X.base k x ps sp)(hr:b7 k X.A)(hx:iR (CX1 X.prog X.w) X E)(ha:PA X (e::es) t)(hg:Gl X x:=by rfl)
  (hdb:(x==("__debug__":Str))=false:=by decide) (he:Fc (e::es) X.env=(false,eval e X.env)::Fc es X.env:=by rfl) (hpl:(backTo pos (Fc es X.env)).any (·.1)=false:=by rfl):
  PE X (.Call (.Name x p) (e::es) [] pos) (aJ sp [] E t):=by
 obtain⟨f,fd,ok,m,kp,b⟩:=F;exact uo ok hr hg m kp b .nil hx ha hdb he hpl
noncomputable def A4(K:Frag)(C:Addr):Prop:=∃c' d' cd' sl',K.lookup C=some ⟨c',d',.cls cd',sl'⟩
noncomputable def vS(K:Frag)(C a:Addr):List V->Hp->VK->Prop:=fun xs H Q=>ExI K C/\A4 K C/\((∃D b,xs=[.ref a,.ref D]/\kitOne K (.ref C) (.ref D)=some b/\Q (.bl b) H)\/
 (∃T b,xs=[.ref a,.ty T]/\kitOne K (.ref C) (.type T)=some b/\Q (.bl b) H)\/(∃(p:Addr)(Ds:List Addr)(b:Bool),xs=[.ref a,.ref p]/\H p=some (.tup (Ds.map V.ref))/\kitAny K (.ref C) (Ds.map Fh)=some b/\Q (.bl b) H))
theorem n6:∀{Ds:List Addr} {us:List Value},aA (Ds.map V.ref) us->us=Ds.map Fh
 | [],_,h=>by cases h;rfl
 |D::Ds,_,h=>by
  cases h with
  |cons r rs=>
   rw[n6 rs,show _=Fh D from r];rfl
theorem mR{X:Cx}{a C:Addr}{oe:Obj}(hp:(a,oe)∈X.pn)(hc:oe.cls=.ref C):cw X (.builtin "isinstance") (vS X.K C a):=by
 intro pins s σ H xs us Q I r h;obtain⟨Z,hcl,h⟩:=h;have e0:=(I.pin (a,oe) (F6 _ hp)).1;rcases h with⟨D,b,rfl,e,q⟩|⟨T,b,rfl,e,q⟩|⟨p,Ds,b,rfl,hH,e,q⟩
 ·obtain⟨u,v,rfl,ru,rv⟩:=r.two
  cases ru;cases rv;exact kia_one (mQ Z hcl hc) I.kIn e0 e (fun z=>nomatch z) fun tk=>⟨.bl b,H,I.tok tk,rfl,q⟩
 ·obtain⟨u,v,rfl,ru,rv⟩:=r.two
  cases ru;cases (show v=FE T from rv);exact kia_one (mQ Z hcl hc) I.kIn e0 e (fun z=>nomatch z) fun tk=>⟨.bl b,H,I.tok tk,rfl,q⟩
 ·obtain⟨u,v,rfl,ru,rv⟩:=r.two
  cases ru;cases rv;obtain⟨_,its,ri,o',ho',hcl',⟨n,hda⟩,hdn⟩:=I.hok p _ hH;obtain⟨oc,od,oda,osl⟩:=o';cases hcl';cases hda;cases hdn;have ei:=n6 ri;subst ei;exact kia_tup (mQ Z hcl hc) I.kIn e0 ho' e (fun z=>nomatch z) fun tk=>⟨.bl b,H,I.tok tk,rfl,q⟩
end
section
open PySem.Spec PySem.W
set_option genInjectivity false in
structure cM where
 CardError:Addr
 NoPack:Addr
 TooMany:Addr
 NoHand:Addr
 NoRow:Addr
 NoSaying:Addr
theorem pe{X:Cx}{st:List Stmt}:PSs X st iP:=fun _ _ _ _ _ _ h=>h.elim
theorem BS{C:Addr}{E:XK}{t:TA}{D:ij}{σ:St}{H:Hp}(h:t σ H fun vs H1=>vs.length<=E1/\∀a,H1 a=none->E (.ref C) (some a) H1):su C E t D σ H:=h
end
section
open PySem.Spec PySem.W
section
variable{P:Program}{w:World}{K:Frag}{mg:Str->Option Value}{base:Heap}{k:Nat}{f:Addr}{fd:Fk}{ps:List Str}
theorem bU.up{sp:Sp}(F:bU P w K mg base CX0 k f fd ps sp):bU P w K mg base (CX1 P w) k f fd ps sp:=
 ⟨F.len,fun A outer s H args us vs Q E hr he hb hv hs=>IM (F.run A outer s H args us vs Q E hr he hb hv hs) fun r s' h=>by
  cases r with
  |ok fl=>cases fl<;>exact h
  |error e=>exact(show False from h).elim⟩
theorem bU.or{CX:CXT}{sp sp':Sp}(F:bU P w K mg base CX k f fd ps sp)(G:bU P w K mg base CX k f fd ps sp'):bU P w K mg base CX k f fd ps (fun vs H Q E=>sp vs H Q E\/sp' vs H Q E):=
 ⟨fun vs H Q E h=>h.elim (F.len vs H Q E) (G.len vs H Q E),fun A outer s H args us vs Q E hr he hb hv hs=>hs.elim (F.run A outer s H args us vs Q E hr he hb hv) (G.run A outer s H args us vs Q E hr he hb hv)⟩
end
theorem Def.fnX{P:Program}{w:World}{K:Frag}{mg:Str->Option Value}{base:Heap}{x:Str}{st:Stmt}{N ps:List Str}{f:Addr}{fd:Fk}{k:Nat}{sp:Sp}(D:Def K mg x st ps f fd)(S:aK N ps (am st))(len:∀vs H Q E,sp vs H Q E->vs.length=ps.length)
  (hbody:∀(cdv:Value)(A:Around)(outer:List Env)(s:Shared)(H:Hp)(vs:List V)(Q:VK)(E:XK),b7 k (A.deeper (envOfC x (am st) s.heap.objs.size f cdv))->sp vs H Q E->
   ∃t,PSs (cq (CX1 P w) P w K mg base N x (am st) f cdv A outer s H E) (cz st) t/\t { nx:=fun _ H'=>Q .non H',rt:=Q } (start N vs) H):bU P w K mg base (CX1 P w) (k+1) f fd ps sp:=by
 obtain⟨oc,od,kV,doc,pm,an,cdv,ct,osl,rfl,lk,hcd⟩:=D.fn.ex;exact vg lk hcd S len fun A outer s H vs Q E hr hsp=>hbody cdv A outer s H vs Q E hr hsp
theorem zR{X:Cx}{a b:Str}{j1 j2:Nat}{p1 p2 p3 pos:Pos}{v:Expr}{i:Int}(hv:PE X v (tC (.int i)))(hi:i.natAbs.log2<1920)(hz:(a++(toString i:Str)++b).length<=E1)(hz1:a.length<=E1)(hz2:(a++(toString i:Str)).length<=E1):
  PE X (.JoinedStr [.Constant (.str a) j1 p1,.FormattedValue v (-1) none p2,.Constant (.str b) j2 p3] pos) (tC (.str (a++(toString i:Str)++b))):=by
 intro pins s σ H Q I h;have e0:Str.empty++a=a:=by
  obtain⟨c⟩:=a;exact congrArg Str.mk (Array.empty_append (xs:=c))
 refine PyProof.Rows.JoinedStr_many (IW (KU ⟨by rw[e0];exact hz1,?_⟩));rw[e0];refine IW (PyProof.Rows.FormattedValue_plain (thn (hv pins _ σ H (fun x H'=>x=.int i/\H'=H) (I.tok _) ⟨rfl,rfl⟩) fun u s1 ⟨x,H1,I1,r1,ex,eH⟩=>?_));subst ex eH;obtain⟨t,rfl⟩:=(show∃t,u=HE i t from r1);refine PyProof.Rows.formatField_int_small hi ?_;refine⟨hz2,IW (KU ⟨hz,PyProof.Rows.joinParts_nil ?_ hz⟩)⟩;exact⟨.str _,_,(I1.tok _),⟨_,rfl⟩,h⟩
end
section
open PySem.Spec PySem.W
structure A5(K:Frag)(G:cM):Prop where
 exm:exmOne K (.ref G.TooMany) (.ref G.CardError)=some true
 xi:ExI K G.TooMany
 ic:A4 K G.TooMany
 k2:kitOne K (.ref G.TooMany) (.ref G.TooMany)=some true
 k3:kitOne K (.ref G.TooMany) (.type "ValueError")=some true
 k4:kitAny K (.ref G.TooMany) [.ref G.NoHand,.ref G.NoPack,.ref G.NoRow,.ref G.NoSaying]=some false
structure iM(P:Program)(w:World)(K:Frag)(mg:Str->Option Value)(G:cM):Prop where
 ok:A5 K G
 m_CardError:mg "CardError"=some (.ref G.CardError)
 m_NoPack:mg "NoPack"=some (.ref G.NoPack)
 m_TooMany:mg "TooMany"=some (.ref G.TooMany)
 m_NoHand:mg "NoHand"=some (.ref G.NoHand)
 m_NoRow:mg "NoRow"=some (.ref G.NoRow)
 m_NoSaying:mg "NoSaying"=some (.ref G.NoSaying)
 ex_TooMany:vQ K G.TooMany
theorem zT{P:Program}{w:World}{K:Frag}{mg:Str->Option Value}{c1 c2 c3 c4 c5 c6:Addr}{v1:Value}{v2:Option Addr}{v3:ClassData}{v4:Array (Option Value)}
  (m1:mg "CardError"=some (.ref c1)) (m2:mg "NoPack"=some (.ref c2)) (m3:mg "TooMany"=some (.ref c3)) (m4:mg "NoHand"=some (.ref c4)) (m5:mg "NoRow"=some (.ref c5)) (m6:mg "NoSaying"=some (.ref c6))
  (q':excIn K c3 [.type "ValueError",.type "Exception",.type "BaseException",.type "object"] "ValueError.__new__"=true)
  (e':exmOne K (.ref c3) (.ref c1)=some true) (ga':findIn K (.ref c3) "__getattribute__"=some (some (.builtin "BaseException.__getattribute__"))) (gt':findIn K (.ref c3) "__getattr__"=some none) (cl':findIn K (.ref c3) "__class__"=some (some (.builtin "object.__class__")))
  (mo':mroIn K c3 (.type "object")=some true) (mb':mroIn K c3 (.type "BaseException")=some true) (lk':K.lookup c3=some ⟨v1,v2,.cls v3,v4⟩)
  (k2':kitOne K (.ref c3) (.ref c3)=some true) (k3':kitOne K (.ref c3) (.type "ValueError")=some true) (k4':kitAny K (.ref c3) [.ref c4,.ref c2,.ref c5,.ref c6]=some false):iM P w K mg ⟨c1,c2,c3,c4,c5,c6⟩:=
 ⟨⟨e',⟨ga',gt',cl',mo',mb'⟩,⟨_,_,_,_,lk'⟩,k2',k3',k4'⟩,m1,m2,m3,m4,m5,m6,zO q'⟩
end
section
open PySem.Spec PySem.W
noncomputable abbrev Cx.kept(X:Cx)(pn:List (Addr×Obj)):Cx:={ X with pn:=pn }
section
variable{X:Cx}{pins pn pins':List (Addr×Obj)}{σ:St}{H:Hp}{s:Shared}{a:Addr}
theorem Inv.keptP(ok:X.Ok)(I:Inv (X.suite a pn) pins' σ H s):Inv (X.kept pn) [] σ H s:=
 ⟨⟨ok.mod,ok.kind,ok.glob,ok.blt,ok.above,ok.inj,ok.has,ok.cab,ok.hd,ok.frames,ok.stk,ok.exf,ok.bs,ok.bsz,ok.noex,ok.exfs,ok.funs,ok.frf⟩,I.os,I.bare,I.base,I.loc,I.cell,I.free,I.freeC,fun p hp=>I.pin p (by
  rcases FC.mp hp with z|z
  ·exact F6 _ z
  ·cases z),I.hok,I.len⟩
theorem Inv.unkept(ok:X.Ok){q:Addr×Obj}(I:Inv (X.kept (X.pn++pins++[q])) pins' σ H s):Inv X pins σ H s:=
 ⟨ok,I.os,I.bare,I.base,I.loc,I.cell,I.free,I.freeC,fun p hp=>I.pin p (F6 _ (F6 _ hp)),I.hok,I.len⟩
end
noncomputable def A6(K:Frag)(D:Addr)(len i:Nat)(tb:XK->TS)(ts tr:Addr->Addr->TS):TS:=fun Z σ H=>∃E:XK,tb E { nx:=fun _ _=>False,bk:=fun _ _=>False,ct:=fun _ _=>False,rt:=fun _ _=>False } σ H/\∀C a H',E (.ref C) (some a) H'->H' a=none->exmOne K (.ref C) (.ref D)=some true/\
 ts C a { nx:=fun σ' H''=>tr C a Z (σ'.set i none) H'',bk:=fun _ _=>False,ct:=fun _ _=>False,rt:=fun _ _=>False } ((KG len none).set i (some (.ref a))) H'
theorem zU{X:Cx}{D:Addr}{i:Nat}{n y:Str}{np hpos pos:Pos}{b0:Stmt}{body suite aY:List Stmt}{tb:XK->TS}{ts tr:Addr->Addr->TS}(hst:X.stack=X.env::X.outer)(hfr:X.env.frame=some X.env.locals)(hex:X.ex=[])(hfn:∀x,X.fn x=true)
  (hg:Gl X y) (hm:X.mg y=some (.ref D)) (hN:X.N.Nodup) (hi:X.N[i]?=some n) (hloc:X.env.scope.names.lookup n=some .local)
  (hb:∀E pn xe,iR (CX1 X.prog X.w) (X.tried pn xe) E->PSs (X.tried pn xe) body (tb E))
  (hs:∀(a C:Addr)(oe:Obj)(pn:List (Addr×Obj)),oe.cls=.ref C->(a,oe)∈pn->PSs (X.suite a pn) (b0::suite) (ts C a))
  (hr:∀(a C:Addr)(oe:Obj)(pn:List (Addr×Obj)),oe.cls=.ref C->(a,oe)∈pn->PSs (X.kept pn) aY (tr C a)) (hdb:(y==("__debug__":Str))=false:=by decide):
  PSs X (.Try body [.ExceptHandler (some (.Name y np)) (some n) (b0::suite) hpos] [] [] pos::aY) (A6 X.K D X.N.length i tb ts tr):=by
 intro pins s σ H Z I h;obtain⟨E,h1,h2⟩:=h;have hp:iR (CX1 X.prog X.w) (X.tried (X.pn++pins) fun e s'=>∃(a C:Addr)(a0:Value)(σ':St)(H':Hp)(B:Heap),e=.ref a/\Inv X pins σ' H' s'/\mP X pins H' B/\Kt B X.stack a (.ref C) a0 s'.heap/\H' a=none/\E (.ref C) (some a) H') E:=fun pins' σ' H' s1 e s' I' x=>by
  obtain⟨a,C,a0,H2,B,rfl,I2,K2,fl,na,q⟩:=Inv.thrown (X:=X.tried (X.pn++pins) _) hex hfn I' x;exact⟨a,C,a0,σ',H2,B,rfl,I2.untried,K2.untried,fl,na,q⟩
 refine LD (wpAny_Try_except (F7 (hb E _ _ hp [] s σ H _ I.tried h1) (fun f s1 q=>?_) fun e s1 ⟨a,C,a0,σ',H',B,he,I',K',fl,na,q⟩=>?_))
 ·cases f with
  |next=>obtain⟨σ',H',I',q⟩:=q;exact q.elim
  |brk=>obtain⟨σ',H',I',q⟩:=q;exact q.elim
  |cont=>obtain⟨σ',H',I',q⟩:=q;exact q.elim
  |ret u=>obtain⟨v,σ',H',I',r,q⟩:=q;exact q.elim
 ·subst he
  obtain⟨hx,ht⟩:=h2 C a H' q na;refine vR hst hfr I'.blank K' fl hg hm hx hN hi hloc (fun s3 oe vs I3 e3 c3 d3 n3=>?_) hdb;have mem:(a,oe)∈X.pn++pins++[(a,oe)]:=FY _ (E5.mpr rfl);refine F7 (hs a C oe _ c3 mem [] s3 _ H' _ (I3.suite e3 d3 na n3) ht) (fun f s4 q=>?_) fun _ _ z=>z;cases f with
  |next=>
   obtain⟨σ4,H4,I4,q⟩:=q;refine ya (X:=X.kept (X.pn++pins++[(a,oe)])) (Inv.keptP I3.ok I4) hN hi hloc fun s5 I5=>?_;refine F7 (hr a C oe _ c3 mem [] s5 _ H4 Z I5 q) (fun f s6 q=>?_) fun _ _ z=>z;cases f with
   |next=>obtain⟨σ6,H6,I6,q⟩:=q;exact⟨σ6,H6,Inv.unkept I3.ok I6,q⟩
   |brk=>obtain⟨σ6,H6,I6,q⟩:=q;exact⟨σ6,H6,Inv.unkept I3.ok I6,q⟩
   |cont=>obtain⟨σ6,H6,I6,q⟩:=q;exact⟨σ6,H6,Inv.unkept I3.ok I6,q⟩
   |ret u=>obtain⟨v,σ6,H6,I6,r,q⟩:=q;exact⟨v,σ6,H6,Inv.unkept I3.ok I6,r,q⟩
  |brk=>obtain⟨σ4,H4,I4,q⟩:=q;exact q.elim
  |cont=>obtain⟨σ4,H4,I4,q⟩:=q;exact q.elim
  |ret u=>obtain⟨v,σ4,H4,I4,r,q⟩:=q;exact q.elim
end
noncomputable def sw(K:Fg)(ta:TA):TE:=fun σ H Q=>ta σ H fun vs H1=>∃(p:Addr)(ns:List Int),vs=[.ref p]/\SqT K H1 p (ns.map V.int)/\(ns=[]->Q (.int (-1)) H1)/\∀M,M∈ns->(∀a∈ns,a<=M)->Q (.int M) H1
theorem BT{K:Fg}{ta:TA}{σ:St}{H:Hp}{Q:VK}(h:ta σ H fun vs H1=>∃(p:Addr)(ns:List Int),vs=[.ref p]/\SqT K H1 p (ns.map V.int)/\(ns=[]->Q (.int (-1)) H1)/\∀M,M∈ns->(∀a∈ns,a<=M)->Q (.int M) H1):sw K ta σ H Q:=h
noncomputable def gw(K:Fg)(G:cM):Sp:=fun vs H _ E=>∃(c:Nat)(a:Addr)(ss:List Nat),vs=[.int c,.ref a]/\H a=some (.lst (ap ss))/\mK c ss/\2000<KM.cn c ss/\∀a H',ak H H'->H' a=none->E (.ref G.TooMany) (some a) H'
noncomputable def g9(K:Fg)(G:cM):Sp:=fun vs H Q E=>dM K vs H Q E\/gw K G vs H Q E
noncomputable def hU(K:Fg)(G:cM)(E:XK):TS:=(ax (ck (bA (tOp (rI0 fun i j=>.bl (decide (j<i))) (aJ (gW K) [] E0 (aa (ae 0) (aa (ae 1) ah))) (tC (.int 2000)))) (su G.TooMany E (aa (tC (.str ("the pack has more than "++(toString (2000:Int):Str)++" deals"))) ah)) bH)
 iP)
theorem qy{K:Fg}{G:cM}{vs:List V}{H:Hp}{Q:VK}{E:XK}(h:gw K G vs H Q E):vs.length=2:=by
 obtain⟨c,a,ss,rfl,_⟩:=h;rfl
theorem t6{K:Fg}{G:cM}{vs:List V}{H:Hp}{Q:VK}{E:XK}(h:gw K G vs H Q E):hU K G E { nx:=fun _ H'=>Q .non H',rt:=Q } (start ["cards","sizes","room","begun","card"] vs) H:=by
 obtain⟨c,a,ss,rfl,e,pk,hm,q⟩:=h;show hU K G E _ [some _,some _,none,none,none] _;unfold hU;right;refine⟨c,a,ss,rfl,e,pk,fun H1 s1=>?_⟩;right;refine cO (fun _=>?_) (fun c=>absurd (by omega) c);refine BS ?_;right;exact⟨by simp[EL],fun a n=>q a H1 s1 n⟩
noncomputable def jr(K:Fg)(G:cM):Sp:=fun vs H _ E=>∃(c:Nat)(a:Addr)(ss:List Nat)(x3 x4 x5 x6:V),vs=[.int c,.ref a,x3,x4,x5,x6]/\H a=some (.lst (ap ss))/\mK c ss/\2000<KM.cn c ss/\∀a H',ak H H'->H' a=none->E (.ref G.TooMany) (some a) H'
noncomputable def js(K:Fg)(G:cM):Sp:=fun _ _ _ _=>False
noncomputable def ku(K:Fg)(G:cM):Sp:=fun vs H Q E=>gO K vs H Q E\/(jr K G vs H Q E\/js K G vs H Q E)
noncomputable def ju(K:Fg)(G:cM)(E:XK):TS:=(ax (aF (aJ (g9 K G) [] E (aa (ae 0) (aa (ae 1) ah))) (aj 6))
 iP)
noncomputable def sE(K:Fg)(G:cM)(E:XK):TS:=iP
theorem vT{K:Fg}{G:cM}{vs:List V}{H:Hp}{Q:VK}{E:XK}(h:jr K G vs H Q E):vs.length=6:=by
 obtain⟨c,a,ss,x3,x4,x5,x6,rfl,_⟩:=h;rfl
theorem vU{K:Fg}{G:cM}{vs:List V}{H:Hp}{Q:VK}{E:XK}(h:js K G vs H Q E):vs.length=6:=h.elim
theorem yb{K:Fg}{G:cM}{vs:List V}{H:Hp}{Q:VK}{E:XK}(h:jr K G vs H Q E):ju K G E { nx:=fun _ H'=>Q .non H',rt:=Q } (start uF vs) H:=by
 obtain⟨c,a,ss,x3,x4,x5,x6,rfl,e,pk,hm,q⟩:=h;show ju K G E _ (some _::some _::_) _;unfold ju;right;exact .inr ⟨c,a,ss,rfl,e,pk,hm,q⟩
theorem zV{K:Fg}{G:cM}{vs:List V}{H:Hp}{Q:VK}{E:XK}(h:js K G vs H Q E):sE K G E { nx:=fun _ H'=>Q .non H',rt:=Q } (start uF vs) H:=h.elim
noncomputable def mxH:List Nat->Nat
 | []=>0
 |a::x=>max (a+1) (mxH x)
theorem yc{M:Nat}:∀{x:List Nat},(∀a∈x,a<=M)->mxH x<=M+1
 | [],_=>Fy _
 |a::x,h=>by
  have h1:=h a (EW ..);have h2:=yc (x:=x) fun b hb=>h b (E3 _ hb);rw[mxH];omega
theorem yd{M:Nat}:∀{x:List Nat},M∈x->M+1<=mxH x
 |a::x,h=>by
  rw[mxH];rcases EV.mp h with rfl|h
  ·omega
  ·have:=yd h
   omega
theorem sF(b:Nat):∀x:List Nat,mxH (x++[b])=max (mxH x) (b+1)
 | []=>by simp[mxH]
 |a::x=>by
  rw[LN,mxH,mxH,sF b x];omega
noncomputable def nxH(c:Nat)(x:List Nat):List (List Nat):=(EY (c-mxH x)).map fun i=>x++[mxH x+i]
noncomputable def lvH(c:Nat):Nat->List (List Nat)
 |0=>[[]]
 |k+1=>(lvH c k).flatMap (nxH c)
theorem ye{c:Nat}:∀{k:Nat} {x:List Nat},x∈lvH c k->mxH x<=c/\x.length=k
 |0,x,h=>by
  rw[E5.mp h];exact⟨Fy _,rfl⟩
 |k+1,x,h=>by
  obtain⟨y,hy,hx⟩:=Ow.mp h;obtain⟨i,hi,rfl⟩:=FB.mp hx;have hi:=Ff.mp hi;have:=ye hy;rw[sF,EX];exact⟨by omega,by rw[this.2];rfl⟩
structure RPk(c:Nat)(ss:List Nat)(m:Nat):Prop where
 hd:ss[0]?=some m
 m4:m<=4
 pk:mK c ss
 many:2000<KM.cn c ss
 few:∀k,k<m+1->(lvH c k).length<=1000
theorem Ev:RPk 8 [2,2,2,2] 2:=⟨rfl,by decide,⟨by decide,by decide,by decide,by decide⟩,by decide+kernel,by decide+kernel⟩
theorem Ew:RPk 9 [2,2,2] 2:=⟨rfl,by decide,⟨by decide,by decide,by decide,by decide⟩,by decide+kernel,by decide+kernel⟩
theorem Ex:RPk 10 [4,3,3] 4:=⟨rfl,by decide,⟨by decide,by decide,by decide,by decide⟩,by decide+kernel,by decide+kernel⟩
theorem Ey:RPk 12 [3,3,3,2,1] 3:=⟨rfl,by decide,⟨by decide,by decide,by decide,by decide⟩,by decide+kernel,by decide+kernel⟩
section
variable{g:CF TG}{tt:CF TT}{te:CF TE}{σ₀:St}{Q:VK}{H:Hp}{K:Fg}
theorem BU{lo hi:Int}(n:Nat)(hn:(hi-lo).toNat=n)(hl:lo<=1000)(hl0:-1000<=lo)(hj:hi<=1000)(hj0:-1000<=hi)(R:Nat->List V->Hp->Prop)(h0:∀H',ak H H'->R 0 [] H')
  (hs:∀p,H p=none->∀C s' H' fp,∀i acc H2,i<n->aW H p R i acc H2->g C s' H' fp (.int (lo+i)) σ₀ H2 fun σ2 H3=>tt C s' H' fp σ2 H3 fun b H4=>if b=true then te C s' H' fp σ2 H4 fun y H5=>H5 p=some (.lst acc)/\aW H p R (i+1) (acc++[y]) (upd H5 p (.lst (acc++[y])))else aW H p R (i+1) acc H4)
  (hd:∀p acc H2,H p=none->ak H H2->H2 p=some (.lst acc)->R n acc H2->Q (.ref p) H2):
  ∃i j:Int,[V.int lo,V.int hi]=[.int i,.int j]/\(-(2^62)<=i/\i<2^62/\-(2^62)<=j/\j<2^62)/\∀p,H p=none->∃W:Nat->Nat->List V->Hp->Prop,(∃m,W 0 m [] (upd H p (.lst [])))/\∀C s' H' fp,bO (Itr i (j-i).toNat) (g C s' H' fp) (tt C s' H' fp) (te C s' H' fp) σ₀ p Q W:=by
 refine⟨lo,hi,rfl,by omega,fun p hp=>?_⟩;subst hn;exact j9 (lo:=lo) (aW H p R) ⟨aH hp _,ay,EM _,h0 _ (aH hp _)⟩ (fun i acc H2 _ c=>⟨c.2.1,c.2.2.1⟩) (by rw[EL];omega) (fun C s' H' fp i acc H2 hi c=>hs p hp C s' H' fp i acc H2 hi c) fun acc H2 c=>hd p acc H2 hp c.1 c.2.1 c.2.2.2
end
noncomputable def eK(K:Fg)(G:cM):TS:=(ax (aF (tOp (aU K) (bg (aa (bq (aa (tC (.int 8)) (aa (bg (aa (tC (.int 2)) (aa (tC (.int 2)) (aa (tC (.int 2)) (aa (tC (.int 2)) ah))))) ah))) (aa (bq (aa (tC (.int 9)) (aa (bg (aa (tC (.int 2)) (aa (tC (.int 2)) (aa (tC (.int 2)) ah)))) ah))) (aa (bq (aa (tC (.int 10)) (aa (bg (aa (tC (.int 4)) (aa (tC (.int 3)) (aa (tC (.int 3)) ah)))) ah))) (aa (bq (aa (tC (.int 12)) (aa (bg (aa (tC (.int 3)) (aa (tC (.int 3)) (aa (tC (.int 3)) (aa (tC (.int 2)) (aa (tC (.int 1)) ah)))))) ah))) ah))))) (tOp (rI (fun _ j=>0<j) fun i j=>.int (i%j)) (ae 0) (tC (.int 4)))) (dP K 2 (be (aj 1) (be (aj 2) dO))))
 (ax (aF (bg (aa (bq ah) ah)) (aj 3))
 (ax (cp (cv (aa (tOp (aU K) (ae 2) (tC (.int 0))) ah)) (aj 4) (ax (aF (bg ah) (aj 5))
 (ax (cp (cJ K (ae 3)) (aj 6) (gT (tBM K "list" jM (ae 5) (aa (bL (u8 (aa (tOp (rI0 fun i j=>.int (i+j)) (sw K (aa (ae 6) ah)) (tC (.int 1))) (aa (ae 1) ah))) (fun _ _ _ _=>(aj 0)) (fun _ _ _ _=>bB) (fun _ _ _ _=>(tOp (lE K) (ae 1) (bq (aa (ae 0) ah)))) [none,some 6]) ah))))
 (aF (ae 5) (aj 3)))))
 (ax (aF (tC .non) (aj 7))
 (A6 K G.CardError 9 8 (fun E=>(gT (aJ (ku K G) [] E (aa (ae 1) (aa (ae 2) (aa (bg (aa (ae 3) ah)) (aa (tC (.int 0)) (aa (tC (.int 1)) (aa (tC (.int 2)) ah))))))))) (fun C a=>(aF (ae 8) (aj 7))) (fun C a=>(ax (ck (tOr (gF (tB (tCB (vS K C a) (aa (ae 7) (aa (tC (.ref G.TooMany)) ah))))) (gF (tB (tCB (vS K C a) (aa (ae 7) (aa (tC (.ty "ValueError")) ah)))))) (bj (tC (.bl false))) bH)
 (bj (qI (tCB (vS K C a) (aa (ae 7) (aa (bq (aa (tC (.ref G.NoHand)) (aa (tC (.ref G.NoPack)) (aa (tC (.ref G.NoRow)) (aa (tC (.ref G.NoSaying)) ah))))) ah))))))))))))
noncomputable abbrev ph:List Str:=["_law_cell_here","_law_cards","_law_sizes","_law_holdings","_law_k","_law_longer","_law_held_here","_law_caught","error"]
theorem n8{K:Fg}{G:cM}(ok:A5 K G){vs:List V}{H:Hp}{Q:VK}{E:XK}(h:gu K vs H Q E):eK K G { nx:=fun _ H'=>Q .non H',rt:=Q } (start ph vs) H:=by
 obtain⟨z,rfl,q⟩:=h;show eK K G _ [some _,none,none,none,none,none,none,none,none] _;unfold eK;refine fO fun NX hNX=>?_;have next:∀(c:Nat)(ss:List Nat)(m:Nat)(za:Addr)(H1:Hp),ak H H1->H1 za=some (.lst (ap ss))->RPk c ss m->NX [some (.int z),some (.int (c:Int)),some (.ref za),none,none,none,none,none,none] H1:=by
  intro c ss m za H1 s1 ez rp;refine hNX _ _ ?_;clear hNX;have hm4:=rp.m4;have hc12:=rp.pk.c12;refine bx ?_;nofun;refine⟨by simp[EL],fun t H2 ht s2 e2=>?_⟩;nofun;refine⟨by simp[EL],fun l H3 hl s3 e3=>?_⟩;nofun;have s13:=s2.trans s3;refine bx ?_;nofun;refine aL (SqL.of (s13 _ _ ez)) (iY (j:=0) rp.hd) ?_;nofun;refine d5 m (by omega) (by omega) (by omega) (fun i σ H5=>∃(u4 u5 u6:Option V)(b:Addr),σ=[some (.int z),some (.int (c:Int)),some (.ref za),some (.ref b),u4,u5,u6,none,none]/\ak H1 H5/\H1 b=none/\bf H5 b (lvH c i)) ⟨_,_,_,l,rfl,s13,s2.free hl,[t],e3,.cons (s3 _ _ e2) .nil⟩ ?_ ?_
  ·rintro i σ H5 hi ⟨u4,u5,u6,b,rfl,s5,hb,rs,eb,pb⟩
   have hi1:=rp.few (i+1) (by omega);have hwl:∀w∈lvH c i,mxH w<=c/\w.length=i:=fun w hw=>ye hw;have hrsl:=bN pb;rw[lvH]at hi1;have lvS:lvH c (i+1)=(lvH c i).flatMap (nxH c):=rfl;generalize lvH c i=W at *;right;refine⟨by simp[EL],fun lg H6 hlg s6 e6=>?_⟩;right;refine oU (rs.map V.ref) (SqL.of (s6 _ _ eb)) (fun j σ H7=>∃(u6:Option V),σ=[some (.int z),some (.int (c:Int)),some (.ref za),some (.ref b),some (.int (i:Int)),some (.ref lg),u6,none,none]/\ak H5 H7/\bf H7 lg ((W.take j).flatMap (nxH c))) ⟨_,rfl,s6,[],e6,.nil⟩ (fun j σ H7 _ ⟨_,_,s7,_⟩=>SqL.of (s7 _ _ eb)) ?_ ?_
   ·rintro j x σ H7 hx ⟨u6,rfl,s7,ts,et,pt⟩
    obtain⟨a,ha,rfl⟩:=bZ hx;obtain⟨u,hu,ea⟩:=bT pb ha;obtain⟨hum,hul⟩:=hwl u (E2 hu);have gt:(W.take (j+1)).flatMap (nxH c)=(W.take j).flatMap (nxH c)++nxH c u:=by
     rw[cT hu,Jo,NV,List.flatMap_nil,Gw]
    have gle:((W.take (j+1)).flatMap (nxH c)).length<=(W.flatMap (nxH c)).length:=by
     conv=>rhs;rw[<-FZ (j+1) W,Jo,EX]
     omega
    have htl:=bN pt;right;refine⟨nC et,?_⟩;right;have body:∀{Q':VK} {lo:Int},lo=(mxH u:Int)->(∀(p:Addr)(as:List Addr)(H8:Hp),H7 p=none->ak H7 H8->H8 p=some (.lst (as.map V.ref))->Paired (fun(a:Addr)(w:List Nat)=>H8 a=some (.tup (ap w))) as (nxH c u)->Q' (.ref p) H8)->∃i j:Int,[V.int lo,V.int (c:Int)]=[.int i,.int j]/\(-(2^62)<=i/\i<2^62/\-(2^62)<=j/\j<2^62)/\∀p,H7 p=none->∃W:Nat->Nat->List V->Hp->Prop,(∃m,W 0 m [] (upd H7 p (.lst [])))/\∀C s' H' fp,bO (Itr i (j-i).toNat) ((fun _ _ _ _=>aj 0:CF TG) C s' H' fp) ((fun _ _ _ _=>bB:CF TT) C s' H' fp) ((fun _ _ _ _=>tOp (lE K) (ae 1) (bq (aa (ae 0) ah)):CF TE) C s' H' fp) [none,some (.ref a)] p Q' W:=by
     rintro Q' lo rfl k;refine BU (c-mxH u) (by omega) (by omega) (by omega) (by omega) (by omega) (fun n acc H8=>∃as:List Addr,acc=as.map V.ref/\Paired (fun(a:Addr)(w:List Nat)=>H8 a=some (.tup (ap w))) as ((EY n).map fun i=>u++[mxH u+i])) (fun _ _=>⟨[],rfl,.nil⟩) ?_ ?_
     ·rintro w hw C s' H' fp n acc H8 hn ⟨s8,e8,l8,as,rfl,pa⟩
      have ea8:=s8 _ _ (s7 _ _ ea);right;refine⟨by simp[EL],fun q1 H9 hq1 s9 e9=>?_⟩;refine xu (s9 _ _ ea8) e9 (by rw[bi,EL];show u.length+1<=_;omega) fun q2 H10 s10 e10=>?_;have s810:=s9.trans s10;refine aW.put hw (fun _ _ _ _ r kp=>let⟨as,z1,z2⟩:=r;⟨as,z1,Paired.mapP z2 fun _ _ x=>kp _ _ x⟩) (s8.trans s810) (s810 _ _ e8) l8 ⟨as++[q2],by rw[ET];rfl,?_⟩;rw[GI,ET];exact eG (Paired.mapP pa fun _ _ x=>s810 _ _ x) (by rw[e10];show _=some (HO.tup (ap (u++[mxH u+n])));unfold ap;rw[ET];rfl)
     ·rintro w acc H8 hw s8 e8 ⟨as,rfl,pa⟩
      exact k w as H8 hw s8 e8 pa
    refine BT ?_;right;have fin:∀(p:Addr)(as:List Addr)(H8:Hp),H7 p=none->ak H7 H8->H8 p=some (.lst (as.map V.ref))->Paired (fun(a:Addr)(w:List Nat)=>H8 a=some (.tup (ap w))) as (nxH c u)->jM (.ref lg) [.ref p] H8 fun v H9=>∃u6',[some (V.int z),some (.int (c:Int)),some (.ref za),some (.ref b),some (.int (i:Int)),some (.ref lg),some (.ref a),none,none]=[some (.int z),some (.int (c:Int)),some (.ref za),some (.ref b),some (.int (i:Int)),some (.ref lg),u6',none,none]/\ak H5 H9/\bf H9 lg ((W.take (j+1)).flatMap (nxH c)):=by
     intro p as H8 hp s8 e8 pa;have hal:=bN pa;rw[gt,EX]at gle;refine rG (s8 _ _ et) e8 (by rw[EI,EI,EL];omega) fun H9 o9 e9=>?_;have k9:=o9.keep (s8 _ _ et);refine⟨_,rfl,(s7.trans s8).off hlg o9,ts++as,by rw[e9,ET],?_⟩;rw[gt];exact nX (Paired.mapP pt fun _ _ x=>k9 _ _ (s8 _ _ x)) (Paired.mapP pa fun _ _ x=>k9 _ _ x)
    refine⟨a,u.map fun(s:Nat)=>((s:Nat):Int),rfl,SqT.of (by rw[<-fP];exact s7 _ _ ea),fun h0=>?_,fun M hM hle=>?_⟩
    ·have:u=[]:=List.map_eq_nil_iff.mp h0
     subst this;right;refine body rfl fun p as H8 hp s8 e8 pa=>?_;right;exact fin p as H8 hp s8 e8 pa
    ·obtain⟨M',hM',rfl⟩:=FB.mp hM
     have h1:=yd hM';have h2:=yc (x:=u) (M:=M') fun a ha=>by have:=hle _ (FB.mpr ⟨a,ha,rfl⟩);omega
     right;refine body (by omega) fun p as H8 hp s8 e8 pa=>?_;right;exact fin p as H8 hp s8 e8 pa
   ·rintro σ H7 ⟨u6,rfl,s7,D7⟩
    rw[EI,hrsl,FT]at D7;right;exact⟨_,_,_,lg,rfl,s5.trans s7,s5.free hlg,by rw[lvS];exact D7⟩
  ·rintro σ H5 ⟨u4,u5,u6,b,rfl,s5,hb,D5⟩
   refine bx ?_;nofun;refine⟨fun v oa H'=>ak H H'/\v=.ref G.TooMany,?_,?_⟩
   ·nofun
    refine⟨by simp[EL],fun lw H6 hlw s6 e6=>?_⟩;nofun;exact .inr (.inl ⟨c,za,ss,_,_,_,_,rfl,s6 _ _ (s5 _ _ ez),rp.pk,rp.many,fun a H' s' _=>⟨((s1.trans s5).trans s6).trans s',rfl⟩⟩)
   ·rintro C a H2 ⟨s2,eC⟩ hn
    cases eC;refine⟨ok.exm,?_⟩;show(aF _ _) _ [none,none,none,none,none,none,none,none,some (.ref a)] H2;nofun;show(ax _ _) _ [none,none,none,none,none,none,none,some (.ref a),none] H2;right;refine⟨ok.xi,ok.ic,.inl ⟨_,true,rfl,ok.k2,?_⟩⟩;right;refine⟨ok.xi,ok.ic,.inr (.inl ⟨_,true,rfl,ok.k3,?_⟩)⟩;right;refine⟨by simp[EL],fun p3 H3 hp3 s3 e3=>?_⟩;refine⟨ok.xi,ok.ic,.inr (.inr ⟨p3,[G.NoHand,G.NoPack,G.NoRow,G.NoSaying],false,rfl,e3,ok.k4,?_⟩)⟩;right;exact q H3 (s2.trans s3)
 nofun;refine⟨by simp[EL],fun l1 H1 _ s1 e1=>?_⟩;nofun;refine⟨by simp[EL],fun t1 H2 _ s2 e2=>?_⟩;nofun;refine⟨by simp[EL],fun l2 H3 _ s3 e3=>?_⟩;nofun;refine⟨by simp[EL],fun t2 H4 _ s4 e4=>?_⟩;nofun;refine⟨by simp[EL],fun l3 H5 _ s5 e5=>?_⟩;nofun;refine⟨by simp[EL],fun t3 H6 _ s6 e6=>?_⟩;nofun;refine⟨by simp[EL],fun l4 H7 _ s7 e7=>?_⟩;nofun;refine⟨by simp[EL],fun t4 H8 _ s8 e8=>?_⟩;nofun;refine⟨by simp[EL],fun la H9 _ s9 e9=>?_⟩;nofun;have s89:=s8.trans s9;have s79:=s7.trans s89;have s69:=s6.trans s79;have s59:=s5.trans s69;have s49:=s4.trans s59;have s39:=s3.trans s49;have s29:=s2.trans s39;have S:=s1.trans s29;have pick:∃(t za:Addr)(c:Nat)(ss:List Nat)(m:Nat),atI [V.ref t1,V.ref t2,V.ref t3,V.ref t4] (z%4)=some (.ref t)/\H9 t=some (.tup [.int (c:Int),.ref za])/\H9 za=some (.lst (ap ss))/\RPk c ss m:=by
  have:z%4=0\/z%4=1\/z%4=2\/z%4=3:=by omega
  rcases this with h|h|h|h<;>rw[h]
  ·exact⟨t1,l1,8,[2,2,2,2],2,rfl,s39 _ _ e2,s29 _ _ e1,Ev⟩
  ·exact⟨t2,l2,9,[2,2,2],2,rfl,s59 _ _ e4,s49 _ _ e3,Ew⟩
  ·exact⟨t3,l3,10,[4,3,3],4,rfl,s79 _ _ e6,s69 _ _ e5,Ex⟩
  ·exact⟨t4,l4,12,[3,3,3,2,1],3,rfl,s9 _ _ e8,s89 _ _ e7,Ey⟩
 obtain⟨t,za,c,ss,m,hat,et,ez,rp⟩:=pick;refine aL (SqL.of e9) hat ?_;refine dE (SqT.of et) ?_;exact next c ss m za H9 S ez rp
section
open PySem.Spec
theorem DA.stay{a:Addr}{kvs:List (IA×V)}{h1 h2:Heap}(d:DA a kvs h1)(k:∀o,h1.get? a=some o->h2.get? a=some o):DA a kvs h2:=by
 obtain⟨z,y,P,w,vs,r,o,es,ep,e,c⟩:=d;exact⟨z,y,P,w,vs,r,o,es,ep,k _ e,c⟩
theorem DB.stay{a:Addr}{zs:List (List IK×Addr×V)}{h1 h2:Heap}(d:DB a zs h1)(k:∀o,h1.get? a=some o->h2.get? a=some o):DB a zs h2:=by
 obtain⟨z,y,xs,r,o,es,ep,e,c⟩:=d;exact⟨z,y,xs,r,o,es,ep,k _ e,c⟩
theorem DA.ok{P:Program}{w:World}{H:Hp}{h:Heap}{a:Addr}{kvs:List (IA×V)}(d:DA a kvs h):br P w H h a (dA a kvs):=by
 obtain⟨_,_,_,_,_,_,o,_,_,e,_⟩:=id d;exact⟨d,⟨o,e⟩,fun _ _ d k=>d.stay k⟩
theorem DB.ok{P:Program}{w:World}{H:Hp}{h:Heap}{a:Addr}{zs:List (List IK×Addr×V)}(d:DB a zs h):br P w H h a (dB a zs):=by
 obtain⟨_,_,_,_,o,_,_,e,_⟩:=id d;exact⟨d,⟨o,e⟩,fun _ _ d k=>d.stay k⟩
theorem ZX.length{zs:List (List IK×Addr×V)}{xs:List (List IK×Addr×Value)}(r:ZX zs xs):zs.length=xs.length:=Im r
theorem ZX.val{zs:List (List IK×Addr×V)}{xs:List (List IK×Addr×Value)}(r:ZX zs xs)(k:List IK):gE (atZ zs k) ((atKey xs k).map (·.2)):=by
 unfold ZX at r
 induction r with
 |nil=>exact HU
 | @cons p q ps qs h t ih=>
  obtain⟨h1,_,h2⟩:=h;by_cases e:p.1=k
  ·have e':q.1=k:=h1.symm.trans e
   have b:atKey (q::qs) k=some q.2:=by simp[atKey,FO,e']
   have c:atZ (p::ps) k=some p.2.2:=by simp[atZ,FO,e]
   rw[c,b];exact h2
  ·have e':¬q.1=k:=fun z=>e (h1.trans z)
   have b:atKey (q::qs) k=atKey qs k:=by simp[atKey,FO,e']
   have c:atZ (p::ps) k=atZ ps k:=by simp[atZ,FO,e]
   rw[c,b];exact ih
noncomputable def iq(zs:List (List IK×Addr×V))(k:List IK)(b:Addr)(v:V):List (List IK×Addr×V):=
 if(atZ zs k).isSome then zs.map (fun x=>if x.1=k then(x.1,x.2.1,v)else x)else zs++[(k,b,v)]
theorem ZX.repl{zs:List (List IK×Addr×V)}{xs:List (List IK×Addr×Value)}(r:ZX zs xs)(k:List IK){v:V}{u:Value}(rv:aB v u):ZX (zs.map fun x=>if x.1=k then(x.1,x.2.1,v)else x) (xs.map (putAt k u)):=by
 unfold ZX at r ⊢
 induction r with
 |nil=>exact .nil
 | @cons p q ps qs h t ih=>
  rw[E6,E6];refine .cons ?_ ih;obtain⟨h1,h2,h3⟩:=h;unfold putAt;by_cases e:p.1=k
  ·rw[if_pos e,if_pos (h1.symm.trans e)];exact⟨h1,h2,rv⟩
  ·rw[if_neg e,if_neg (fun z=>e (h1.trans z))];exact⟨h1,h2,h3⟩
theorem ZX.put{zs:List (List IK×Addr×V)}{xs:List (List IK×Addr×Value)}(r:ZX zs xs)(k:List IK){b:Addr}{v:V}{u:Value}(rv:aB v u):ZX (iq zs k b v) (storedH xs k b u):=by
 have e:(atZ zs k).isSome=(atKey xs k).isSome:=by
  rw[(r.val k).isSome_eq,N0]
 unfold iq storedH;rw[e];by_cases q:(atKey xs k).isSome=true
 ·rw[if_pos q,if_pos q];exact r.repl k rv
 ·rw[if_neg q,if_neg q];exact Paired.snoc r ⟨rfl,rfl,rv⟩
theorem BV(zs:List (List IK×Addr×V))(k j:List IK)(b:Addr)(v:V):atZ (iq zs k b v) j=if j=k then some v else atZ zs j:=by
 have hm:∀ys:List (List IK×Addr×V),atZ (ys.map fun x=>if x.1=k then(x.1,x.2.1,v)else x) j=(atZ ys j).map fun y=>if j=k then v else y:=by
  intro ys
  induction ys with
  |nil=>rfl
  |cons p r ih=>
   rw[E6];unfold atZ at ih ⊢;by_cases h:p.1=k
   ·rw[if_pos h]
    by_cases e:p.1=j
    ·simp[FO,e,e.symm.trans h]
    ·simp[FO,e];simpa using ih
   ·rw[if_neg h]
    by_cases e:p.1=j
    ·have:¬j=k:=fun z=>h (e.trans z)
     simp[FO,e,this]
    ·simp[FO,e];simpa using ih
 have ha:∀ys:List (List IK×Addr×V),atZ ys k=none->atZ (ys++[(k,b,v)]) j=if j=k then some v else atZ ys j:=by
  intro ys
  induction ys with
  |nil=>
   intro _;by_cases e:k=j
   ·simp[atZ,FO,e]
   ·have:¬j=k:=fun z=>e z.symm
    simp[atZ,FO,e,this]
  |cons p r ih=>
   intro hn;have hk:¬p.1=k:=fun z=>by simp[atZ,FO,z]at hn
   have hn':atZ r k=none:=by simpa[atZ,FO,hk]using hn
   have ih':=ih hn';by_cases e:p.1=j
   ·have:¬j=k:=fun z=>hk (e.trans z)
    simp[atZ,FO,e,this]
   ·have c:atZ (p::(r++[(k,b,v)])) j=atZ (r++[(k,b,v)]) j:=by simp[atZ,FO,e]
    have c':atZ (p::r) j=atZ r j:=by simp[atZ,FO,e]
    rw[LN,c,c',ih']
 unfold iq;cases q:atZ zs k with
 |some y=>
  rw[if_pos (show(some y).isSome=true from rfl),hm];by_cases e:j=k
  ·subst e;rw[q,if_pos rfl];simp
  ·rw[if_neg e];cases atZ zs j<;>simp[e]
 |none=>rw[if_neg (show¬(none:Option V).isSome=true by decide)];exact ha zs q
theorem jH(zs:List (List IK×Addr×V))(k:List IK)(b:Addr)(v:V):(iq zs k b v).length<=zs.length+1:=by
 unfold iq
 split
 ·rw[EI];omega
 ·rw[EX,Fu,Jr];omega
theorem zW{zs:List (List IK×Addr×V)}{k:List IK}{b:Addr}{v:V}{z:List IK×Addr×V}(h:z∈iq zs k b v):(∃z0∈zs,z.1=z0.1/\z.2.1=z0.2.1)\/(z.1=k/\z.2.1=b):=by
 unfold iq at h
 split at h
 ·obtain⟨z0,h0,rfl⟩:=FB.mp h
  refine .inl ⟨z0,h0,?_⟩
  split<;>exact⟨rfl,rfl⟩
 ·rcases FC.mp h with h|h
  ·exact .inl ⟨z,h,rfl,rfl⟩
  ·rw[E5.mp h];exact .inr ⟨rfl,rfl⟩
section
variable{X:Cx}{pins:List (Addr×Obj)}{σ:St}{H:Hp}{s:Shared}{a:Addr}{y v:V}{u r:Value}{A:Around}{E:Value->Shared->Prop}{srt:Bool}{f:MK->Option V}{n:Nat}{k:MK}
theorem kz{k:IA}(h:iaV y=some k)(ry:aB y u):ke k u=true:=by
 cases y with
 |non=>cases h;cases ry;rfl
 |bl b=>cases h;cases ry;simp[ke]
 |int i=>cases h;obtain⟨t,rfl⟩:=ry;simp[ke]
 |_=>cases h
theorem uJ{P:Program}{w:World}:∀{ks:List IA} {ys:List V} {us:List Value},ys.map iaV=ks.map some->aA ys us->ItemsAre (bS P w) ks us
 | [],[],_,_,.nil=>.nil
 |k::ks,y::ys,_,e,.cons h t=>by
  rw[E6,E6]at e;injection e with e1 e2
  exact .cons (kz e1 h) (uJ e2 t)
 | [],_::_,_,e,_=>by simp at e
 |_::_,[],_,e,_=>by simp at e
theorem yf(ok:HOk X.prog X.w H s.heap){c:Addr}{xs:List V}(e:H c=some (.tup xs)):∃its,aA xs its/\∃o n,s.heap.get? c=some o/\o.cls=.type "tuple"/\o.data=.seq its.toArray n:=by
 obtain⟨_,its,r,o,h1,h2,⟨n,h3⟩,_⟩:=(show br X.prog X.w H s.heap c (.tup xs)from ok c _ e);exact⟨its,r,o,n,h1,h2,h3⟩
theorem BW(ok:HOk X.prog X.w H s.heap){k:IK}(h:iB H y k)(ry:aB y u):b8 X.prog X.w s.heap k u:=by
 cases k with
 |inl a=>exact kz h ry
 |inr as=>
  obtain⟨c,ys,rfl,e,q⟩:=h;cases ry;obtain⟨its,rv,o,n,h1,h2,h3⟩:=yf ok e;exact⟨c,rfl,o,its.toArray,n,h1,h2,h3,by simpa using uJ q rv⟩
theorem zX(ok:HOk X.prog X.w H s.heap){xs:List V}{ks:List IK}{us:List Value}(p:Paired (iB H) xs ks):aA xs us->Paired (b8 X.prog X.w s.heap) ks us:=by
 induction p generalizing us with
 |nil=>intro q;cases q;exact .nil
 |cons h t ih=>intro q;cases q with
  |cons r q=>exact .cons (BW ok h r) (ih q)
theorem n9(ok:HOk X.prog X.w H s.heap){c:Addr}{ks:List IK}(h:bw H (.ref c) (.inr ks)):eP X.prog X.w s.heap ks c:=by
 obtain⟨c',xs,e,ec,q⟩:=h;cases e;obtain⟨its,rv,o,n,h1,h2,h3⟩:=yf ok ec;exact⟨o,its.toArray,n,h1,h2,h3,by simpa using zX ok q rv⟩
theorem lL(h:bw H y k)(hs:cZ k=true):∃c ks,y=.ref c/\k=.inr ks:=by
 cases k with
 |inl _=>cases hs
 |inr ks=>obtain⟨c,xs,e,_⟩:=h;exact⟨c,ks,e,rfl⟩
theorem yg{P P':Program}{w w':World}{es:List Nx}{vs:List (IA×Value)}(h:Pairs (bS P w) es vs):Pairs (bS P' w') es vs:=by
 induction h with
 |nil=>exact .nil
 |cons a b _ ih=>exact .cons a b ih
theorem lM{kvs:List (IA×V)}(ok:HOk X.prog X.w H s.heap)(e:H a=some (dA a kvs)):kvs.length<=E1/\(a==G8)=false/\∃vs,KV kvs vs/\s.heap.DictOf (bS X.prog X.w) a vs:=by
 obtain⟨⟨z,y,P,w,vs,r,o,es,ep,h1,h2,h3,h4,h5,h6⟩,_⟩:=(show br X.prog X.w H s.heap a (dA a kvs)from ok a _ e);exact⟨z,y,vs,r,o,es,ep,h1,h2,h3,h4,yg h5,h6⟩
theorem og{zs:List (List IK×Addr×V)}(ok:HOk X.prog X.w H s.heap)(e:H a=some (dB a zs))(hk:∀z∈zs,bw H (.ref z.2.1) (.inr z.1)):zs.length<=E1/\(a==G8)=false/\∃xs,ZX zs xs/\s.heap.DictOfH (iU X.prog X.w) a xs:=by
 obtain⟨⟨z,y,xs,r,o,es,ep,h1,h2,h3,h4,h5⟩,_⟩:=(show br X.prog X.w H s.heap a (dB a zs)from ok a _ e);refine⟨z,y,xs,r,o,es,ep,h1,h2,h3,h4,?_,h5⟩;have all:∀{l:List (List IK×Addr×V)} {m:List (List IK×Addr×Value)},ZX l m->(∀z∈l,bw H (.ref z.2.1) (.inr z.1))->∀x∈m,(iU X.prog X.w).is s.heap x.1 x.2.1:=by
  intro l m q;unfold ZX at q
  induction q with
  |nil=>intro _ x hx;exact nomatch hx
  | @cons p q ps qs hq t ih=>
   intro hk x hx;rcases EV.mp hx with e|hx
   ·subst e
    have:=hk p (EW ..);rw[hq.1,hq.2.1]at this;exact n9 ok this
   ·exact ih (fun z hz=>hk z (E3 _ hz)) x hx
 exact all r hk
theorem BX{Q:Value->Shared->Prop}(hu:A.units+2<cLine)(I:Inv X pins σ H s)(d:Dx H a srt f n)(hk:bw H y k)(hs:cZ k=srt)(ry:aB y u)(h:∀s',Inv X pins σ H s'->Q (.bool (f k).isNone) s'):
  wpAny (model X.prog X.w) A (GE .NotIn u (.ref a)) Q E s:=by
 rcases d with⟨rfl,kvs,e,hf,_⟩|⟨rfl,zs,e,hz,hf,_⟩
 ·cases k with
  |inr _=>cases hs
  |inl k=>
   obtain⟨z,hd,vs,rel,dd⟩:=lM I.hok e;refine wpAny_notIn_of (knd:=bS X.prog X.w) (kz hk ry) hd dd.mapOf ?_;rw[<-(rel.val k).isSome_eq,hf k];rw[show(!(f (.inl k)).isSome)=(f (.inl k)).isNone by cases f (.inl k)<;>rfl];exact h _ (I.tok _)
 ·obtain⟨c,ks,rfl,rfl⟩:=lL hk hs
  cases ry;obtain⟨z,hd,xs,rel,dd⟩:=og I.hok e hz;refine wpAny_notIn_heap (knd:=iU X.prog X.w) hu (n9 I.hok hk) hd dd ?_;have q:=(rel.val ks).isSome_eq;rw[N0,hf ks]at q;rw[<-q,show(!(f (.inr ks)).isSome)=(f (.inr ks)).isNone by cases f (.inr ks)<;>rfl];exact h _ (I.tok _)
theorem DY{Q:Value->Shared->Prop}(hu:A.units+2<cLine)(I:Inv X pins σ H s)(d:Dx H a srt f n)(hk:bw H y k)(hs:cZ k=srt)(ry:aB y u)(ev:f k=some v)(h:∀w' s',Inv X pins σ H s'->aB v w'->Q w' s'):
  wpAny (model X.prog X.w) A (getItem (.ref a) u) Q E s:=by
 rcases d with⟨rfl,kvs,e,hf,_⟩|⟨rfl,zs,e,hz,hf,_⟩
 ·cases k with
  |inr _=>cases hs
  |inl k=>
   obtain⟨z,hd,vs,rel,dd⟩:=lM I.hok e;obtain⟨w',hw,rw'⟩:=gE.some_of (v:=v) (o:=valueAt vs k) (by rw[<-ev,<-hf k];exact rel.val k);exact wpAny_getItem_of (knd:=bS X.prog X.w) (kz hk ry) dd.mapOf hw (h w' _ (I.tok _) rw')
 ·obtain⟨c,ks,rfl,rfl⟩:=lL hk hs
  cases ry;obtain⟨z,hd,xs,rel,dd⟩:=og I.hok e hz;obtain⟨w',hw,rw'⟩:=gE.some_of (v:=v) (o:=(atKey xs ks).map (·.2)) (by rw[<-ev,<-hf ks];exact rel.val ks);obtain⟨p,hp,hp2⟩:=J3.mp hw;refine wpAny_getItem_heap (knd:=iU X.prog X.w) hu (n9 I.hok hk) dd hp ?_;rw[hp2];exact h w' _ (I.tok _) rw'
theorem i7{o:HO}:Off a H (upd H a o):=fun b hb=>aQ hb
theorem yh{h':Heap}{t':Nat}{kvs kvs':List (IA×V)}{vs':List (IA×Value)}(I:Inv X pins σ H s)(e:H a=some (dA a kvs))(hs:Fb a s.heap h')(z:kvs'.length<=E1)(hd:(a==G8)=false)(rel:KV kvs' vs')(dd:h'.DictOf (bS X.prog X.w) a vs'):
  Inv X pins σ (upd H a (dA a kvs')) { s with heap:=h',toks:=t' }:=by
 have he:∃q,h'.get? a=some q:=let⟨q,_,_,hq,_⟩:=dd;⟨q,hq⟩;exact ux I (by rw[e];exact HU) hs he (DA.ok ⟨z,hd,X.prog,X.w,vs',rel,dd⟩)
theorem yi{h':Heap}{t':Nat}{zs zs':List (List IK×Addr×V)}{xs':List (List IK×Addr×Value)}(I:Inv X pins σ H s)(e:H a=some (dB a zs))(hs:Fb a s.heap h')(z:zs'.length<=E1)(hd:(a==G8)=false)(rel:ZX zs' xs')(dd:h'.DictOfH (iU X.prog X.w) a xs'):
  Inv X pins σ (upd H a (dB a zs')) { s with heap:=h',toks:=t' }:=by
 obtain⟨o,es,ep,h1,h2,h3,h4,_,h5⟩:=dd;exact ux I (by rw[e];exact HU) hs ⟨o,h1⟩ (DB.ok ⟨z,hd,xs',rel,o,es,ep,h1,h2,h3,h4,h5⟩)
theorem uK{kvs:List (IA×V)}{k:IA}(e:H a=some (dA a kvs))(hf:∀k,dQ kvs k=f (.inl k))(hn:kvs.length<=n):Dx (upd H a (dA a (kd kvs k v))) a false (dv f (.inl k) v) (n+1):=by
 refine .inl ⟨rfl,_,ay,fun j=>?_,?_⟩
 ·rw[ze]
  unfold dv;by_cases q:j=k
  ·rw[if_pos q,if_pos (by rw[q])]
  ·rw[if_neg q,if_neg (fun z=>q (Ob z)),hf j]
 ·have:=jB kvs k v;omega
theorem uL{zs:List (List IK×Addr×V)}{k:List IK}{c:Addr}(e:H a=some (dB a zs))(hz:∀z∈zs,bw H (.ref z.2.1) (.inr z.1))(hk:bw H (.ref c) (.inr k))(hf:∀k,atZ zs k=f (.inr k))(hn:zs.length<=n):
  Dx (upd H a (dB a (iq zs k c v))) a true (dv f (.inr k) v) (n+1):=by
 have kp:eO H (upd H a (dB a (iq zs k c v))):=i7.keepD fun xs q=>by rw[e]at q;cases q
 refine .inr ⟨rfl,_,ay,fun z h=>?_,fun j=>?_,?_⟩
 ·rcases zW h with⟨z0,h0,e1,e2⟩|⟨e1,e2⟩
  ·rw[e1,e2];exact(hz z0 h0).keep kp
  ·rw[e1,e2];exact hk.keep kp
 ·rw[BV]
  unfold dv;by_cases q:j=k
  ·rw[if_pos q,if_pos (by rw[q])]
  ·rw[if_neg q,if_neg (fun z=>q (KR z)),hf j]
 ·have:=jH zs k c v;omega
theorem DZ{Q:Unit->Shared->Prop}(hu:A.units+2<cLine)(I:Inv X pins σ H s)(d:Dx H a srt f n)(hk:bw H y k)(hs:cZ k=srt)(hn:n<E1)(ry:aB y u)(rv:aB v r)
  (h:∀H' s',Off a H H'->Dx H' a srt (dv f k v) (n+1)->Inv X pins σ H' s'->Q () s'):wpAny (model X.prog X.w) A (setItem (.ref a) u r) Q E s:=by
 rcases d with⟨rfl,kvs,e,hf,hl⟩|⟨rfl,zs,e,hz,hf,hl⟩
 ·cases k with
  |inr _=>cases hs
  |inl k=>
   obtain⟨z,hd,vs,rel,dd⟩:=lM I.hok e;have hvz:vs.length<=E1:=by rw[<-rel.length];exact z
   have hl':(kd kvs k v).length<=E1:=by have:=jB kvs k v;omega
   refine wpAny_setItem_pairs (knd:=bS X.prog X.w) (hsz:=hvz) (kz hk ry) dd fun h' dd' hs'=>h _ _ i7 (uK e hf hl) ?_;exact yh I e hs' hl' hd (rel.put k rv) dd'
 ·obtain⟨c,ks,rfl,rfl⟩:=lL hk hs
  cases ry;obtain⟨z,hd,xs,rel,dd⟩:=og I.hok e hz;have hvz:xs.length<=E1:=by rw[<-rel.length];exact z
  have hl':(iq zs ks c v).length<=E1:=by have:=jH zs ks c v;omega
  refine wpAny_setItem_heap (knd:=iU X.prog X.w) (hsz:=hvz) hu (n9 I.hok hk) dd fun h' dd' hs'=>h _ _ i7 (uL (c:=c) e hz hk hf hl) ?_;exact yi I e hs' hl' hd (rel.put ks rv) dd'
theorem oh{d a:Addr}{knd:HeapKind X.prog X.w (List IK)}{xs:List (List IK×Addr×Value)}{k:List IK}{v:Value}{Q:Value->Shared->Prop}(hu:knd.room A)(hkey:knd.is s.heap k a)(hm:s.heap.DictOfH knd d xs)
  (h1:∀p,atKey xs k=some p->Q p.2 { s with toks:=s.toks+knd.draws k })
  (h2:atKey xs k=none->∀h',h'.DictOfH knd d (storedH xs k a v)->Fb d s.heap h'->Q v { s with heap:=h',toks:=s.toks+knd.draws k })
  (hsz:xs.length<=E1):wpAny (model X.prog X.w) A (KL d (.ref a) v) Q E s:=by
 obtain⟨o,es,ep,ho,hc,hd,he,his,hn⟩:=hm;unfold KL
 try with_reducible refine FV ?_
 refine EF (knd.pyHash hu hkey ?_);refine EF (wpAny_dictFind_heap (s:={ s with toks:=s.toks+knd.draws k }) hu hkey ho hd he his hn ?_ ?_)
 ·intro hno
  have hnot:k∉xs.map (·.1):=not_mem_keys_of_get hno;refine EF (Ha (EF (wpAny_updateDictKeys (hz:=by have e:=size_of_entries he;omega) (s:={ s with toks:=s.toks+knd.draws k }) ho hd (EJ (h2 (JX hno) _ ⟨_,_,ep+1,FH _ ho (Obj.isFreed_of_dict (M5 hd _)),
   hc.mapDictKeys _,M5 hd _,?_,?_,?_⟩ (F5 ..))))))
  ·rw[Oi (JX hno)]
   simp[he,entryOfKey]
  ·rw[Oi (JX hno)]
   intro x hx;rcases FC.mp hx with hx|hx
   ·exact knd.keeps (his x hx) ho hd (F5 ..)
   ·simp only[E5]at hx
    subst hx;exact knd.keeps hkey ho hd (F5 ..)
  ·rw[Oi (JX hno)]
   rw[ET,NY];refine⟨hn,by simp,?_⟩;intro x hx y hy;simp only[E6,HG,E5]at hy;subst hy;exact fun e=>hnot (e▸hx)
 ·intro j p hj
  refine EF (wpAny_dictEntries (s:={ s with toks:=s.toks+knd.draws k }) ho hd ?_);rw[entry_at he j,hj];exact EF (Ha (EJ (h1 p (atKey_of_get hn hj))))
theorem jw{d:Addr}{key dflt:Value}{Q:Fin->Shared->Prop}(hT:s.TypeIs (.ref d) "dict")(hd:(d==G8)=false)(h:wpAny (model X.prog X.w) A (KL d key dflt) (fun v s'=>Q (.done (.ret v)) s') E s):
  wpAny (model X.prog X.w) A (Builtin.«dict.setdefault» ⟨[.ref d,key,dflt],[]⟩) Q E s:=by
 unfold Builtin.«dict.setdefault»;refine EF ?_;unfold Builtin.Dict.keyAndDefault;refine EF (wpAny_notOrdered_dict hT ?_);show wpAny _ _ (pure (d,key,some dflt)) _ _ s;refine EJ ?_;show wpAny _ _ (if(d==G8)=true then _ else(KL d key dflt>>=_)) _ _ s;rw[if_neg (by rw[hd];exact EU)];exact EF (F7 h (fun v s' q=>EJ q) fun _ _ x=>x)
theorem sG(I:Inv X pins σ H s)(d:Dx H a srt f n):s.TypeIs (.ref a) "dict"/\∀b,Fh a=.ref b->∃ob,s.heap.get? b=some ob/\ob.dict=none:=by
 rcases d with⟨_,kvs,e,_,_⟩|⟨_,zs,e,hz,_,_⟩
 ·obtain⟨_,_,vs,_,dd⟩:=lM I.hok e
  refine⟨dd.typeIs,fun b q=>?_⟩;cases q;obtain⟨ob,_,_,h1,h2,_⟩:=dd;exact⟨ob,h1,h2.2.1⟩
 ·obtain⟨_,_,xs,_,dd⟩:=og I.hok e hz
  refine⟨dd.typeIs,fun b q=>?_⟩;cases q;obtain⟨ob,_,_,h1,h2,_⟩:=dd;exact⟨ob,h1,h2.2.1⟩
theorem Dm{Q:Value->Shared->Prop}(hu:A.units+2<cLine)(I:Inv X pins σ H s)(d:Dx H a srt f n)(hk:bw H y k)(hs:cZ k=srt)(hn:n<E1)(ry:aB y u)(rv:aB v r)
  (h1:∀x w' s',f k=some x->aB x w'->Inv X pins σ H s'->Q w' s')
  (h2:f k=none->∀H' s',Off a H H'->Dx H' a srt (dv f k v) (n+1)->Inv X pins σ H' s'->Q r s'):wpAny (model X.prog X.w) A (call (.builtin "dict.setdefault") [.ref a,u,r]) Q E s:=by
 have hT:=(sG I d).1;refine FD IT hT PySem.F.entry_dict_setdefault ?_ (PySem.F.args_dict_setdefault_3 _ _ _);rcases d with⟨rfl,kvs,e,hf,hl⟩|⟨rfl,zs,e,hz,hf,hl⟩
 ·cases k with
  |inr _=>cases hs
  |inl k=>
   obtain⟨z,hd,vs,rel,dd⟩:=lM I.hok e;have hvz:vs.length<=E1:=by rw[<-rel.length];exact z
   have hl':(kd kvs k v).length<=E1:=by have:=jB kvs k v;omega
   refine jw hT hd (kt_dictSetDefault_pairs (knd:=bS X.prog X.w) (hsz:=hvz) (kz hk ry) dd (fun w' hw=>?_) fun hno h' dd' hs'=>?_)
   ·have q:=rel.val k
    rw[hf k,hw]at q;cases ef:f (.inl k)with
    |none=>rw[ef]at q;exact(show False from q).elim
    |some x=>rw[ef]at q;exact⟨w',rfl,h1 x w' _ ef q (I.tok _)⟩
   ·have q:=rel.val k
    rw[hf k,hno]at q;have ef:f (.inl k)=none:=by
     cases ef:f (.inl k)with
     |none=>rfl
     |some x=>rw[ef]at q;exact(show False from q).elim
    exact⟨r,rfl,h2 ef _ _ i7 (uK e hf hl) (yh I e hs' hl' hd (rel.put k rv) dd')⟩
 ·obtain⟨c,ks,rfl,rfl⟩:=lL hk hs
  cases ry;obtain⟨z,hd,xs,rel,dd⟩:=og I.hok e hz;have hvz:xs.length<=E1:=by rw[<-rel.length];exact z
  have hl':(iq zs ks c v).length<=E1:=by have:=jH zs ks c v;omega
  refine jw hT hd (oh (X:=X) (knd:=iU X.prog X.w) hu (n9 I.hok hk) dd (fun p hp=>?_) (fun hno h' dd' hs'=>?_) hvz)
  ·have q:=rel.val ks
   rw[hf ks,hp]at q;cases ef:f (.inr ks)with
   |none=>rw[ef]at q;exact(show False from q).elim
   |some x=>rw[ef]at q;exact⟨p.2,rfl,h1 x p.2 _ ef q (I.tok _)⟩
  ·have q:=rel.val ks
   rw[hf ks,hno]at q;have ef:f (.inr ks)=none:=by
    cases ef:f (.inr ks)with
    |none=>rfl
    |some x=>rw[ef]at q;exact(show False from q).elim
   exact⟨r,rfl,h2 ef _ _ i7 (uL (c:=c) e hz hk hf hl) (yi I e hs' hl' hd (rel.put ks rv) dd')⟩
end
section
variable{X:Cx}
theorem yj(hu:X.A.units+64<cLine):OpR X (GE .NotIn) (zk true):=by
 intro pins s σ H x y v u Q I rx ry h;obtain⟨a,srt,f,n,k,rfl,d,hk,hs,q⟩:=h;cases ry;exact BX (by omega) I d hk hs rx fun s' I'=>⟨.bl _,H,I',rfl,q⟩
theorem uM{o i:Expr}{pos:Pos}{td ty:TE}(hu:X.A.units+64<cLine)(ho:PE X o td)(hi:PE X i ty)(hs:C2 i):PE X (.Subscript o i pos) (tOp qN td ty):=by
 intro pins s σ H Q I h;refine BG PySem.F.slot_dict_getitem.lookup hs (thn (ho pins s σ H _ I h) fun u s1 ⟨x,H1,I1,rx,q1⟩=>thn (hi pins s1 σ H1 _ I1 q1) fun iv s2 ⟨y,H2,I2,ry,a,srt,f,n,k,v,ex,d,hk,hs',ev,q2⟩=>?_);subst ex;obtain rfl:u=Fh a:=rx;exact⟨(sG I2 d).1,DY (by omega) I2 d hk hs' ry ev fun w' s3 I3 rw'=>⟨v,H2,I3,rw',q2⟩⟩
theorem A7(hu:X.A.units+64<cLine):yI X qO:=by
 intro pins s σ H o i v ov iv u Q I ro ri rv h;obtain⟨a,srt,f,n,k,rfl,d,hk,hs,hn,q⟩:=h;cases ro;exact DZ (by omega) I d hk hs hn ri rv fun H' s' o' d' I'=>⟨H',I',q H' o' d'⟩
theorem kA{pos:Pos}:PE X (.Dict [] [] pos) jQ:=fun pins s σ H Q I h=>by
 obtain⟨srt,h⟩:=h;have hd:(s.heap.objs.size==G8)=false:=beq_eq_false_iff_ne.mpr (Ge (Fi I.big));have hp:=I.hok.fresh (EM s.heap.objs.size);cases srt with
 |false=>
  refine Ox ⟨.ref s.heap.objs.size,_,I.laid (a:=s.heap.objs.size) (o:=dA s.heap.objs.size []) (t':=s.toks) (fun _ _ q=>EH _ q) (EM _) (DA.ok ⟨Fy _,hd,X.prog,X.w,[],.nil,Heap.DictOf.new s.heap⟩),rfl,?_⟩;exact h _ _ hp (aH hp _) (.inl ⟨rfl,[],ay,fun _=>rfl,EM _⟩)
 |true=>
  refine Ox ⟨.ref s.heap.objs.size,_,I.laid (a:=s.heap.objs.size) (o:=dB s.heap.objs.size []) (t':=s.toks) (fun _ _ q=>EH _ q) (EM _) (DB.ok ⟨Fy _,hd,[],.nil,_,#[],0,ES _ rfl,⟨rfl,rfl,rfl⟩,rfl,rfl,List.nodup_nil⟩),rfl,?_⟩;exact h _ _ hp (aH hp _) (.inr ⟨rfl,[],ay,fun z hz=>(nomatch hz),fun _=>rfl,EM _⟩)
noncomputable def MtX(X:Cx)(id:String)(r:V->List V->Hp->VK->Prop):Prop:=
 ∀(pins:List (Addr×Obj))(s:Shared)(σ:St)(H:Hp)(x:V)(ys:List V)(u:Value)(us:List Value)(Q:VK),Inv X pins σ H s->aB x u->aA ys us->r x ys H Q->
  wpAny (model X.prog X.w) X.A (call (.builtin id) (u::us)) (EP X pins σ Q) X.xe s
theorem jU(hu:X.A.units+64<cLine):MtX X "dict.setdefault" nH:=by
 intro pins s σ H x ys u us Q I rx rys h;obtain⟨a,srt,f,n,k,y,v,rfl,rfl,d,hk,hs,hn,q1,q2⟩:=h;cases rx;cases rys with
 |cons r1 t1=>cases t1 with
  |cons r2 t2=>
   cases t2;exact Dm (by omega) I d hk hs hn r1 r2 (fun x w' s' ef rw' I'=>⟨x,H,I',rw',q1 x ef⟩) fun ef H' s' o' d' I'=>⟨v,H',I',r2,q2 ef H' o' d'⟩
theorem vV{o e:Expr}{es:List Expr}{name:Str}{id:String}{r:V->List V->Hp->VK->Prop}{to:TE}{t:TA}{apos cpos:Pos}(slot:Slot "dict" name id)(hty:typeOf (.builtin id)=pure (.type "method_descriptor"))(hm:MtX X id r)(ho:PE X o to)(ha:PA X (e::es) t)
  (hbase:Lk o name X.env (eval o X.env)=eval o X.env:=by rfl)
  (hfew:((backTo cpos (Fc (e::es) X.env)).all (fun x=>!x.1)&&(LF cpos (JZ [] X.env)).all (fun x=>x.1.isSome)
   &&decide ((e::es).length+([]:List Keyword).length+(if([]:List Keyword).isEmpty then 0 else 1)<30))=true:=by rfl)
  (hline:(apos.endLine==cpos.line)=true:=by rfl) (hs:Fc (e::es) X.env=(false,eval e X.env)::Fc es X.env:=by rfl) (hplain:(backTo cpos (Fc es X.env)).any (·.1)=false:=by rfl):
  PE X (.Call (.Attribute o name apos) (e::es) [] cpos) (tXM r to t):=by
 intro pins s σ H Q I h;refine J1 hbase hfew hline rfl (thn (ho pins s σ H _ I h) fun v s1 ⟨x,H1,I1,r1,⟨a,srt,f,n,ex,d⟩,q1⟩=>?_);subst ex;obtain rfl:v=Fh a:=r1;obtain⟨h1,h2⟩:=sG I1 d;refine⟨"dict",id,PySem.F.plainAttrs_dict,slot,hty,h1,h2,?_⟩;have hA:=ha cpos pins s1 σ H1 _ I1 q1;rw[hs]at hA ⊢;refine J2 (by show(false||(backTo cpos (Fc es X.env)).any (·.1))=false;rw[hplain]<;>rfl) (IY ?_);exact thn hA fun us s2 ⟨vs,H2,I2,r2,q2⟩=>hm pins s2 σ H2 (.ref a) vs (.ref a) us Q I2 rfl r2 q2
end
end
end L2
section
namespace L2
open PySem
noncomputable def Rs(xs:List Nat):Prop:=xs.Pairwise (· < ·)
theorem qd(xs:Array Nat)(i d:Nat)(h:i<xs.size):xs.getD i d=xs.toList[i]'(by simpa using h):=by
 rw[Kv,dif_pos h];simp
theorem pj(xs:Array Nat)(j:Nat)(hr:Rs xs.toList):∀(fuel lo hi:Nat),hi-lo<=fuel->lo<=hi->hi<=xs.size->(∀i (h:i<xs.toList.length),i<lo->xs.toList[i]<j)->(∀i (h:i<xs.toList.length),hi<=i->j<=xs.toList[i])->
  lo<=Ho xs j fuel lo hi/\Ho xs j fuel lo hi<=hi/\(∀i (h:i<xs.toList.length),i<Ho xs j fuel lo hi->xs.toList[i]<j)/\(∀i (h:i<xs.toList.length),Ho xs j fuel lo hi<=i->j<=xs.toList[i])
 |0,lo,hi,hf,hl,hs,h1,h2=>by
  have e:hi=lo:=by omega
  subst e;exact⟨EM _,EM _,h1,h2⟩
 |fuel+1,lo,hi,hf,hl,hs,h1,h2=>by
  have eq:Ho xs j (fuel+1) lo hi=(if lo<hi then(if xs.getD ((lo+hi)/2) j<j then Ho xs j fuel ((lo+hi)/2+1) hi else Ho xs j fuel lo ((lo+hi)/2))else lo):=rfl;by_cases hlt:lo<hi
  ·have hm:(lo+hi)/2<xs.size:=by omega
   have hm':(lo+hi)/2<xs.toList.length:=by simpa using hm
   have pw:=HX.mp hr;rw[if_pos hlt,qd xs _ _ hm]at eq;by_cases hc:xs.toList[(lo+hi)/2]<j
   ·rw[if_pos hc]at eq
    obtain⟨a,b,c,d⟩:=pj xs j hr fuel ((lo+hi)/2+1) hi (by omega) (by omega) hs (fun i h hi'=>by
     rcases NJ i ((lo+hi)/2)with z|z
     ·have:=pw i ((lo+hi)/2) h hm' z
      omega
     ·have e:i=(lo+hi)/2:=by omega
      subst e;exact hc) h2
    rw[eq];exact⟨by omega,b,c,d⟩
   ·rw[if_neg hc]at eq
    obtain⟨a,b,c,d⟩:=pj xs j hr fuel lo ((lo+hi)/2) (by omega) (by omega) (by omega) h1 (fun i h hi'=>by
     rcases NJ ((lo+hi)/2) i with z|z
     ·have:=pw ((lo+hi)/2) i hm' h z
      omega
     ·have e:i=(lo+hi)/2:=by omega
      subst e;omega)
    rw[eq];exact⟨a,by omega,c,d⟩
  ·rw[if_neg hlt]at eq
   have e:hi=lo:=by omega
   subst e;rw[eq];exact⟨EM _,EM _,h1,h2⟩
theorem dw(xs:Array Nat)(j:Nat)(hr:Rs xs.toList):Fx xs j<=xs.size/\(∀i (h:i<xs.toList.length),i<Fx xs j->xs.toList[i]<j)/\(∀i (h:i<xs.toList.length),Fx xs j<=i->j<=xs.toList[i]):=by
 obtain⟨_,b,c,d⟩:=pj xs j hr xs.size 0 xs.size (by omega) (Fy _) (EM _) (fun i h z=>absurd z (Gm _)) (fun i h z=>absurd (by simpa using h) (Lz.mpr z));exact⟨b,c,d⟩
theorem vW(xs:Array Nat)(hr:Rs xs.toList){i:Nat}(h:i<xs.toList.length):Fx xs (xs.toList[i]+1)=i+1:=by
 obtain⟨b,c,d⟩:=dw xs (xs.toList[i]+1) hr;have pw:=HX.mp hr;rcases GG (Fx xs (xs.toList[i]+1)) (i+1)with z|z|z
 ·have:=d i h (by omega)
  omega
 ·exact z
 ·have hi:i+1<xs.toList.length:=by simp at *;omega
  have:=c (i+1) hi (by omega);have:=pw i (i+1) h hi (by omega);omega
theorem vX(xs:Array Nat)(hr:Rs xs.toList):Fx xs 0=0:=by
 obtain⟨b,c,_⟩:=dw xs 0 hr;rcases K7 (Fx xs 0)with z|z
 ·exact z
 ·have h0:0<xs.toList.length:=by simp;omega
  have:=c 0 h0 z;omega
theorem Dn(xs:Array Nat)(hr:Rs xs.toList){j:Nat}(hj:j∉xs.toList):Rs (E4.insertAt xs (Fx xs j) j).toList:=by
 obtain⟨b,c,d⟩:=dw xs j hr;rw[Ih];have hr':(xs.toList.take (Fx xs j)++xs.toList.drop (Fx xs j)).Pairwise (· < ·):=by rw[FZ];exact hr
 rw[Kw]at hr';obtain⟨p1,p2,p3⟩:=hr';have lo:∀a∈xs.toList.take (Fx xs j),a<j:=fun a ha=>by
  obtain⟨i,hi,rfl⟩:=M6.mp ha;rw[List.getElem_take];have hi':i<min (Fx xs j) xs.toList.length:=by simpa using hi
  exact c i (by omega) (by omega)
 have hi:∀a∈xs.toList.drop (Fx xs j),j<a:=fun a ha=>by
  obtain⟨i,hi,rfl⟩:=M6.mp ha;rw[List.getElem_drop];have hl:i<xs.toList.length-Fx xs j:=by simpa using hi
  have h1:Fx xs j+i<xs.toList.length:=by omega
  have:=d _ h1 (GB _ _);rcases NG this with z|z
  ·exact z
  ·exact absurd (z▸GK h1) hj
 refine Kw.mpr ⟨p1,List.pairwise_cons.mpr ⟨hi,p2⟩,fun a ha x hx=>?_⟩;rcases EV.mp hx with rfl|hx
 ·exact lo a ha
 ·exact p3 a ha x hx
theorem BY{mask finger moves:Nat}{led plain:Bool}{hs:Array Int}{t:E4}{o:Array Nat}(e:E4.laid mask finger moves led plain hs=some (t,o)):Rs t.place.toList/\t.led=led:=by
 unfold E4.laid at e;obtain⟨owner,_,e⟩:=Option.bind_eq_some_iff.mp e;cases e;refine⟨?_,rfl⟩;show((((EY (mask+1)).filterMap fun j=>(owner.getD j none).map (j,·)).map (·.1)).toArray).toList.Pairwise (· < ·);have sub:List.Sublist (((EY (mask+1)).filterMap fun j=>(owner.getD j none).map (j,·)).map (·.1)) (EY (mask+1)):=by
  rw[List.map_filterMap];have:∀l:List Nat,List.Sublist (l.filterMap fun j=>((owner.getD j none).map (j,·)).map (·.1)) l:=by
   intro l
   induction l with
   |nil=>exact .slnil
   |cons a l ih=>
    rw[Ij];cases owner.getD a none with
    |none=>exact .cons _ ih
    |some v=>exact .cons₂ _ ih
  exact this _
 exact List.pairwise_lt_range.sublist sub
end L2
end
section
namespace L2
open PySem PySem.SetTable
noncomputable def b9(m:Nat):Prop:=m=7\/m=31\/m=127
noncomputable def cX(m:Nat)(p:Probe):Probe:=
 if p.more>0 then{ p with j:=p.j+1,more:=p.more-1 }else{ p with j:=(leap m p.i p.perturb).1,more:=runEnd m (leap m p.i p.perturb).1-(leap m p.i p.perturb).1,i:=(leap m p.i p.perturb).1,perturb:=(leap m p.i p.perturb).2 }
theorem yk(t:E4)(p:Probe):t.advance p=cX t.mask p:=rfl
noncomputable def itM(m:Nat)(p:Probe):Nat->Probe
 |0=>p
 |k+1=>itM m (cX m p) k
theorem iN(m:Nat):∀(a b:Nat)(p:Probe),itM m p (a+b)=itM m (itM m p a) b
 |0,b,p=>by rw[IQ];rfl
 |a+1,b,p=>by
  rw[K9];exact iN m a b (cX m p)
noncomputable def bD(m:Nat)(h:Int):Probe:={ j:=bits h%(m+1),more:=runEnd m (bits h%(m+1))-bits h%(m+1),i:=bits h%(m+1),perturb:=bits h,dummy:=none }
structure Val(m:Nat)(p:Probe):Prop where
 more:p.more<=9
 i:p.i<=m
 pt:p.perturb<2^64
theorem yl(m i:Nat):runEnd m i-i<=9:=by
 unfold runEnd
 split<;>omega
theorem BZ(h:Int):bits h<2^64:=by
 unfold bits;have h1:=Hk h (b:=2^64) (by decide);have h2:=GX h (b:=2^64) (by decide);omega
theorem jx(m:Nat)(h:Int):Val m (bD m h):=⟨yl _ _,Hq (Jb _ (Hm _)),BZ h⟩
noncomputable def lpM(m:Nat)(p:Probe):Probe:={ p with j:=(leap m p.i p.perturb).1,more:=runEnd m (leap m p.i p.perturb).1-(leap m p.i p.perturb).1,i:=(leap m p.i p.perturb).1,perturb:=(leap m p.i p.perturb).2 }
theorem ym{m:Nat}{p:Probe}(v:Val m p):Val m (lpM m p):=⟨yl _ _,Hq (Jb _ (Hm _)),JB (Nat.div_le_self _ _) v.pt⟩
theorem B0{m:Nat}{p:Probe}(v:Val m p):Val m (cX m p):=by
 unfold cX
 split
 ·exact⟨Fz (Nat.sub_le _ _) v.more,v.i,v.pt⟩
 ·exact ym v
theorem sH{m:Nat}:∀(k:Nat){p:Probe},Val m p->Val m (itM m p k)
 |0,_,v=>v
 |k+1,_,v=>sH k (B0 v)
theorem lN(m:Nat):∀(r:Nat)(p:Probe),p.more=r->itM m p (r+1)=lpM m p
 |0,p,h=>by
  show cX m p=_;unfold cX;rw[if_neg (by omega)];rfl
 |r+1,p,h=>by
  show itM m (cX m p) (r+1)=_;have e:cX m p={ p with j:=p.j+1,more:=p.more-1 }:=by
   unfold cX;rw[if_pos (by omega)]
  rw[e,lN m r _ (by show p.more-1=r;omega)];rfl
noncomputable def lpN(m:Nat)(p:Probe):Nat->Probe
 |0=>p
 |k+1=>lpN m (lpM m p) k
theorem qR(m:Nat):∀(L:Nat)(p:Probe),Val m p->∃k,k<=10*L/\itM m p k=lpN m p L
 |0,p,_=>⟨0,Fy _,rfl⟩
 |L+1,p,v=>by
  obtain⟨k,h1,h2⟩:=qR m L (lpM m p) (ym v);have:=v.more;refine⟨(p.more+1)+k,by omega,?_⟩;rw[iN,lN m p.more p rfl,h2];rfl
theorem sI(m:Nat):∀(L:Nat)(p:Probe),(lpN m p L).perturb=p.perturb/32^L
 |0,p=>by rw[Nat.pow_zero,Nat.div_one];rfl
 |L+1,p=>by
  show(lpN m (lpM m p) L).perturb=_;rw[sI m L];show p.perturb/32/32^L=_;rw[Nat.div_div_eq_div_mul,LR,G7]
noncomputable def fM(m i:Nat):Nat:=(i*5+1)%(m+1)
noncomputable def fN(m:Nat)(i:Nat):Nat->Nat
 |0=>i
 |k+1=>fN m (fM m i) k
theorem oj(m:Nat):∀(a b i:Nat),fN m i (a+b)=fN m (fN m i a) b
 |0,b,i=>by rw[IQ];rfl
 |a+1,b,i=>by
  rw[K9];exact oj m a b (fM m i)
theorem mS(m:Nat):∀(L:Nat)(p:Probe),p.perturb=0->(lpN m p (L+1)).j=fN m p.i (L+1)
 |0,p,h=>by
  show(p.i*5+1+p.perturb/32)%(m+1)=(p.i*5+1)%(m+1);rw[h]
 |L+1,p,h=>by
  show(lpN m (lpM m p) (L+1)).j=fN m (fM m p.i) (L+1);have e:(lpM m p).i=fM m p.i:=by
   show(p.i*5+1+p.perturb/32)%(m+1)=_;rw[h];rfl
  rw[mS m L _ (by show p.perturb/32=0;rw[h]),e]
noncomputable def orb(m:Nat):List Nat:=(EY (m+1)).map (fN m 0)
theorem B3{m:Nat}(hm:b9 m):(∀j,j<m+1->j∈orb m)/\fN m 0 (m+1)=0:=by
 rcases hm with rfl|rfl|rfl<;>exact⟨by decide+kernel,by decide+kernel⟩
theorem A8{m:Nat}(hm:b9 m){i j:Nat}(hi:i<=m)(hj:j<=m):∃L,L<=m/\fN m i (L+1)=j:=by
 obtain⟨h1,h2⟩:=B3 hm;obtain⟨a,ha,ea⟩:=FB.mp (h1 i (N1 hi));obtain⟨b,hb,eb⟩:=FB.mp (h1 j (N1 hj));have ha:=Ff.mp ha;have hb:=Ff.mp hb;by_cases h:a<b
 ·refine⟨b-a-1,by omega,?_⟩
  rw[<-ea,<-oj,show a+(b-a-1+1)=b by omega];exact eb
 ·refine⟨b+(m+1)-a-1,by omega,?_⟩
  rw[<-ea,<-oj,show a+(b+(m+1)-a-1+1)=(m+1)+b by omega,oj,h2];exact eb
theorem D0{m:Nat}(hm:b9 m){p:Probe}(v:Val m p){j:Nat}(hj:j<=m):∃k,k<10*turns m/\(itM m p k).j=j:=by
 obtain⟨k1,b1,e1⟩:=qR m 13 p v;have v1:Val m (lpN m p 13):=by rw[<-e1];exact sH k1 v
 have p0:(lpN m p 13).perturb=0:=by
  rw[sI];exact Oy (E8 v.pt (by decide))
 obtain⟨L,hL,eL⟩:=A8 hm v1.i hj;obtain⟨k2,b2,e2⟩:=qR m (L+1) _ v1;refine⟨k1+k2,by unfold turns;omega,?_⟩;rw[iN,e1,e2,mS m L _ p0,eL]
theorem zY{p:Nat->Prop}(dp:∀k,Decidable (p k)):∀(B k:Nat),k<=B->p k->∃k0,k0<=k/\p k0/\∀k',k'<k0->¬p k':=by
 intro B
 induction B with
 |zero=>
  intro k hk h;have e:k=0:=Nat.le_zero.mp hk;subst e;exact⟨0,EM _,h,fun k' z=>absurd z (Gm _)⟩
 |succ B ih=>
  intro k hk h;by_cases e:∃k',k'<k/\p k'
  ·obtain⟨k',h1,h2⟩:=e
   obtain⟨k0,a,b,c⟩:=ih k' (by omega) h2;exact⟨k0,by omega,b,c⟩
  ·exact⟨k,EM _,h,fun k' z q=>e ⟨k',z,q⟩⟩
theorem yn{l m:List Nat}(h:l.Nodup)(hs:∀x∈l,x∈m):l.length<=m.length:=by
 induction l generalizing m with
 |nil=>exact Fy _
 |cons a l ih=>
  obtain⟨h1,h2⟩:=GT.mp h;have ha:=hs a EW;have:=ih (m:=m.erase a) h2 fun x hx=>(Ks (fun e:x=a=>h1 (e▸hx))).mpr (hs x (E3 _ hx));rw[JE ha]at this;have:=IB ha;rw[Fu];omega
theorem yo{m:Nat}{P:List Nat}(h:P.length<=m):∃j,j<=m/\j∉P:=by
 by_cases e:∃j,j<=m/\j∉P
 ·exact e
 ·have:=yn (l:=EY (m+1)) (m:=P) LW fun x hx=>by
   have hx:=Ff.mp hx;by_cases z:x∈P
   ·exact z
   ·exact absurd ⟨x,by omega,z⟩ e
  rw[Fw]at this;omega
theorem vY{m:Nat}(hm:b9 m){P:List Nat}(hP:P.length<=m){p:Probe}(v:Val m p):∃N,N<10*turns m/\(itM m p N).j∉P/\∀k,k<N->(itM m p k).j∈P:=by
 obtain⟨j,hj,hn⟩:=yo hP;obtain⟨k,hk,e⟩:=D0 hm v hj;obtain⟨k0,h1,h2,h3⟩:=zY (p:=fun k=>(itM m p k).j∉P) (fun _=>inferInstance) k k (EM _) (by rw[e];exact hn);exact⟨k0,by omega,h2,fun k' hk'=>Decidable.of_not_not (h3 k' hk')⟩
theorem zZ{xs:Array Nat}(hr:Rs xs.toList){i:Nat}(h:i<xs.toList.length):below xs xs.toList[i]=i:=by
 obtain⟨b,c,d⟩:=dw xs xs.toList[i] hr;have pw:=HX.mp hr;rcases GG (below xs xs.toList[i]) i with z|z|z
 ·have:=d _ (by omega) (EM _)
  have:=pw _ i (by omega) h z;omega
 ·exact z
 ·have:=c i h z
  omega
theorem jV{t:E4}(hr:Rs t.place.toList){i j:Nat}(h:t.place.toList[i]?=some j):t.slot j=.live i:=by
 obtain⟨hi,e⟩:=EK.mp h;have hb:below t.place j=i:=by rw[<-e];exact zZ hr hi
 unfold E4.slot;rw[hb,if_pos];rw[<-Fq,h];exact beq_self_eq_true _
theorem Aa{t:E4}(hd:t.dummies=#[]){j:Nat}(h:j∉t.place.toList):t.slot j=.empty:=by
 unfold E4.slot;dsimp only;rw[if_neg,if_neg]
 ·rw[hd]
  exact EU
 ·intro z
  have z':t.place[below t.place j]?=some j:=eq_of_beq z;rw[<-Fq]at z';exact h (E2 z')
theorem sJ{t:E4}(hd:t.dummies=#[])(hr:Rs t.place.toList)(f:Nat->Int)(h:Int):∀(N fuel:Nat)(p:Probe),p.dummy=none->N<fuel->(itM t.mask p N).j∉t.place.toList->(∀k,k<N->(itM t.mask p k).j∈t.place.toList)->
  Hr t f h fuel p=some (.empty (itM t.mask p N).j none)/\(∀k i,k<N->t.place.toList[i]?=some (itM t.mask p k).j->f i≠h)\/
  ∃k i,k<N/\t.place.toList[i]?=some (itM t.mask p k).j/\f i=h/\(∀k' i',k'<k->t.place.toList[i']?=some (itM t.mask p k').j->f i'≠h)/\Hr t f h fuel p=some (.candidate (itM t.mask p k).j i (itM t.mask p (k+1)))
 |_,0,_,_,hf,_,_=>absurd hf (Gm _)
 |0,fuel+1,p,hp,_,hn,_=>by
  refine .inl ⟨?_,fun k i z=>absurd z (Gm _)⟩;unfold Hr;have:t.slot p.j=.empty:=Aa hd hn;rw[this];dsimp only;rw[hp];rfl
 |N+1,fuel+1,p,hp,hf,hn,ha=>by
  have h0:=ha 0 (Hm _);obtain⟨i,hi⟩:=Kx h0;have hi':t.place.toList[i]?=some p.j:=hi;have hs:=jV hr hi';by_cases e:f i=h
  ·refine .inr ⟨0,i,Hm _,hi,e,fun k' i' z=>absurd z (Gm _),?_⟩
   unfold Hr;rw[hs];dsimp only;rw[if_pos (by rw[e];exact beq_self_eq_true _),yk];rfl
  ·have step:Hr t f h (fuel+1) p=Hr t f h fuel (cX t.mask p):=by
    conv=>lhs;unfold Hr
    rw[hs];dsimp only;rw[if_neg (by rw[beq_iff_eq];exact e),yk]
   have hp':(cX t.mask p).dummy=none:=by
    unfold cX
    split<;>exact hp
   have uniq:∀i',t.place.toList[i']?=some (itM t.mask p 0).j->f i'≠h:=fun i' hi2=>by
    have:=jV hr hi2;rw[jV hr hi]at this;injection this with this
    rw[<-this];exact e
   rw[step];rcases sJ hd hr f h N fuel (cX t.mask p) hp' (by omega) hn (fun k hk=>ha (k+1) (by omega))with⟨g1,g2⟩|⟨k,i2,g1,g2,g3,g4,g5⟩
   ·refine .inl ⟨g1,fun k i2 hk hi2=>?_⟩
    cases k with
    |zero=>exact uniq i2 hi2
    |succ k=>exact g2 k i2 (by omega) hi2
   ·refine .inr ⟨k+1,i2,by omega,g2,g3,fun k' i' hk' hi2=>?_,g5⟩
    cases k' with
    |zero=>exact uniq i' hi2
    |succ k'=>exact g4 k' i' (by omega) hi2
end L2
end
section
namespace L2
open PySem
section
variable{prog:Program}{w:World}{K:Type}[DecidableEq K]{knd:KeyKind prog w K}{A:Around}{E:Value->Shared->Prop}{s:Shared}
noncomputable def Ent(knd:KeyKind prog w K)(k:K)(e:Int×Value):Prop:=knd.is k e.2=true/\e.1=knd.hash k/\e.2.scannable=true
inductive bd{α β:Type}(F:α->β->Prop):List α->List β->Prop
 |nil:bd F [] []
 |cons {a b l m}:F a b->bd F l m->bd F (a::l) (b::m)
theorem bd.len{α β:Type}{F:α->β->Prop}{l:List α}{m:List β}(h:bd F l m):l.length=m.length:=by
 induction h with
 |nil=>rfl
 |cons _ _ ih=>rw[Fu,Fu,ih]
theorem bd.app{α β:Type}{F:α->β->Prop}{l l':List α}{m m':List β}(h:bd F l m)(h':bd F l' m'):bd F (l++l') (m++m'):=by
 induction h with
 |nil=>exact h'
 |cons r _ ih=>exact .cons r ih
theorem bd.right{α β:Type}{F:α->β->Prop}{l:List α}{m:List β}(h:bd F l m):∀b∈m,∃a∈l,F a b:=by
 induction h with
 |nil=>intro b hb;cases hb
 |cons r _ ih=>
  intro b hb;rcases EV.mp hb with rfl|hb
  ·exact⟨_,EW,r⟩
  ·obtain⟨a,ha,f⟩:=ih b hb
   exact⟨a,E3 _ ha,f⟩
theorem bd.perm{α β:Type}{F:α->β->Prop}{m m':List β}(p:Gi m m'):∀{l:List α},bd F l m->∃l',Gi l l'/\bd F l' m':=by
 induction p with
 |nil=>intro l h;cases h;exact⟨[],.nil,.nil⟩
 |cons b _ ih=>
  intro l h;cases h with
  |cons r t=>
   obtain⟨l',p,q⟩:=ih t;exact⟨_::l',.cons _ p,.cons r q⟩
 |swap b c m=>
  intro l h;cases h with
  |cons r t=>cases t with
   |cons r' t'=>exact⟨_,.swap _ _ _,.cons r' (.cons r t')⟩
 |trans _ _ ih1 ih2=>
  intro l h;obtain⟨l1,p1,q1⟩:=ih1 h;obtain⟨l2,p2,q2⟩:=ih2 q1;exact⟨l2,p1.trans p2,q2⟩
noncomputable def pp(knd:KeyKind prog w K)(h:Heap)(a:Addr)(ks:List K)(led:Bool):Prop:=
 ∃o es ep t,h.get? a=some o/\o.ExactSet/\o.data=.set es ep t/\bd (Ent knd) ks es.toList/\ks.Nodup/\es.size<La/\t.fits es.size=true/\Rs t.place.toList/\t.led=led
theorem stored{h:Heap}{a:Addr}{o:Obj}{es es':Array (Int×Value)}{ep:Nat}{t t':E4}{ks':List K}{led:Bool}(g1:h.get? a=some o)(g2:o.ExactSet)(g3:o.data=.set es ep t)(pr:bd (Ent knd) ks' es'.toList)(nd:ks'.Nodup)(sb:es'.size<La)(ft:t'.fits es'.size=true)(rs:Rs t'.place.toList)(ld:t'.led=led):
  (h.update a (Jc es' t')).get? a=some { o with data:=.set es' (ep+1) t' }/\pp knd (h.update a (Jc es' t')) a ks' led:=by
 have hg:(h.update a (Jc es' t')).get? a=some { o with data:=.set es' (ep+1) t' }:=by
  have z:=FH (Jc es' t') g1 (by rw[NK _ _ g3];rfl);rw[z,NK _ _ g3]
 exact⟨hg,_,es',ep+1,t',hg,g2,rfl,pr,nd,sb,ft,rs,ld⟩
end
end L2
end
section
namespace L2
open PySem PySem.SetTable
noncomputable def mT(m:Nat)(h:Int)(P:List Nat)(j:Nat):Prop:=∃k,(itM m (bD m h) k).j=j/\∀k',k'<k->(itM m (bD m h) k').j∈P
theorem mT.mono{m:Nat}{h:Int}{P P':List Nat}{j:Nat}(r:mT m h P j)(s:∀x∈P,x∈P'):mT m h P' j:=let⟨k,e,a⟩:=r;⟨k,e,fun k' z=>s _ (a k' z)⟩
structure jy(t:E4)(hs:List Int):Prop where
 mask:b9 t.mask
 dum:t.dummies=#[]
 rs:Rs t.place.toList
 len:t.place.toList.length=hs.length
 room:hs.length*5<t.mask*3
 le:∀j∈t.place.toList,j<=t.mask
 road:∀(i j:Nat)(h:Int),t.place.toList[i]?=some j->hs[i]?=some h->mT t.mask h t.place.toList j
theorem b9.odd{m:Nat}(h:b9 m):(m%2==0)=false:=by
 rcases h with rfl|rfl|rfl<;>rfl
theorem b9.pos{m:Nat}(h:b9 m):7<=m:=by
 rcases h with rfl|rfl|rfl<;>decide
theorem b9.small{m:Nat}(h:b9 m):m<=127:=by
 rcases h with rfl|rfl|rfl<;>decide
section
variable{prog:Program}{w:World}{A:Around}{E:Value->Shared->Prop}{s:Shared}
noncomputable abbrev TKy(prog:Program)(w:World)(h:Heap)(ks:List Int)(a:Addr):Prop:=JK (intKind prog w) h ks a
noncomputable abbrev bC(prog:Program)(w:World)(ks:List Int):Int:=tupleKeyHash (intKind prog w) ks
noncomputable def i8(prog:Program)(w:World)(h:Heap)(k:List Int)(e:Int×Value):Prop:=∃b,e.2=.ref b/\TKy prog w h k b/\e.1=bC prog w k
theorem yp{k:List Int}{b:Addr}{Q:Bool->Shared->Prop}(hk:TKy prog w s.heap k b)(h:Q false s):∀n,wpAny (model prog w) A (Lw (n+1) (.ref b)) Q E s:=by
 intro n;have hT:=hk.typeIs;obtain⟨o,items,m,ho,hc,hd,hi⟩:=hk;unfold Lw;refine EF (Kl hT ?_);dsimp only;rw[if_pos (by decide)];refine EF (EJ ?_);simp only[GZ,Fe,if_false];refine EF (FG ho hd ?_);dsimp only;refine EF ?_;show wpAny _ _ (forIn items _ _) _ _ s;rw[<-Hg];refine Hc _ (fun aY r s'=>r.1=none/\s'=s/\∃ks,ItemsAre (intKind prog w) ks aY) _ ?_ ?_ _ _ ⟨rfl,rfl,k,hi⟩
 ·rintro v aY r s' ⟨hr,rfl,ks,hall⟩
  cases hall with
  |cons h1 hl=>
   obtain⟨tk,rfl⟩:=JR h1;refine EF (HZ (a:=false) (by unfold Lw;cases n<;>rfl) ?_);simp only[Fe,if_false];exact EJ ⟨rfl,rfl,_,hl⟩
 ·rintro⟨r1,r2⟩ s' ⟨hr,rfl,_⟩
  simp only at hr;subst hr;exact EJ h
theorem Do{k:List Int}{b:Addr}{Q:Bool->Shared->Prop}(hk:TKy prog w s.heap k b)(ys:List Value)(hy:∀y∈ys,∃c k',y=.ref c/\TKy prog w s.heap k' c)(h:Q false s):wpAny (model prog w) A (N2 (.ref b) ys) Q E s:=by
 unfold N2;refine EF ?_;refine Hc _ (fun aY r s'=>r.1=none/\s'=s/\∀y∈aY,∃c k',y=.ref c/\TKy prog w s.heap k' c) _ ?_ ?_ _ _ ⟨rfl,rfl,hy⟩
 ·rintro v aY r s' ⟨hr,rfl,hall⟩
  obtain⟨c,k',rfl,hc⟩:=hall v EW;have nx:∀y∈aY,∃c k',y=.ref c/\TKy prog w s'.heap k' c:=fun y hy=>hall y (E3 _ hy);dsimp only
  split
  ·exact EJ ⟨rfl,rfl,nx⟩
  ·refine EF (MJ hk ?_)
   simp only[GZ,Fe,if_false];refine EF (MJ hc ?_);simp only[GZ,Fe,if_false];refine EF (yp hk ?_ 7);simp only[Fe,if_false];refine EF (yp hc ?_ 7);simp only[Fe,if_false];exact EJ ⟨rfl,rfl,nx⟩
 ·rintro⟨r1,r2⟩ s' ⟨hr,rfl,_⟩
  simp only at hr;subst hr;exact EJ h
end
end L2
end
section
namespace L2
open PySem PySem.SetTable
theorem kB{m i:Nat}(h:i<=m):runEnd m i<=m:=by
 unfold runEnd
 split<;>omega
theorem kC(m i:Nat):i<=runEnd m i:=by
 unfold runEnd
 split<;>omega
theorem Dp{m:Nat}{p:Probe}(h:p.j+p.more<=m):(cX m p).j+(cX m p).more<=m:=by
 unfold cX
 split
 ·show p.j+1+(p.more-1)<=m
  omega
 ·show(leap m p.i p.perturb).1+(runEnd m (leap m p.i p.perturb).1-(leap m p.i p.perturb).1)<=m
  have h1:(leap m p.i p.perturb).1<=m:=Hq (Jb _ (Hm _));have:=kB h1;have:=kC m (leap m p.i p.perturb).1;omega
theorem A9{m:Nat}:∀(k:Nat){p:Probe},p.j+p.more<=m->(itM m p k).j+(itM m p k).more<=m
 |0,_,h=>h
 |k+1,_,h=>A9 k (Dp h)
theorem Ez(m:Nat)(h:Int)(k:Nat):(itM m (bD m h) k).j<=m:=by
 have h1:bits h%(m+1)<=m:=Hq (Jb _ (Hm _));have:=kB h1;have:=kC m (bits h%(m+1));have:=A9 k (m:=m) (p:=bD m h) (by show bits h%(m+1)+(runEnd m (bits h%(m+1))-bits h%(m+1))<=m;omega);omega
theorem sK{m:Nat}:∀(k:Nat){p:Probe},p.dummy=none->(itM m p k).dummy=none
 |0,_,h=>h
 |k+1,p,h=>sK k (by unfold cX;split<;>exact h)
theorem bd.at{α β:Type}{F:α->β->Prop}{l:List α}{m:List β}(h:bd F l m):∀{i:Nat} {b:β},m[i]?=some b->∃a,l[i]?=some a/\F a b:=by
 induction h with
 |nil=>intro i b e;cases e
 |cons r _ ih=>
  intro i b e;cases i with
  |zero=>cases e;exact⟨_,rfl,r⟩
  |succ i=>exact ih e
theorem bd.at2{α β:Type}{F:α->β->Prop}{l:List α}{m:List β}(h:bd F l m):∀{i:Nat} {a:α},l[i]?=some a->∃b,m[i]?=some b/\F a b:=by
 induction h with
 |nil=>intro i b e;cases e
 |cons r _ ih=>
  intro i b e;cases i with
  |zero=>cases e;exact⟨_,rfl,r⟩
  |succ i=>exact ih e
section
variable{prog:Program}{w:World}{A:Around}{E:Value->Shared->Prop}{s:Shared}
theorem Ab{α:Type}{c:Bool}{M:Sem Bool}{X T:Sem α}{Q:α->Shared->Prop}(hM:wpAny (model prog w) A M (fun r s'=>r=false/\s'=s) E s)(hT:wpAny (model prog w) A T Q E s):wpAny (model prog w) A (if c=true then(M>>=fun r=>if r=true then X else T)else T) Q E s:=by
 split
 ·refine EF (F7 hM (fun r s' h=>?_) fun _ _ e=>e)
  obtain⟨rfl,rfl⟩:=h;rw[if_neg EU];exact hT
 ·exact hT
theorem Ac(c:Addr):isSame (.ref c) (.ref c)=pure true:=by
 unfold isSame;dsimp only;rw[if_pos (beq_self_eq_true _)]
theorem Ad{a b:Addr}{o:Obj}{es:Array (Int×Value)}{ep:Nat}{t:E4}{ks:List (List Int)}{kx:List Int}{Q:SetFound->Shared->Prop}(hu:A.units<cLine)(g1:s.heap.get? a=some o)(g3:o.data=.set es ep t)(ft:t.fits es.size=true)(ok:jy t (es.toList.map (·.1)))
  (pr:bd (i8 prog w s.heap) ks es.toList) (hk:TKy prog w s.heap kx b) (q1:kx∈ks->Q (.there none) s)
  (q2:kx∉ks->∀j,j<=t.mask->j∉t.place.toList->mT t.mask (bC prog w kx) t.place.toList j->Q (.free j false) s):
  wpAny (model prog w) A (setSearch a (.ref b) (bC prog w kx) true) Q E s:=by
 have hPl:t.place.toList.length<=t.mask:=by
  have:=ok.room;have:=ok.len;omega
 obtain⟨N,hN,n1,n2⟩:=vY ok.mask hPl (jx t.mask (bC prog w kx));have hN2:N<100000:=by
  have:=ok.mask.small;unfold turns at hN;omega
 have main:∀(d k fuel:Nat)(stand:Option Probe),N=k+d->d<fuel->stand.getD (t.probeStart (bC prog w kx))=itM t.mask (bD t.mask (bC prog w kx)) k->
   (∀(k' i:Nat)(ki:List Int),k'<k->t.place.toList[i]?=some (itM t.mask (bD t.mask (bC prog w kx)) k').j->ks[i]?=some ki->ki≠kx)->
   wpAny (model prog w) A (setSearchFrom a (.ref b) (bC prog w kx) true fuel stand) Q E s:=by
  intro d
  induction d using OO with
  |ind d ih=>
   intro k fuel stand hkd hf hst hno;cases fuel with
   |zero=>exact absurd hf (Gm _)
   |succ fuel=>
    have hrel:∀kk,itM t.mask (itM t.mask (bD t.mask (bC prog w kx)) k) kk=itM t.mask (bD t.mask (bC prog w kx)) (k+kk):=fun kk=>(iN t.mask k kk _).symm;unfold setSearchFrom;apply EF;apply FW g1 g3 ft;dsimp only;rw[if_neg (by unfold E4.gaveWay;rw[ok.mask.odd];exact EU),hst];have gm:∀f:Nat->Int,_:=fun f=>sJ ok.dum ok.rs f (bC prog w kx) d (10*turns t.mask) (itM t.mask (bD t.mask (bC prog w kx)) k) (sK k rfl) (by omega) (by rw[hrel,<-hkd];exact n1) (fun kk hkk=>by rw[hrel];exact n2 _ (by omega))
    split
    ·rename_i met heq
     obtain⟨f,hf1,hf2⟩:∃f:Nat->Int,Hh t f (bC prog w kx) (itM t.mask (bD t.mask (bC prog w kx)) k)=some met/\∀i,f i=(es[i]?.map (·.1)).getD 0:=⟨_,heq,fun _=>rfl⟩;rcases gm f with⟨e1,e2⟩|⟨kk,i,c1,c2,c3,c4,c5⟩
     ·have hm:some met=some (Met.empty (itM t.mask (itM t.mask (bD t.mask (bC prog w kx)) k) d).j none):=hf1.symm.trans e1
      injection hm with hm
      subst hm;dsimp only;apply EJ;rw[hrel,<-hkd];refine q2 (fun hin=>?_) _ (Ez _ _ _) n1 ⟨N,rfl,n2⟩;obtain⟨i0,hi0⟩:=Kx hin;obtain⟨e0,he0,c0,hc0,_,hh0⟩:=pr.at2 hi0;have hi1:i0<t.place.toList.length:=by
       rw[ok.len,EI];exact(EK.mp he0).1
      obtain⟨k0,hk0,hb0⟩:=ok.road i0 _ (bC prog w kx) (EG hi1) (by rw[EO,he0,<-hh0];rfl);rcases GG k0 N with z|z|z
      ·by_cases hlt:k0<k
       ·exact hno k0 i0 kx hlt (by rw[hk0];exact EG hi1) hi0 rfl
       ·refine e2 (k0-k) i0 (by omega) (by rw[hrel,show k+(k0-k)=k0 by omega,hk0];exact EG hi1) ?_
        rw[hf2,<-Fq,he0];exact hh0
      ·subst z
       rw[hk0]at n1;exact n1 (GK hi1)
      ·exact n1 (hb0 N z)
     ·have hm:some met=some (Met.candidate (itM t.mask (itM t.mask (bD t.mask (bC prog w kx)) k) kk).j i (itM t.mask (itM t.mask (bD t.mask (bC prog w kx)) k) (kk+1))):=hf1.symm.trans c5
      injection hm with hm
      subst hm;dsimp only;have hil:i<es.toList.length:=by
       have:=(EK.mp c2).1;rw[ok.len,EI]at this;exact this
      obtain⟨e0,he0⟩:∃e0,es.toList[i]?=some e0:=⟨_,EG hil⟩;obtain⟨ki,hki,c0,hc0,hkc,hhc⟩:=pr.at he0;obtain⟨hh,y⟩:=e0;simp only at hc0 hhc;subst hc0;have hei:es[i]?=some (hh,.ref c0):=by rw[<-Fq];exact he0
      rw[hei];dsimp only;have hsl:t.slot (itM t.mask (itM t.mask (bD t.mask (bC prog w kx)) k) kk).j=.live i:=jV ok.rs c2;have hys:∀y∈((es.filter fun x=>x.fst==bC prog w kx).toList.map fun x=>x.snd),∃c k',y=.ref c/\TKy prog w s.heap k' c:=fun y hy=>by
       obtain⟨e,he,rfl⟩:=FB.mp hy;rw[Array.toList_filter]at he;obtain⟨a',_,c',hc',hk',_⟩:=pr.right e (Gv.mp he).1;exact⟨c',a',hc',hk'⟩
      refine Ab (Do hk _ hys ⟨rfl,rfl⟩) ?_;refine EF (FV (K5 hu hkc hk ?_));apply EF;apply FW g1 g3 ft;by_cases hkk:ki=kx
      ·rw[decide_eq_true hkk,if_pos (show(true&&true)=true from rfl)]
       exact EJ (q1 (hkk▸E2 hki))
      ·rw[decide_eq_false hkk,if_neg (show¬(true&&false)=true by decide)]
       dsimp only;rw[show t.sameMemory t.moves t.mask=some true by unfold E4.sameMemory;rw[if_pos (beq_self_eq_true _)]];dsimp only;rw[if_pos rfl,hsl];dsimp only;rw[hei];dsimp only;refine EF ?_;refine HZ (Ac c0) ?_;rw[if_pos rfl];refine EF (EJ ?_);dsimp only;rw[if_neg EU];refine ih (d-(kk+1)) (by omega) (k+(kk+1)) fuel (some _) (by omega) (by omega) (by rw[<-hrel];rfl) fun k' i' ki' hk' hi' hki'=>?_;rcases GG k' (k+kk)with z|z|z
       ·by_cases hlt:k'<k
        ·exact hno k' i' ki' hlt hi' hki'
        ·intro e
         obtain⟨e1,he1,c1',hc1,_,hh1⟩:=pr.at2 hki';refine c4 (k'-k) i' (by omega) (by rw[hrel,show k+(k'-k)=k' by omega];exact hi') ?_;rw[hf2,<-Fq,he1,<-e];exact hh1
       ·have h1:=jV ok.rs hi'
        rw[z,<-hrel,hsl]at h1;injection h1 with h1
        rw[<-h1,hki]at hki';injection hki' with hki'
        rw[<-hki'];exact hkk
       ·omega
    ·rename_i heq
     obtain⟨f,hf1⟩:∃f:Nat->Int,∀met,Hh t f (bC prog w kx) (itM t.mask (bD t.mask (bC prog w kx)) k)=some met->False:=⟨_,heq⟩;rcases gm f with⟨e1,_⟩|⟨_,_,_,_,_,_,c5⟩
     ·exact(hf1 _ e1).elim
     ·exact(hf1 _ c5).elim
 exact main N 0 100000 none (by omega) hN2 rfl fun k' i ki z=>absurd z (Gm _)
end
end L2
end
section
namespace L2
open PySem PySem.SetTable
noncomputable def dy(ow:Array (Option Nat))(j:Nat):Prop:=∃k,ow[j]?=some (some k)
noncomputable def Ba(m:Nat)(p:Probe)(occ:Nat->Prop)(j:Nat):Prop:=∃k,(itM m p k).j=j/\∀k',k'<k->occ (itM m p k').j
structure vZ(m:Nat)(p:Probe):Prop where
 j:p.j=p.i
 more:p.more=runEnd m p.i-p.i
 i:p.i<=m
theorem t7(m:Nat)(h:Int):vZ m (bD m h):=⟨rfl,rfl,Hq (Jb _ (Hm _))⟩
theorem Ae(m:Nat)(p:Probe):vZ m (lpM m p):=⟨rfl,rfl,Hq (Jb _ (Hm _))⟩
theorem ol(m:Nat):∀(k:Nat)(p:Probe),k<=p.more->(itM m p k).j=p.j+k
 |0,p,_=>rfl
 |k+1,p,h=>by
  show(itM m (cX m p) k).j=_;have e:cX m p={ p with j:=p.j+1,more:=p.more-1 }:=by
   unfold cX;rw[if_pos (by omega)]
  rw[e,ol m k _ (by show k<=p.more-1;omega)];show p.j+1+k=p.j+(k+1);omega
theorem om{m:Nat}{ow:Array (Option Nat)}(hz:ow.size=m+1):∀(L fuel:Nat)(p:Probe),vZ m p->L<fuel->¬dy ow (lpN m p L).j->∃j,layClean.free m ow fuel p.i p.perturb=some j/\j<=m/\¬dy ow j/\Ba m p (dy ow) j
 |L,0,p,_,hf,_=>absurd hf (Gm _)
 |L,fuel+1,p,ar,hf,hn=>by
  have hre:=kB ar.i;have hrg:=kC m p.i;have nn:∀k,k<=p.more->((ow.getD (p.i+k) (some 0)).isNone=true↔¬dy ow (p.i+k)):=fun k hk=>by
   have hlt:p.i+k<ow.size:=by
    have:=ar.more;omega
   rw[Kv,dif_pos hlt];unfold dy;rw[F0 hlt];have gi:ow.getInternal (p.i+k) hlt=ow[p.i+k]:=rfl;rw[gi];cases e:ow[p.i+k]with
   |none=>
    refine⟨fun _ z=>?_,fun _=>rfl⟩;obtain⟨k',z⟩:=z;injection z with z
    cases z
   |some v=>
    refine⟨fun z=>?_,fun z=>absurd ⟨v,rfl⟩ z⟩;cases z
  unfold layClean.free;cases hfd:(EY (runEnd m p.i+1-p.i)).find? fun k=>(ow.getD (p.i+k) (some 0)).isNone with
  |some k=>
   dsimp only;obtain⟨h1,h2⟩:=List.find?_eq_some_iff_getElem.mp hfd;obtain⟨i0,hi0,e0,hb⟩:=h2;rw[Fw]at hi0;rw[HK]at e0;subst e0;have hm:=ar.more;refine⟨p.i+i0,rfl,by omega,(nn i0 (by omega)).mp h1,i0,by rw[ol m i0 p (by omega),ar.j],fun k' hk'=>?_⟩;rw[ol m k' p (by omega),ar.j];have:=hb k' hk';rw[HK]at this;by_cases q:dy ow (p.i+k')
   ·exact q
   ·rw[(nn k' (by omega)).mpr q]at this
    cases this
  |none=>
   dsimp only;have hm:=ar.more;have all:=List.find?_eq_none.mp hfd;have occ:∀k,k<=p.more->dy ow (p.i+k):=fun k hk=>by
    by_cases q:dy ow (p.i+k)
    ·exact q
    ·exact absurd ((nn k hk).mpr q) (all k (Ff.mpr (by omega)))
   cases L with
   |zero=>
    have:dy ow p.j:=by rw[ar.j];exact occ 0 (Fy _)
    exact absurd this hn
   |succ L=>
    obtain⟨j,g1,g2,g3,k,g4,g5⟩:=om hz L fuel (lpM m p) (Ae m p) (by omega) hn;refine⟨j,g1,g2,g3,(p.more+1)+k,by rw[iN,lN m p.more p rfl];exact g4,fun k' hk'=>?_⟩;by_cases hlt:k'<=p.more
    ·rw[ol m k' p hlt,ar.j]
     exact occ k' hlt
    ·have:=g5 (k'-(p.more+1)) (by omega)
     rw[<-lN m p.more p rfl,<-iN,show p.more+1+(k'-(p.more+1))=k' by omega]at this;exact this
theorem EA{m:Nat}(hm:b9 m)(h:Int){j:Nat}(hj:j<=m):∃L,L<turns m/\(lpN m (bD m h) L).j=j:=by
 obtain⟨k1,b1,e1⟩:=qR m 13 _ (jx m h);have v1:Val m (lpN m (bD m h) 13):=by rw[<-e1];exact sH k1 (jx m h)
 have p0:(lpN m (bD m h) 13).perturb=0:=by
  rw[sI];exact Oy (E8 (jx m h).pt (by decide))
 obtain⟨L,hL,eL⟩:=A8 hm v1.i hj;have add:∀(a b:Nat)(p:Probe),lpN m p (a+b)=lpN m (lpN m p a) b:=by
  intro a
  induction a with
  |zero=>intro b p;rw[IQ];rfl
  |succ a ih=>intro b p;rw[K9];exact ih b (lpM m p)
 refine⟨13+(L+1),by unfold turns;omega,?_⟩;rw[add,mS m L _ p0,eL]
end L2
end
section
namespace L2
open PySem PySem.SetTable
structure LI(m:Nat)(hs:List Int)(ow:Array (Option Nat))(r:Nat):Prop where
 size:ow.size=m+1
 lt:∀(j k:Nat),ow[j]?=some (some k)->k<r
 road:∀(j k:Nat)(h:Int),ow[j]?=some (some k)->hs[k]?=some h->Ba m (bD m h) (dy ow) j
 all:∀k,k<r->∃j:Nat,ow[j]?=some (some k)
 inj:∀(j j' k:Nat),ow[j]?=some (some k)->ow[j']?=some (some k)->j=j'
theorem LI.free{m:Nat}{hs:List Int}{ow:Array (Option Nat)}{r:Nat}(L:LI m hs ow r)(hr:r<=m):∃j,j<=m/\¬dy ow j:=by
 by_cases e:∃j,j<=m/\¬dy ow j
 ·exact e
 ·have all:∀j,j<=m->dy ow j:=fun j hj=>by
   by_cases q:dy ow j
   ·exact q
   ·exact absurd ⟨j,hj,q⟩ e
  let g:Nat->Nat:=fun j=>((ow[j]?).getD none).getD 0
  have hg:∀j,j<=m->ow[j]?=some (some (g j)):=fun j hj=>by
   obtain⟨k,hk⟩:=all j hj;show _=some (some (((ow[j]?).getD none).getD 0));rw[hk];rfl
  have nd:((EY (m+1)).map g).Nodup:=by
   refine JY.mpr (LX (fun{a b} ha hb hab e=>hab ?_) LW);have ha:=Ff.mp ha;have hb:=Ff.mp hb;have h1:=hg a (by omega);have h2:=hg b (by omega);rw[e]at h1;exact L.inj _ _ _ h1 h2
  have:=yn (m:=EY r) nd fun x hx=>by
   obtain⟨j,hj,rfl⟩:=FB.mp hx;have hj:=Ff.mp hj;exact Ff.mpr (L.lt _ _ (hg j (by omega)))
  rw[EI,Fw,Fw]at this;omega
theorem B4{ow:Array (Option Nat)}{j r x:Nat}(hj:j<ow.size):dy (ow.setIfInBounds j (some r)) x↔x=j\/dy ow x:=by
 unfold dy;rw[Hx];by_cases e:j=x
 ·subst e
  rw[if_pos rfl,if_pos hj];exact⟨fun _=>.inl rfl,fun _=>⟨r,rfl⟩⟩
 ·rw[if_neg e]
  exact⟨.inr,fun z=>z.resolve_left (Ge e)⟩
theorem LI.put{m:Nat}{hs:List Int}{ow:Array (Option Nat)}{r:Nat}{h:Int}(hm:b9 m)(L:LI m hs ow r)(hr:r<=m)(hh:hs[r]?=some h):
  ∃j,layClean.free m ow (turns m) (bits h%(m+1)) (bits h)=some j/\LI m hs (ow.setIfInBounds j (some r)) (r+1):=by
 obtain⟨j0,hj0,hn0⟩:=L.free hr;obtain⟨l,hl,el⟩:=EA hm h hj0;obtain⟨j,g1,g2,g3,g4⟩:=om L.size l (turns m) (bD m h) (t7 m h) hl (by rw[el];exact hn0);have hjs:j<ow.size:=by rw[L.size];omega
 refine⟨j,g1,?_⟩;have at_:∀(x k:Nat),(ow.setIfInBounds j (some r))[x]?=some (some k)->(x=j/\k=r)\/(x≠j/\ow[x]?=some (some k)):=fun x k e=>by
  rw[Hx]at e;by_cases q:j=x
  ·subst q
   rw[if_pos rfl,if_pos hjs]at e;injection e with e
   injection e with e
   exact .inl ⟨rfl,e.symm⟩
  ·rw[if_neg q]at e
   exact .inr ⟨Ge q,e⟩
 have old:∀x,dy ow x->dy (ow.setIfInBounds j (some r)) x:=fun x q=>(B4 hjs).mpr (.inr q);refine⟨by rw[Array.size_setIfInBounds];exact L.size,fun x k e=>?_,fun x k h' e he=>?_,fun k hk=>?_,fun x x' k e e'=>?_⟩
 ·rcases at_ x k e with⟨_,rfl⟩|⟨_,q⟩
  ·exact Gq _
  ·exact FS (L.lt _ _ q)
 ·rcases at_ x k e with⟨rfl,rfl⟩|⟨_,q⟩
  ·rw[hh]at he
   injection he with he
   subst he;obtain⟨k,k1,k2⟩:=g4;exact⟨k,k1,fun k' z=>old _ (k2 k' z)⟩
  ·obtain⟨k,k1,k2⟩:=L.road _ _ _ q he
   exact⟨k,k1,fun k' z=>old _ (k2 k' z)⟩
 ·by_cases z:k=r
  ·subst z
   exact⟨j,by rw[Hx,if_pos rfl,if_pos hjs]⟩
  ·obtain⟨x,hx⟩:=L.all k (by omega)
   refine⟨x,?_⟩;rw[Hx,if_neg (fun q=>g3 (by rw[q];exact⟨k,hx⟩))];exact hx
 ·rcases at_ x k e with⟨rfl,rfl⟩|⟨_,q⟩
  ·rcases at_ x' k e' with⟨z,_⟩|⟨_,q'⟩
   ·exact z.symm
   ·exact absurd (L.lt _ _ q') (FM _)
  ·rcases at_ x' k e' with⟨_,z⟩|⟨_,q'⟩
   ·subst z
    exact absurd (L.lt _ _ q) (FM _)
   ·exact L.inj _ _ _ q q'
theorem sL{m:Nat}(hm:b9 m){hs:List Int}(hn:hs.length<=m){g:Option (Array (Option Nat)×Nat)->Int->Option (Array (Option Nat)×Nat)}(hg:∀(ow:Array (Option Nat))(k:Nat)(h:Int)(j:Nat),layClean.free m ow (turns m) (bits h%(m+1)) (bits h)=some j->g (some (ow,k)) h=some (ow.setIfInBounds j (some k),k+1)):
  ∀(aY pre:List Int)(ow:Array (Option Nat)),hs=pre++aY->LI m hs ow pre.length->∃ow',aY.foldl g (some (ow,pre.length))=some (ow',hs.length)/\LI m hs ow' hs.length
 | [],pre,ow,e,L=>by
  rw[Gw]at e;subst e;exact⟨ow,rfl,L⟩
 |h::aY,pre,ow,e,L=>by
  have hr:hs[pre.length]?=some h:=by rw[e,FN (EM _),HI];rfl
  have hl:pre.length<=m:=by
   have:=(EK.mp hr).1;omega
  obtain⟨j,j1,j2⟩:=L.put hm hl hr;rw[List.foldl_cons,hg ow pre.length h j j1];have:=sL hm hn hg aY (pre++[h]) (ow.setIfInBounds j (some pre.length)) (by rw[IG];exact e) (by rw[EX];exact j2);rw[EX]at this;exact this
theorem B5{m:Nat}(hm:b9 m){hs:Array Int}(hn:hs.size<=m){g:Option (Array (Option Nat)×Nat)->Int->Option (Array (Option Nat)×Nat)}(hg:∀(ow:Array (Option Nat))(k:Nat)(h:Int)(j:Nat),layClean.free m ow (turns m) (bits h%(m+1)) (bits h)=some j->g (some (ow,k)) h=some (ow.setIfInBounds j (some k),k+1)):
  ∃ow,Option.map (fun x=>x.1) (hs.toList.foldl g (some (Ju (m+1) none,0)))=some ow/\LI m hs.toList ow hs.size:=by
 have L0:LI m hs.toList (Ju (m+1) none) 0:=by
  have no:∀(j k:Nat),(Ju (m+1) (none:Option Nat))[j]?=some (some k)->False:=fun j k e=>by
   rw[Array.getElem?_replicate]at e
   split at e
   ·injection e with e
    cases e
   ·cases e
  exact⟨Array.size_replicate,fun j k e=>(no j k e).elim,fun j k h e=>(no j k e).elim,fun k z=>absurd z (Gm _),fun j j' k e=>(no j k e).elim⟩
 obtain⟨ow,e1,e2⟩:=sL hm (hs:=hs.toList) (by rw[E9];exact hn) hg hs.toList [] (Ju (m+1) none) rfl L0;rw[E9]at e1 e2;have e1':hs.toList.foldl g (some (Ju (m+1) none,0))=some (ow,hs.size):=e1;exact⟨ow,by rw[e1'];rfl,e2⟩
theorem Dq{m:Nat}(hm:b9 m)(hs:Array Int)(hn:hs.size<=m):∃ow,layClean m hs=some ow/\LI m hs.toList ow hs.size:=by
 unfold layClean;rw[<-Array.foldl_toList];exact B5 hm hn fun ow k h j hj=>by
  show(layClean.free m ow (turns m) (bits h%(m+1)) (bits h)>>=fun j=>pure (ow.setIfInBounds j (some k),k+1))=_;rw[hj];rfl
theorem v5{α β:Type}{g:α->Option β}:∀{l:List α},(∀x∈l,(g x).isSome=true)->∀i:Nat,(l.filterMap g)[i]?=l[i]?.bind g
 | [],_,i=>rfl
 |x::l,h,i=>by
  cases e:g x with
  |none=>have:=h x EW;rw[e]at this;cases this
  |some y=>
   rw[Ij,e];cases i with
   |zero=>exact e.symm
   |succ i=>exact v5 (fun z hz=>h z (E3 _ hz)) i
theorem yq{α:Type}(es:Array α):(EY es.size).filterMap (fun k=>es[k]?)=es.toList:=by
 refine G2 fun i=>?_;rw[v5 fun x hx=>by rw[F0 (Ff.mp hx)];rfl];by_cases h:i<es.size
 ·rw[Gp h,Fq]
  rfl
 ·rw[FI (by rw[Fw];omega),FI (by rw[E9];omega)]
  rfl
theorem B6{m finger moves:Nat}{led plain:Bool}(hm:b9 m)(es:Array (Int×Value))(hn:es.size*5<m*3):
  ∃t order,laid m finger moves led plain (es.map (·.1))=some (t,order)/\t.led=led/\(order.filterMap (es[·]?)).toList.Perm es.toList/\jy t ((order.filterMap (es[·]?)).toList.map (·.1)):=by
 have hz:(es.map (·.1)).size=es.size:=Array.size_map;obtain⟨ow,e1,L⟩:=Dq hm (es.map (·.1)) (by rw[hz];omega);rw[hz]at L;have hlaid:laid m finger moves led plain (es.map (·.1))=some ({ mask:=m,place:=(((EY (m+1)).filterMap fun j=>(ow.getD j none).map (j,·)).map (·.1)).toArray,dummies:=#[],finger,led,moves,plain },(((EY (m+1)).filterMap fun j=>(ow.getD j none).map (j,·)).map (·.2)).toArray):=by
  unfold laid;rw[e1];rfl
 have rsl:=BY hlaid;generalize hlv:((EY (m+1)).filterMap fun j=>(ow.getD j none).map (j,·))=live at hlaid rsl;have mem:∀j k,(j,k)∈live↔ow[j]?=some (some k):=fun j k=>by
  rw[<-hlv,HF];have gd:∀x,x<m+1->ow.getD x none=(ow[x]?).getD none:=fun x hx=>by
   rw[Kv,dif_pos (by rw[L.size];exact hx),F0 (by rw[L.size];exact hx)];rfl
  constructor
  ·rintro⟨x,hx,e⟩
   have hx:=Ff.mp hx;obtain⟨k',hk',e'⟩:=J3.mp e;injection e' with e3 e4
   subst e3 e4;rw[gd x hx]at hk';cases q:ow[x]? with
   |none=>rw[q]at hk';cases hk'
   |some v=>rw[q]at hk';rw[show v=some k' from hk']
  ·intro e
   have hj:j<m+1:=by rw[<-L.size];exact(Lm.mp e).1
   refine⟨j,Ff.mpr hj,?_⟩;rw[gd j hj,e];rfl
 have rs:Rs (live.map (·.1)):=by simpa using rsl.1
 have ndl:live.Nodup:=(JY.mp rs).imp fun{a b} h e=>by rw[e]at h;exact FM _ h
 have ndo:(live.map (·.2)).Nodup:=by
  refine JY.mpr (LX (fun{a b} ha hb hab e=>hab ?_) ndl);obtain⟨a1,a2⟩:=a;obtain⟨b1,b2⟩:=b;have h1:=(mem a1 a2).mp ha;have h2:=(mem b1 b2).mp hb;have e':a2=b2:=e;subst e';rw[L.inj _ _ _ h1 h2]
 have po:(live.map (·.2)).Perm (EY es.size):=(List.perm_ext_iff_of_nodup ndo LW).mpr fun k=>by
  rw[Ff,FB];constructor
  ·rintro⟨⟨j,k'⟩,h,rfl⟩
   exact L.lt _ _ ((mem j k').mp h)
  ·intro h
   obtain⟨j,hj⟩:=L.all k h;exact⟨(j,k),(mem j k).mpr hj,rfl⟩
 have some_:∀x∈live.map (·.2),(es[x]?).isSome=true:=fun x hx=>by
  rw[F0 (Ff.mp (po.mem_iff.mp hx))];rfl
 have tl:((live.map (·.2)).toArray.filterMap (es[·]?)).toList=(live.map (·.2)).filterMap (fun k=>es[k]?):=by simp
 refine⟨_,_,hlaid,rfl,?_,?_⟩
 ·rw[tl]
  have:=po.filterMap fun k=>es[k]?
  rwa [yq]at this
 ·rw[tl]
  have hlen:((live.map (·.2)).filterMap fun k=>es[k]?).length=es.size:=by
   have:=(po.filterMap fun k=>es[k]?).length_eq
   rwa [yq,E9]at this
  have hll:live.length=es.size:=by
   have:=po.length_eq
   rwa [EI,Fw]at this
  refine⟨hm,rfl,by simpa using rs,by rw[EI (f:=fun x:Int×Value=>x.1),hlen];simpa using hll,by rw[EI,hlen];exact hn,fun j hj=>?_,fun i j h hj hh=>?_⟩
  ·have hj':j∈live.map (·.1):=by simpa using hj
   obtain⟨⟨j',k'⟩,h1,rfl⟩:=FB.mp hj';have:=(Lm.mp ((mem j' k').mp h1)).1;rw[L.size]at this;exact Hq this
  ·have hj':(live.map (·.1))[i]?=some j:=by simpa using hj
   rw[EO]at hj';obtain⟨⟨j',k'⟩,h1,rfl⟩:=J3.mp hj';have hm':=(mem j' k').mp (E2 h1);rw[EO,v5 some_,EO,h1]at hh;have hh':(es[k']?).map (·.1)=some h:=hh;obtain⟨k,k1,k2⟩:=L.road j' k' h hm' (by rw[LY,EO,Fq];exact hh');refine⟨k,k1,fun k'' z=>?_⟩;obtain⟨v,hv⟩:=k2 k'' z;have:(itM m (bD m h) k'').j∈live.map (·.1):=FB.mpr ⟨(_,v),(mem _ v).mpr hv,rfl⟩;simpa using this
end L2
end
section
namespace L2
open PySem PySem.SetTable
section
variable{prog:Program}{w:World}{A:Around}{E:Value->Shared->Prop}{s:Shared}
noncomputable def cY(prog:Program)(w:World)(X:Addr->Prop)(h:Heap)(a:Addr)(ks:List (List Int))(led:Bool):Prop:=
 ∃o es ep t,h.get? a=some o/\o.ExactSet/\o.data=.set es ep t/\bd (i8 prog w h) ks es.toList/\ks.Nodup/\jy t (es.toList.map (·.1))/\t.fits es.size=true/\t.led=led/\∀e∈es.toList,∀b,e.2=.ref b->¬X b
theorem TKy.keep{h h':Heap}{k:List Int}{b:Addr}(x:TKy prog w h k b)(e:∀o,h.get? b=some o->h'.get? b=some o):TKy prog w h' k b:=by
 obtain⟨o,items,n,ho,r⟩:=x;exact⟨o,items,n,e _ ho,r⟩
theorem TKy.ne_set{h:Heap}{k:List Int}{b a:Addr}{o:Obj}(x:TKy prog w h k b)(g1:h.get? a=some o)(g2:o.ExactSet):b≠a:=fun e=>by
 obtain⟨o',items,n,ho,hc,_⟩:=x;rw[e,g1]at ho;injection ho with ho
 rw[<-ho,g2.1]at hc;exact absurd hc (by decide)
theorem sM{X:Addr->Prop}{h h':Heap}(hk:∀b o,¬X b->h.get? b=some o->h'.get? b=some o):∀{ks:List (List Int)} {l:List (Int×Value)},(∀e∈l,∀b,e.2=.ref b->¬X b)->bd (i8 prog w h) ks l->bd (i8 prog w h') ks l
 |_,_,_,.nil=>.nil
 |_,_,hX,.cons r t=>.cons (by
   obtain⟨b,e1,e2,e3⟩:=r;exact⟨b,e1,TKy.keep e2 fun o' ho=>hk b o' (hX _ EW b e1) ho,e3⟩) (sM hk (fun e he=>hX e (E3 _ he)) t)
theorem cY.at{X:Addr->Prop}{h h':Heap}{a:Addr}{ks:List (List Int)}{led:Bool}(r:cY prog w X h a ks led)(ha:∀o,h.get? a=some o->h'.get? a=some o)(hk:∀b o,¬X b->h.get? b=some o->h'.get? b=some o):cY prog w X h' a ks led:=by
 obtain⟨o,es,ep,t,g1,g2,g3,pr,nd,ok,ft,ld,hX⟩:=r;exact⟨o,es,ep,t,ha _ g1,g2,g3,sM hk hX pr,nd,ok,ft,ld,hX⟩
theorem B7{t:E4}{n:Nat}(h1:t.place.toList.length=n)(hd:t.dummies=#[])(h2:n<=t.mask):t.fits n=true:=by
 unfold Ln Ng;rw[hd];rw[E9]at h1;simp[h1,h2]
theorem jy.fits{t:E4}{hs:List Int}(ok:jy t hs):t.fits hs.length=true:=B7 ok.len ok.dum (by have:=ok.room;omega)
theorem B8{t:E4}{hs:List Int}{j:Nat}{h:Int}(ok:jy t hs)(hj:j<=t.mask)(hn:j∉t.place.toList)(r:mT t.mask h t.place.toList j)(room:(hs.length+1)*5<t.mask*3):
  (t.put j).1.dummies=#[]/\(t.put j).1.mask=t.mask/\(t.put j).1.led=t.led/\jy (t.put j).1 (hs.take (t.put j).2++h::hs.drop (t.put j).2):=by
 have hd:(t.put j).1.dummies=#[]:=by
  unfold E4.put;dsimp only;rw[ok.dum];rfl
 have hp:(t.put j).1.place.toList=t.place.toList.take (t.put j).2++j::t.place.toList.drop (t.put j).2:=Ih ..;have hb:(t.put j).2<=t.place.toList.length:=by
  rw[E9];exact(dw t.place j ok.rs).1
 have sub:∀x∈t.place.toList,x∈(t.put j).1.place.toList:=fun x hx=>by
  rw[hp];rw[<-FZ (t.put j).2 t.place.toList]at hx;rcases FC.mp hx with z|z
  ·exact F6 _ z
  ·exact FY _ (E3 _ z)
 have hl:=ok.len;refine⟨hd,rfl,rfl,ok.mask,hd,Dn t.place ok.rs hn,?_,?_,?_,?_⟩
 ·rw[hp,EX,EX,Fu,Fu,Fo,Fo,Gz,Gz]
  omega
 ·show _<t.mask*3
  rw[EX,Fu,Fo,Gz];omega
 ·intro x hx
  show x<=t.mask;rw[hp]at hx;rcases FC.mp hx with z|z
  ·exact ok.le x ((Ls _ _).subset z)
  ·rcases EV.mp z with z|z
   ·rw[z];exact hj
   ·exact ok.le x ((N3 _ _).subset z)
 ·intro i x h' hx hh
  show mT t.mask h' (t.put j).1.place.toList x;generalize hq:(t.put j).2=p at *;rw[hp]at hx;rcases GG i p with z|z|z
  ·rw[Gb (by rw[Fo];omega),Lb,if_pos z]at hx hh
   exact(ok.road i x h' hx hh).mono sub
  ·subst z
   rw[FN (by rw[Fo];omega),Fo,Iv hb,HI]at hx;rw[FN (by rw[Fo];omega),Fo,Iv (by omega),HI]at hh;injection hx with hx
   injection hh with hh
   subst hx hh;exact r.mono sub
  ·rw[FN (by rw[Fo];omega),Fo,Iv hb,show i-p=(i-p-1)+1 by omega,JN,JF,show p+(i-p-1)=i-1 by omega]at hx
   rw[FN (by rw[Fo];omega),Fo,Iv (by omega),show i-p=(i-p-1)+1 by omega,JN,JF,show p+(i-p-1)=i-1 by omega]at hh;exact(ok.road (i-1) x h' hx hh).mono sub
end
end L2
end
section
namespace L2
open PySem PySem.SetTable
section
variable{prog:Program}{w:World}{A:Around}{E:Value->Shared->Prop}{s:Shared}
theorem Af{k:List Int}{b:Addr}{n:Nat}{Q:Bool->Shared->Prop}(hk:TKy prog w s.heap k b)(h:Q true s):wpAny (model prog w) A (hashByValue (n+1) (.ref b)) Q E s:=by
 have hT:=hk.typeIs;obtain⟨o,items,m,ho,hc,hd,hi⟩:=hk;unfold hashByValue;refine EF (Gx hT PySem.F.slot_tuple_hash.lookup ?_);dsimp only;refine EF (FG ho hd ?_);refine EF ?_;show wpAny _ _ (forIn items _ _) _ _ s;rw[<-Hg];refine Hc _ (fun aY r s'=>r.1=none/\s'=s/\∃ks,ItemsAre (intKind prog w) ks aY) _ ?_ ?_ _ _ ⟨rfl,rfl,k,hi⟩
 ·rintro v aY r s' ⟨hr,rfl,ks,hall⟩
  cases hall with
  |cons h1 hl=>
   obtain⟨tk,rfl⟩:=JR h1;refine EF (HZ (a:=true) (by cases n<;>rfl) ?_);simp only[GZ,Fe,if_false];exact EJ ⟨rfl,rfl,_,hl⟩
 ·rintro⟨r1,r2⟩ s' ⟨hr,rfl,_⟩
  simp only at hr;subst hr;exact EJ h
theorem mU{h h':Heap}{a:Addr}{o:Obj}(g1:h.get? a=some o)(g2:o.ExactSet)(sb:Fb a h h'):∀{ks:List (List Int)} {l:List (Int×Value)},bd (i8 prog w h) ks l->bd (i8 prog w h') ks l
 |_,_,.nil=>.nil
 |_,_,.cons r t=>.cons (by
   obtain⟨b,e1,e2,e3⟩:=r;have ne:=TKy.ne_set e2 g1 g2;exact⟨b,e1,e2.keep fun o' ho=>(sb.2 b ne).trans ho,e3⟩) (mU g1 g2 sb t)
theorem sN{h:Heap}{a:Addr}{o:Obj}{es es':Array (Int×Value)}{ep:Nat}{t t':E4}(g1:h.get? a=some o)(g3:o.data=.set es ep t):(h.update a (Jc es' t')).get? a=some { o with data:=.set es' (ep+1) t' }:=by
 have z:=FH (Jc es' t') g1 (by rw[NK _ _ g3];rfl);rw[z,NK _ _ g3]
theorem Ag{X:Addr->Prop}{a b:Addr}{ks:List (List Int)}{led:Bool}{kx:List Int}{Q:Bool->Shared->Prop}(hu:A.units<cLine)(hk:TKy prog w s.heap kx b)(hbX:¬X b)(R:cY prog w X s.heap a ks led)(room:ks.length+1<=76)
  (q:∀h' ks' bb,Fb a s.heap h'->cY prog w X h' a ks' led->(∀y,y∈ks'↔y∈ks\/y=kx)->ks'.length<=ks.length+1->Q bb { s with heap:=h' }):
  wpAny (model prog w) A (setAddHashed a (.ref b) (bC prog w kx)) Q E s:=by
 obtain⟨o,es,ep,t,g1,g2,g3,pr,nd,ok,ft,ld,hX⟩:=id R;have hlen:ks.length=es.toList.length:=pr.len;have hsz:es.toList.length=es.size:=E9;have hml:(es.toList.map (·.1)).length=es.toList.length:=EI _;unfold setAddHashed setAddHashedIn;apply FV;apply EF;apply FW g1 g3 ft;dsimp only;rw[if_neg (show¬byScan (.ref b) es=true from EU)];apply EF;refine Ad hu g1 g3 ft ok pr hk (fun hin=>?_) fun hout j hj hn rd=>?_
 ·dsimp only
  apply EJ;have z:=q s.heap ks false (N4 a s.heap) R (fun y=>⟨.inl,fun h=>h.elim id fun e=>e▸hin⟩) (Jl _);cases s;exact z
 ·dsimp only
  apply EF;apply FW g1 g3 ft;dsimp only;have hp2:(insertAt es (t.put j).2 (bC prog w kx,.ref b)).toList=es.toList.take (t.put j).2++(bC prog w kx,Fh b)::es.toList.drop (t.put j).2:=Ih ..;have pos:(t.put j).2<=es.toList.length:=by
   have:=(dw t.place j ok.rs).1;have:=ok.len;rw[E9,hml]at this;show below t.place j<=_;omega
  have key:∀t1:E4,(∃pl,t1={ (t.put j).1 with plain:=pl })->wpAny (model prog w) A (do
    storeSet a (insertAt es (t.put j).2 (bC prog w kx,.ref b)) t1
    if(!false&&t1.tooFull)=true then setRelay a (grown (es.size+1))
    return true) Q E s:=by
   rintro t1 ⟨pl,rfl⟩;generalize hes1:insertAt es (t.put j).2 (bC prog w kx,.ref b)=es1 at *;have hl1:es1.toList.length=es.toList.length+1:=by
    rw[hp2,EX,Fu,Fo,Gz];omega
   have hs1:es1.size=es.size+1:=by rw[<-E9,hl1,hsz]
   apply EF;refine N5 g1 g3 ?_ (by rw[hs1,EL];omega);generalize hh1:s.heap.update a (Jc es1 { (t.put j).1 with plain:=pl })=h1;have sb1:Fb a s.heap h1:=by rw[<-hh1];exact F5 s.heap a _
   have ga:h1.get? a=some { o with data:=.set es1 (ep+1) { (t.put j).1 with plain:=pl } }:=by rw[<-hh1];exact sN g1 g3
   have x1:Obj.ExactSet { o with data:=.set es1 (ep+1) { (t.put j).1 with plain:=pl } }:=g2;have pr1:bd (i8 prog w h1) (ks.take (t.put j).2++kx::ks.drop (t.put j).2) es1.toList:=by
    have p0:=mU g1 g2 sb1 pr;rw[hp2];have tk:∀{n:Nat} {l:List (List Int)} {m:List (Int×Value)},bd (i8 prog w h1) l m->bd (i8 prog w h1) (l.take n) (m.take n)/\bd (i8 prog w h1) (l.drop n) (m.drop n):=by
     intro n
     induction n with
     |zero=>intro l m h;exact⟨.nil,h⟩
     |succ n ih=>
      intro l m h;cases h with
      |nil=>exact⟨.nil,.nil⟩
      |cons r t=>exact⟨.cons r (ih t).1,(ih t).2⟩
    obtain⟨p1,p2⟩:=tk (n:=(t.put j).2) p0;refine p1.app (.cons ⟨b,rfl,hk.keep fun o' ho=>(sb1.2 b (TKy.ne_set hk g1 g2)).trans ho,rfl⟩ p2)
   have nd1:(ks.take (t.put j).2++kx::ks.drop (t.put j).2).Nodup:=by
    have:=(LU (a:=kx) (l₁:=ks.take (t.put j).2) (l₂:=ks.drop (t.put j).2)).nodup_iff;rw[FZ]at this;exact this.mpr (GT.mpr ⟨hout,nd⟩)
   have mem1:∀y,y∈ks.take (t.put j).2++kx::ks.drop (t.put j).2↔y∈ks\/y=kx:=fun y=>by
    rw[(LU (a:=kx) (l₁:=ks.take (t.put j).2) (l₂:=ks.drop (t.put j).2)).mem_iff,FZ,EV];exact or_comm
   have hX1:∀e∈es1.toList,∀b,e.2=.ref b->¬X b:=fun e he b' hb'=>by
    rw[hp2]at he;rcases FC.mp he with z|z
    ·exact hX e ((Ls _ _).subset z) b' hb'
    ·rcases EV.mp z with z|z
     ·rw[z]at hb'
      injection hb' with hb'
      rw[<-hb'];exact hbX
     ·exact hX e ((N3 _ _).subset z) b' hb'
   have len1:(ks.take (t.put j).2++kx::ks.drop (t.put j).2).length=ks.length+1:=by rw[pr1.len,hl1,hlen]
   have fill1:Ng { (t.put j).1 with plain:=pl }=es.size+1:=by
    show(insertAt t.place (below t.place j) j).size+(if has t.dummies j=true then eraseAt t.dummies (below t.dummies j)else t.dummies).size=_;rw[ok.dum];have e1:(insertAt t.place (below t.place j) j).toList.length=t.place.toList.length+1:=by
     rw[Ih,EX,Fu,Fo,Gz];have:=(dw t.place j ok.rs).1;rw[<-E9]at this;omega
    rw[E9]at e1;have e2:=ok.len;show(insertAt t.place (below t.place j) j).size+0=_;omega
   have hfit:Ln { (t.put j).1 with plain:=pl } es1.size=true:=by
    have rm:=ok.room;have hmp:=ok.mask.pos;have f1:=fill1;unfold Ln;rw[f1,hs1];have e0:(MM { (t.put j).1 with plain:=pl }).size=es.size+1:=by
     have:Ng { (t.put j).1 with plain:=pl }=(MM { (t.put j).1 with plain:=pl }).size+(if has t.dummies j=true then eraseAt t.dummies (below t.dummies j)else t.dummies).size:=rfl;rw[f1,ok.dum]at this;have this':es.size+1=(MM { (t.put j).1 with plain:=pl }).size+0:=this;omega
    rw[e0];have:es.size+1<=t.mask:=by omega
    simp[this,E4.put]
   by_cases tf:LZ { (t.put j).1 with plain:=pl }=true
   ·rw[if_pos (by rw[MI,Ip];exact tf)]
    have rm:=ok.room;have tf':(es.size+1)*5>=t.mask*3:=by
     unfold LZ at tf;rw[fill1]at tf;exact of_decide_eq_true tf
    obtain⟨m2,hm2,hmk,hrm⟩:∃m2,sizeAbove (grown (es.size+1))=m2+1/\b9 m2/\es1.size*5<m2*3:=by
     rcases ok.mask with e|e|e<;>rw[e]at rm tf'
     ·have:es.size=4:=by omega
      rw[hs1,this];exact⟨31,by decide+kernel,.inr (.inl rfl),by decide⟩
     ·have:es.size=18:=by omega
      rw[hs1,this];exact⟨127,by decide+kernel,.inr (.inr rfl),by decide⟩
     ·omega
    obtain⟨t2,order,hlaid,hled,hperm,T2⟩:=B6 (finger:=(t.put j).1.finger) (moves:=(E4.movedTo { (t.put j).1 with plain:=pl } m2)) (led:=(t.put j).1.led) (plain:=pl) hmk es1 hrm;have hrel:OQ { (t.put j).1 with plain:=pl } (es1.map (·.1)) (grown (es.size+1))=some (t2,order):=by
     unfold OQ;rw[hm2];exact hlaid
    apply EF;unfold setRelay;apply EF;refine FW (s:={ s with heap:=h1 }) ga rfl hfit ?_;dsimp only;rw[if_neg (by rw[hm2,EL];have:=hmk.small;omega),hrel];have hz2:(order.filterMap (es1[·]?)).size=es1.size:=by rw[<-E9,hperm.length_eq,E9]
    apply EF;refine HZ (a:=(order.filterMap (es1[·]?),t2)) (if_neg (show¬((order.filterMap (es1[·]?)).size != es1.size)=true by rw[hz2];simp)) ?_;dsimp only;refine N5 (s:={ s with heap:=h1 }) ga rfl ?_ (by rw[hz2,hs1,EL];omega);apply EJ;obtain⟨ks2,kp,kq⟩:=bd.perm hperm.symm pr1;have sb2:Fb a h1 (h1.update a (Jc (order.filterMap (es1[·]?)) t2)):=F5 h1 a _;refine q _ ks2 true (sb1.trans sb2) ⟨_,_,_,t2,sN ga rfl,x1,rfl,mU ga x1 sb2 kq,kp.nodup_iff.mp nd1,T2,?_,hled.trans ld,fun e he=>hX1 e (hperm.mem_iff.mp he)⟩ (fun y=>by rw[<-kp.mem_iff];exact mem1 y) (by rw[<-kp.length_eq,len1];exact EM _);have:=T2.fits;rw[EI,E9]at this;exact this
   ·rw[if_neg (by rw[MI,Ip];exact tf)]
    refine EJ (q h1 _ true sb1 ⟨_,es1,ep+1,_,ga,x1,rfl,pr1,nd1,?_,hfit,?_,hX1⟩ mem1 (by rw[len1];exact EM _))
    ·have rm:(es.toList.length+1)*5<t.mask*3:=by
      unfold LZ at tf;rw[fill1]at tf;have tf':¬((es.size+1)*5>=t.mask*3):=fun z=>tf (decide_eq_true z);omega
     obtain⟨_,_,_,T⟩:=B8 ok hj hn rd (by rw[hml];exact rm);have T':jy { (t.put j).1 with plain:=pl } ((es.toList.map (·.1)).take (t.put j).2++bC prog w kx::(es.toList.map (·.1)).drop (t.put j).2):=⟨T.mask,T.dum,T.rs,T.len,T.room,T.le,T.road⟩;rw[hp2,ET,E6,Nd,Nc];exact T'
    ·exact ld
  split
  ·refine EF (Af hk ?_)
   simp only[if_true];exact key _ ⟨(t.put j).1.plain,rfl⟩
  ·refine EF (EJ ?_)
   simp only[if_true];exact key _ ⟨(t.put j).1.plain,rfl⟩
end
end L2
end
namespace L2
open PySem PyProof.Rows
section
open PySem.Spec
section
variable{prog:Program}{w:World}{K:Type}[DecidableEq K]{knd:KeyKind prog w K}{A:Around}{R:Result->Shared->Prop}{I:Addr}{fp wr:List Addr}{G:Array KB->Array KB->Prop}{n:Nat}{P:Nat->Value->Prop}{St:Nat->Shared->Prop}
theorem pp.at{h h':Heap}{a:Addr}{ks:List K}{led:Bool}(r:pp knd h a ks led)(k:∀o,h.get? a=some o->h'.get? a=some o):pp knd h' a ks led:=by
 obtain⟨o,es,ep,t,e,z⟩:=r;exact⟨o,es,ep,t,k o e,z⟩
end
end
section
open PySem.Spec
section
variable{prog:Program}{w:World}{A:Around}{E:Value->Shared->Prop}{s:Shared}
noncomputable def cL(w:World):Bool:=w.params.followText "set-order"
noncomputable abbrev i9(w:World):Obj:={ cls:=.type "set",dict:=none,data:=.set #[] 0 (.fresh 0 0 (!cL w)) }
theorem Ah(x:Value){Q:Value->Shared->Prop}(q:Q (.ref s.heap.objs.size) { s with heap:=s.heap.push (i9 w) }):codeAny (model prog w) A (.call (.builtin "set.__new__") ⟨[.type "set",x],[]⟩) (wants Q E) s:=by
 apply OR;show wpAny _ A.in1 (do LV "set.__new__" ⟨[.type "set",x],[]⟩;again (.builtin "set.__new__" ⟨[.type "set",x],[]⟩)) _ _ s;apply EF;apply HZ (PySem.F.newCall_set_1 x);refine EJ ⟨GQ MN _,?_⟩;apply Gy PySem.F.entry_set_new;rw[Gg MN _];unfold Builtin.«set.__new__»;unfold Builtin.Frozenset.newClass;have self_:=sub_set_self;obtain⟨hp,g,d,tk,os⟩:=s;dsimp only
 wp_walk
 apply L3;apply EJ;dsimp only;simp only[newObj];apply EF;apply wpAny_alloc;apply EJ;exact EJ q
end
end
section
open PySem.Spec
theorem uN{α:Type}[DecidableEq α]{l m:List α}(h:l.Nodup)(hs:∀x∈l,x∈m):l.length<=m.length:=by
 induction l generalizing m with
 |nil=>exact Fy _
 |cons a l ih=>
  obtain⟨h1,h2⟩:=GT.mp h;have ha:=hs a EW;have:=ih (m:=m.erase a) h2 fun x hx=>(Ks (fun e:x=a=>h1 (e▸hx))).mpr (hs x (E3 _ hx));rw[JE ha]at this;have:=IB ha;rw[Fu];omega
theorem cY.nd{prog:Program}{w:World}{X:Addr->Prop}{h:Heap}{a:Addr}{ks:List (List Int)}{led:Bool}(r:cY prog w X h a ks led):ks.Nodup:=by
 obtain⟨o,es,ep,t,g1,g2,g3,pr,nd,_⟩:=r;exact nd
theorem cY.new{prog:Program}{w:World}{X:Addr->Prop}{h:Heap}{a:Addr}(e:h.get? a=some (i9 w)):cY prog w X h a [] (!cL w):=
 ⟨_,#[],0,_,e,⟨rfl,rfl,rfl⟩,rfl,.nil,List.nodup_nil,⟨.inl rfl,rfl,Lv,rfl,(by show 0*5<7*3;decide),(fun j hj=>absurd hj (by simp[i9,E4.fresh])),(fun i j h hj=>by simp[E4.fresh]at hj)⟩,rfl,rfl,fun e he=>(by cases he)⟩
section
variable{prog:Program}{w:World}{A:Around}{R:Result->Shared->Prop}{I:Addr}{fp wr:List Addr}{G:Array KB->Array KB->Prop}{n:Nat}{P:Nat->Value->Prop}{St:Nat->Shared->Prop}
theorem yr(hu:A.units+1<cLine)(W:WalksS prog w A.in1 I fp wr G n P St)(S:Addr)(free:S∉fp)(key:Nat->List Int){Y:Addr->Prop}(hkey:∀i v,P i v->∃b,v=.ref b/\b∉wr/\b≠S/\Y b)(ds:List (List Int))(hds:ds.length<=75)(hin:∀j,j<n->key j∈ds){led:Bool}:
  ∀(m i:Nat)(s:Shared)(ks:List (List Int)),n-i=m->i<=n->St i s->(∀i v b,P i v->v=.ref b->TKy prog w s.heap (key i) b)->cY prog w (fun b=>b∈wr\/¬Y b) s.heap S ks led->(∀y,y∈ks↔∃j,j<i/\key j=y)->
   (∀s' ks',Moved (S::wr) G s s'->cY prog w (fun b=>b∈wr\/¬Y b) s'.heap S ks' led->(∀y,y∈ks'↔∃j,j<n/\key j=y)->R (.ok (.ret .none)) s')->
   codeAny (model prog w) A (.builtin "set.update.loop" ⟨[.ref S,.ref I],[]⟩) R s:=by
 have nw:S∉wr:=fun z=>free (W.sub _ z);have up:∀b∈wr,b∈S::wr:=fun b z=>E3 _ z;intro m
 induction m with
 |zero=>
  intro i s ks hm hi st tk r mem done;obtain rfl:i=n:=by omega
  apply Gy Mg;rw[Gg JQ _];show wpAny _ A.in1 (pyNext (.ref I)>>=_) _ _ s;apply EF;refine W.done s _ _ st fun z mv=>?_;show wpAny _ A.in1 (ret GC) _ _ z;exact EJ (done z ks (mv.mono up) (r.at (fun o e=>mv.heap S _ nw e) fun b o hb e=>mv.heap b o (fun hm=>hb (.inl hm)) e) mem)
 |succ m ih=>
  intro i s ks hm hi st tk r mem done;have lt:i<n:=by omega
  apply Gy Mg;rw[Gg JQ _];show wpAny _ A.in1 (pyNext (.ref I)>>=_) _ _ s;apply EF;refine W.item i s _ _ lt st fun v z pv stz mv=>?_;obtain⟨b,rfl,hb,hbS,hbY⟩:=hkey i v pv;have tkz:∀i v b,P i v->v=.ref b->TKy prog w z.heap (key i) b:=fun i v b pv e=>by
   obtain⟨b',e',hb',_⟩:=hkey i v pv;rw[e]at e';injection e' with e'
   subst e';exact TKy.keep (tk i v b pv e) fun o ho=>mv.heap b o hb' ho
  have kb:=tkz i _ b pv rfl;have rz:cY prog w (fun b=>b∈wr\/¬Y b) z.heap S ks led:=r.at (fun o e=>mv.heap S _ nw e) fun b o hb e=>mv.heap b o (fun hm=>hb (.inl hm)) e;have hroom:ks.length<=75:=Fz (uN r.nd fun y hy=>by obtain⟨j,hj,e⟩:=(mem y).mp hy;rw[<-e];exact hin j (by omega)) hds;show wpAny _ A.in1 (holding [Fh b] (setAdd S (.ref b))>>=_) _ _ z;apply EF;apply FV;unfold setAdd;apply FV;apply EF;refine ND (show A.in1.units<cLine from hu) kb ?_;refine Ag (s:={ z with toks:=z.toks+((key i).length+1) }) (show A.in1.units<cLine from hu) kb (fun hm=>hm.elim hb fun z=>z hbY) rz (by omega) fun h' ks' bb sb r' mem' len'=>?_;refine EJ ⟨GQ JQ _,ih (i+1) _ ks' (by omega) lt (W.frame _ z _ _ stz (GB _ _) fun c hc o e=>?_) (fun i v b pv e=>?_) r' (fun y=>?_) fun z' ks2 mv2 r2 mem2=>?_⟩
  ·rw[sb.2 c (fun e':c=S=>free (by rw[<-e'];exact hc))]
   exact e
  ·obtain⟨b',e',_,hbS',_⟩:=hkey i v pv
   rw[e]at e';injection e' with e'
   subst e';exact TKy.keep (tkz i v b pv e) fun o ho=>(sb.2 b hbS').trans ho
  ·rw[mem',mem]
   constructor
   ·rintro(⟨j,hj,e⟩|e)
    ·exact⟨j,by omega,e⟩
    ·exact⟨i,by omega,e.symm⟩
   ·rintro⟨j,hj,e⟩
    rcases NJ j i with q|q
    ·exact .inl ⟨j,q,e⟩
    ·have:j=i:=by omega
     subst this;exact .inr e.symm
  ·refine done z' ks2 (Moved.trans W.gtrans ((mv.mono up).then_heap (GB _ _) fun c o hc e=>?_) mv2) r2 mem2
   rw[sb.2 c (fun e':c=S=>hc (by rw[e'];exact EW))];exact e
end
end
section
open PySem.Spec
section
variable{prog:Program}{w:World}{A:Around}{E:Value->Shared->Prop}{s:Shared}
theorem cY.none{X X':Addr->Prop}{h:Heap}{a:Addr}{ks:List (List Int)}{led:Bool}(r:cY prog w X h a ks led)(hs:∀b,X' b->X b):cY prog w X' h a ks led:=by
 obtain⟨o,es,ep,t,g1,g2,g3,pr,nd,ok,ft,ld,hX⟩:=r;exact⟨o,es,ep,t,g1,g2,g3,pr,nd,ok,ft,ld,fun e he b hb z=>hX e he b hb (hs b z)⟩
theorem Ai{l:Addr}{xs:Array Value}(key:Nat->List Int){Q:Value->Shared->Prop}{Y:Addr->Prop}(hu:A.units+64<cLine)(calm:A.handled=none)(hl:s.heap.IsList l xs)(hkey:∀i v,xs[i]?=some v->∃b,v=.ref b/\TKy prog w s.heap (key i) b/\Y b)(ds:List (List Int))(hds:ds.length<=75)(hin:∀j,j<xs.size->key j∈ds)
  (q:∀(h':Heap)(tk:Nat)(ks:List (List Int)),cY prog w (fun b=>¬Y b) h' s.heap.objs.size ks (!cL w)->(∀y,y∈ks↔∃j,j<xs.size/\key j=y)->(∀b o,b<s.heap.objs.size->s.heap.get? b=some o->h'.get? b=some o)->Q (.ref s.heap.objs.size) { s with heap:=h',toks:=tk }):
  wpAny (model prog w) A (call (.type "set") [.ref l]) Q E s:=by
 have ft:=PySem.F.called_set;obtain⟨c0,tl0,mro0⟩:=ft.mro;have made0:=ft.made;have sub0:=ft.sub;have not0:=ft.notType;have can0:=ft.canCreate;have chk0:=PySem.F.typeCall_set_1 (.ref l);apply wpAny_call;apply OR;show wpAny _ _ (callAny (.type "set") _) _ _ _;refine EJ ⟨NH _ (by decide+kernel),?_⟩;apply Gy PySem.F.entry_type_call;rw[Around.under_plain (weight_type_call_type "set" [.ref l] []) rfl]
 repeat (any_goals (first|assumption|wp_step))
 refine IM (Ah (.ref l) (E:=E) (Q:=fun ob z=>ob=.ref s.heap.objs.size/\z={ s with heap:=s.heap.push (i9 w) }) ⟨rfl,rfl⟩) fun r z hz=>?_;cases r with
 |error e=>exact hz
 |ok fl=>
  cases fl with
  |next=>exact hz.elim
  |brk=>exact hz.elim
  |cont=>exact hz.elim
  |ret ob=>
   obtain⟨rfl,rfl⟩:=hz;have got:(s.heap.push (i9 w)).get? s.heap.objs.size=some (i9 w):=ES _ rfl;have isT:Nh { s with heap:=s.heap.push (i9 w) } (.ref s.heap.objs.size) "set":=⟨_,got,rfl⟩;have look0:=ft.init.lookup;have bind0:=ft.init.bind (.ref s.heap.objs.size)
   repeat (any_goals (first|assumption|wp_step))
   refine IM (Ku (R:=wants (fun r z=>r=.none/\∃h' tk ks,z={ s with heap:=h',toks:=tk }/\cY prog w (fun b=>¬Y b) h' s.heap.objs.size ks (!cL w)/\(∀y,y∈ks↔∃j,j<xs.size/\key j=y)/\∀b o,b<s.heap.objs.size->s.heap.get? b=some o->h'.get? b=some o) E) ft.init.plain PySem.F.entry_set_init (check_set_init_1 isT ?_)) fun r z hz=>?_
   ·obtain⟨ob,gl,cl,nl,dl⟩:=hl
    obtain⟨a1,a2,a3,a4⟩:=ob;simp only at cl dl;subst cl dl;have gl1:(s.heap.push (i9 w)).get? l=some { cls:=.type "list",dict:=a2,data:=.seq xs nl,slots:=a4 }:=EH _ gl;have sls:=PySem.F.sub_list_set;have slf:=PySem.F.sub_list_frozenset;have nd0:(FE "list"==FE "dict")=false:=by decide
    have il:(s.heap.push (i9 w)).IsList l xs:=⟨_,gl1,rfl,nl,rfl⟩;unfold Builtin.«set.__init__»;unfold noKeywords;unfold Builtin.Frozenset.updateFrom;generalize gPI:pyIter=PI
    wp_walk
    subst gPI;apply IE il;apply EF;apply wpAny_runValue;have lt:l<s.heap.objs.size:=EN gl;have sz:(s.heap.push (i9 w)).objs.size=s.heap.objs.size+1:=FA _ _;have fr:s.heap.objs.size∉[(s.heap.push (i9 w)).objs.size,l]:=by
     rw[sz];intro hm;rcases EV.1 hm with e|hm
     ·exact absurd e (Fi (Gq _))
     ·rcases EV.1 hm with e|hm
      ·exact absurd e.symm (Fi lt)
      ·exact nomatch hm
    have far:∀i v,xs[i]?=some v->∃b,v=.ref b/\TKy prog w s.heap (key i) b/\b<s.heap.objs.size/\Y b:=fun i v hv=>by
     obtain⟨b,e,hb,hY⟩:=hkey i v hv;refine⟨b,e,hb,?_,hY⟩;obtain⟨o',items,n',ho',_⟩:=hb;exact EN ho'
    refine yr (by first| (show A.units+1+1+1<cLine;omega)| (show A.units+1+1<cLine;omega)| (show A.units+1+1+1+1<cLine;omega)| (show A.units+1+1+1+1+1<cLine;omega)| (show A.units+1<cLine;omega)) ((OG (by simp[calm]) _ l (by rw[sz];exact Fi (FS lt)) xs).toS) s.heap.objs.size fr key (Y:=Y) (fun i v hv=>?_) ds hds hin (led:=!cL w) (xs.size-0) 0 _ [] (by omega) (Fy _) ⟨⟨_,ES _ rfl,rfl,rfl⟩,il.push _⟩ (fun i v b hv e=>?_) (cY.new (EH _ got)) (fun y=>⟨fun z=>(nomatch z),fun⟨j,hj,_⟩=>absurd hj (Gm _)⟩) fun z ks mv r mem=>?_
    ·obtain⟨b,e,_,hb,hY⟩:=far i v hv
     refine⟨b,e,fun hm=>?_,Fi hb,hY⟩;have:=E5.mp hm;rw[sz]at this;exact absurd this (Fi (FS hb))
    ·obtain⟨b',e',hb',_⟩:=far i v hv
     rw[e]at e';injection e' with e'
     subst e';exact TKy.keep hb' fun o' ho'=>EH _ (EH _ ho')
    obtain⟨h',g',d',tk',os'⟩:=z;obtain rfl:g'=s.gens:=mv.gens;obtain rfl:d'=s.drawn:=mv.drawn;obtain rfl:os'=s.os:=mv.os;show wpAny _ _ _ _ _ _;refine EJ ?_;show wpAny _ _ (ret GC) _ _ _;refine EJ ⟨rfl,h',tk',ks,rfl,r.none (fun b z=>.inr z),mem,fun b o hb e=>mv.heap b o (fun hm=>?_) (EH _ (EH _ e))⟩;rcases EV.1 hm with e|hm
    ·exact absurd e (Fi hb)
    ·rcases EV.1 hm with e|hm
     ·rw[sz]at e
      exact absurd e (Fi (FS hb))
     ·exact nomatch hm
   ·cases r with
    |error e=>exact hz
    |ok fl=>
     cases fl with
     |next=>exact hz.elim
     |brk=>exact hz.elim
     |cont=>exact hz.elim
     |ret r=>
      obtain⟨rfl,h',tk,ks,rfl,r1,r2,r3⟩:=hz
      repeat (any_goals (first|assumption|wp_step))
      exact q _ _ ks r1 r2 r3
end
end
section
open PySem.Spec
section
variable{prog:Program}{w:World}{K:Type}[DecidableEq K]{knd:KeyKind prog w K}{A:Around}{E:Value->Shared->Prop}{s:Shared}
end
end
section
open PySem.Spec
theorem dk:Slot "set_iterator" "__next__" "set_iterator.__next__":=by
 refine Slot.of (owner:="set_iterator") (n:="__next__") ?_ ?_ ?_ ?_ ?_ ?_
 ·rw[Ky,IU]
  kernel_rfl
 ·decide+kernel
 ·decide+kernel
 ·decide+kernel
 ·first
   |exact .inl (by decide+kernel)
   |exact .inr (by decide+kernel)
 ·rw[MO]
  kernel_rfl
theorem uO:Slot "set_iterator" "__iter__" "set_iterator.__iter__":=by
 refine Slot.of (owner:="set_iterator") (n:="__iter__") ?_ ?_ ?_ ?_ ?_ ?_
 ·rw[Ky,IU]
  kernel_rfl
 ·decide+kernel
 ·decide+kernel
 ·decide+kernel
 ·first
   |exact .inl (by decide+kernel)
   |exact .inr (by decide+kernel)
 ·rw[MO]
  kernel_rfl
theorem kD:entryFor table "set_iterator.__next__"=some Builtin.«set_iterator.__next__»:=by
 apply entryFor_of_tree
 kernel_rfl
theorem Aj:entryFor table "set_iterator.__iter__"=some Builtin.«dict_keyiterator.__iter__»:=by
 refine entryFor_alias (id':="dict_keyiterator.__iter__") ?_ rfl ?_ ?_
 ·kernel_rfl
 ·decide+kernel
 ·kernel_rfl
theorem B9:entryFor table "set.__iter__"=some Builtin.«frozenset.__iter__»:=by
 refine entryFor_alias (id':="frozenset.__iter__") ?_ rfl ?_ ?_
 ·kernel_rfl
 ·decide+kernel
 ·kernel_rfl
theorem sO:Manifest.owners.lookup (String.ofList ['r','o','t','a','r','e','t','i','_','t','e','s'].reverse)=some Manifest.sig_set_iterator:=by kernel_rfl
theorem kE(a:Value):argsOk "set_iterator.__next__" ⟨[a],[]⟩:=by
 unfold argsOk;rw[signature?_of (id:="set_iterator.__next__") (n:=['_','_','t','x','e','n','_','_']) (o:=['r','o','t','a','r','e','t','i','_','t','e','s']) (by kernel_rfl) sO]
 kernel_rfl
theorem Ak(a:Value):argsOk "set_iterator.__iter__" ⟨[a],[]⟩:=by
 unfold argsOk;rw[signature?_of (id:="set_iterator.__iter__") (n:=['_','_','r','e','t','i','_','_']) (o:=['r','o','t','a','r','e','t','i','_','t','e','s']) (by kernel_rfl) sO]
 kernel_rfl
end
section
open PySem.Spec
noncomputable def SAt(h:Heap)(a:Addr)(es:Array (Int×Value))(ep:Nat)(t:E4):Prop:=∃o,h.get? a=some o/\o.data=.set es ep t/\t.fits es.size=true
noncomputable def cx(h:Heap)(I a:Addr)(f:Value)(i n ep:Nat):Prop:=∃o,h.get? I=some o/\o.cls=.type "set_iterator"/\o.data=.fields #[f,.int i 0,.ref a,.int n 0,.int ep 0]
theorem SAt.at{h h':Heap}{a:Addr}{es:Array (Int×Value)}{ep:Nat}{t:E4}(x:SAt h a es ep t)(k:∀o,h.get? a=some o->h'.get? a=some o):SAt h' a es ep t:=by
 obtain⟨o,e,r⟩:=x;exact⟨o,k o e,r⟩
theorem cx.at{h h':Heap}{I a:Addr}{f:Value}{i n ep:Nat}(x:cx h I a f i n ep)(k:∀o,h.get? I=some o->h'.get? I=some o):cx h' I a f i n ep:=by
 obtain⟨o,e,r⟩:=x;exact⟨o,k o e,r⟩
theorem cx.type{s:Shared}{I a:Addr}{f:Value}{i n ep:Nat}(x:cx s.heap I a f i n ep):s.TypeIs (.ref I) "set_iterator":=by
 obtain⟨o,e,c,_⟩:=x;exact⟨o,e,c⟩
theorem cx.set{h:Heap}{I a:Addr}{f g:Value}{i n ep:Nat}(x:cx h I a f i n ep):cx (h.update I (Lo (·.setIfInBounds 0 g))) I a g i n ep:=by
 obtain⟨o,e,c,d⟩:=x;refine⟨_,FH _ e (Kd (HH d _)),(Lu ..).trans c,?_⟩;rw[HH d];simp
theorem cx.step{h:Heap}{I a:Addr}{f:Value}{i n ep:Nat}(x:cx h I a f i n ep):cx (h.update I (Lo (·.setIfInBounds 1 (rawInt ((i:Int)+1))))) I a f (i+1) n ep:=by
 obtain⟨o,e,c,d⟩:=x;refine⟨_,FH _ e (Kd (HH d _)),(Lu ..).trans c,?_⟩;rw[HH d];simp[rawInt]
section
variable{prog:Program}{w:World}{A:Around}{E:Value->Shared->Prop}{s:Shared}{I a:Addr}{es:Array (Int×Value)}{ep:Nat}{t:E4}{i:Nat}
theorem lO{Q:Bool->Shared->Prop}(q:Q (cL w) s):wpAny (model prog w) A setsByText Q E s:=by
 unfold setsByText;apply EF;apply L3;exact EJ q
theorem uP{slot:Nat}{Q:Option (Value×Nat)->Shared->Prop}(b:cL w=true)(hs:SAt s.heap a es ep t)(q:Q ((JG (w.params.setOrder a ep) es)[i]?.map fun e=>(e.2,slot)) s):wpAny (model prog w) A (setNext a slot i ep) Q E s:=by
 obtain⟨o,g1,g3,ft⟩:=hs;unfold setNext;apply EF;apply FW g1 g3 ft;dsimp only;apply EF;apply lO;rw[if_pos b,if_neg (by simp)];apply EF;unfold setWalk;apply EF;apply FW g1 g3 ft;dsimp only;apply EF;apply lO;rw[if_pos b];apply EF;apply L3;apply EJ;exact EJ q
theorem uQ{slot:Nat}{Q:Option (Value×Nat)->Shared->Prop}(b:cL w=false)(pl:(!t.plain&&decide (es.size>1))=false)(ld:t.led=true)(hs:SAt s.heap a es ep t)
  (q:Q (match es[Fx t.place slot]?,t.place[Fx t.place slot]? with|some (_,x),some j=>some (x,j+1)|_,_=>none) s):wpAny (model prog w) A (setNext a slot i ep) Q E s:=by
 obtain⟨o,g1,g3,ft⟩:=hs;unfold setNext;apply EF;apply FW g1 g3 ft;dsimp only;apply EF;apply lO;rw[if_neg (by rw[b];exact EU)];show wpAny _ _ (if(!t.plain&&decide (es.size>1))=true then _ else _) _ _ _;rw[if_neg (by rw[pl];exact EU)];apply EF;show wpAny _ _ (if(!t.led&& !es.isEmpty)=true then _ else _) _ _ _;rw[if_neg (by rw[ld];simp)];apply EJ;exact EJ q
theorem Ca{p:Nat}{x:Int×Value}{Q:Value->Shared->Prop}(hs:SAt s.heap a es ep t)(hx:es[p]?=some x)(q:Q x.2 s):wpAny (model prog w) A (setNextDrawn a p ep) Q E s:=by
 obtain⟨o,g1,g3,ft⟩:=hs;unfold setNextDrawn;apply EF;apply FW g1 g3 ft;dsimp only;rw[if_neg (by simp),hx];exact EJ q
theorem uR{slot nx:Nat}{x:Value}{Q:Option Value->Shared->Prop}(hit:cx s.heap I a (.int slot 0) i es.size ep)(hs:SAt s.heap a es ep t)
  (hx:∀(A:Around)(E:Value->Shared->Prop)(Q:Option (Value×Nat)->Shared->Prop),Q (some (x,nx)) s->wpAny (model prog w) A (setNext a slot i ep) Q E s)
  (q:∀h',cx h' I a (.int nx 0) (i+1) es.size ep->Fb I s.heap h'->Q (some x) { s with heap:=h' }):wpAny (model prog w) A (pyNext (.ref I)) Q E s:=by
 obtain⟨o,g1,g3,ft⟩:=id hs;obtain⟨u,e1,e2,e3⟩:=id hit;unfold pyNext;apply EF;apply Hs;refine FX (name:=GA "__next__") hit.type dk ?_;refine FD dk hit.type kD ?_ (kE _);refine EF (EJ ?_);refine EF (KN e1 e3 ?_);dsimp only;apply EF;unfold LA;apply EF;apply FW g1 g3 ft;apply EJ;rw[if_neg (by simp)];apply EF;refine hx _ _ _ ?_;dsimp only;refine EF (Hw e1 e3 (by simp) ?_);have it1:cx (s.heap.update I (Lo (·.setIfInBounds 0 (rawInt (nx:Int))))) I a (.int nx 0) i es.size ep:=hit.set;obtain⟨u',e1',e2',e3'⟩:=id it1;refine EF (Hw e1' e3' (by simp) ?_);exact EJ ⟨_,rfl,EJ (q _ it1.step ((F5 _ I _).trans (F5 _ I _)))⟩
theorem yt{slot:Nat}{Q:Option Value->Shared->Prop}(calm:A.handled=none)(hit:cx s.heap I a (.int slot 0) i es.size ep)(hs:SAt s.heap a es ep t)
  (hx:∀(A:Around)(E:Value->Shared->Prop)(Q:Option (Value×Nat)->Shared->Prop),Q none s->wpAny (model prog w) A (setNext a slot i ep) Q E s)
  (q:∀h',Jm I s.heap h'->Q none { s with heap:=h' }):wpAny (model prog w) A (pyNext (.ref I)) Q E s:=by
 obtain⟨o,g1,g3,ft⟩:=id hs;obtain⟨u,e1,e2,e3⟩:=id hit;unfold pyNext;apply EF;apply Hs;refine FX (name:=GA "__next__") hit.type dk ?_;refine FD dk hit.type kD ?_ (kE _);refine EF (EJ ?_);refine EF (KN e1 e3 ?_);dsimp only;apply EF;unfold LA;apply EF;apply FW g1 g3 ft;apply EJ;rw[if_neg (by simp)];apply EF;refine hx _ _ _ ?_;dsimp only;refine EF (Hw e1 e3 (by simp) ?_);show wpAny _ _ (newExc (.type "StopIteration") []>>=_) _ _ _;apply EF;simp only[newExc,Oq];apply EF;refine F8 ?_ (by size_fits);apply EF;refine HZ (a:=GC) (by rfl) ?_;refine F8 ?_ (by size_fits);simp only[raiseNew];refine EF (Na ?_);rw[show A.in1.handled=none from calm];refine Oc ?_;apply EF;refine GW (T:="StopIteration") (b:=true) ?_ JJ ?_
 ·exact⟨_,ES _ rfl,rfl⟩
 ·exact EJ (q _ (((F5 _ I _).extBut.push _).push _))
theorem Al{d:Addr}{ps:Array Value}{p:Nat}{x:Int×Value}{Q:Option Value->Shared->Prop}(hit:cx s.heap I a (.ref d) i es.size ep)(hs:SAt s.heap a es ep t)(ht:s.heap.IsTuple d ps)(hp:ps[i]?=some (.int p 0))(hx:es[p]?=some x)
  (q:∀h',cx h' I a (.ref d) (i+1) es.size ep->Fb I s.heap h'->Q (some x.2) { s with heap:=h' }):wpAny (model prog w) A (pyNext (.ref I)) Q E s:=by
 obtain⟨o,g1,g3,ft⟩:=id hs;obtain⟨u,e1,e2,e3⟩:=id hit;unfold pyNext;apply EF;apply Hs;refine FX (name:=GA "__next__") hit.type dk ?_;refine FD dk hit.type kD ?_ (kE _);refine EF (EJ ?_);refine EF (KN e1 e3 ?_);dsimp only;apply EF;unfold LA;apply EF;apply FW g1 g3 ft;apply EJ;rw[if_neg (by simp)];obtain⟨v,f1,f2,n,f3⟩:=id ht;apply EF;refine FG f1 f3 ?_;dsimp only;rw[show((i:Int)).toNat=i from rfl,hp];dsimp only;apply EF;refine Ca hs hx ?_;refine EF (Hw e1 e3 (by simp) ?_);exact EJ ⟨_,rfl,EJ (q _ hit.step (F5 _ I _))⟩
theorem Cb{d:Addr}{ps:Array Value}{Q:Option Value->Shared->Prop}(calm:A.handled=none)(hit:cx s.heap I a (.ref d) i es.size ep)(hs:SAt s.heap a es ep t)(ht:s.heap.IsTuple d ps)(hp:ps[i]?=none)
  (q:∀h',Jm I s.heap h'->Q none { s with heap:=h' }):wpAny (model prog w) A (pyNext (.ref I)) Q E s:=by
 obtain⟨o,g1,g3,ft⟩:=id hs;obtain⟨u,e1,e2,e3⟩:=id hit;unfold pyNext;apply EF;apply Hs;refine FX (name:=GA "__next__") hit.type dk ?_;refine FD dk hit.type kD ?_ (kE _);refine EF (EJ ?_);refine EF (KN e1 e3 ?_);dsimp only;apply EF;unfold LA;apply EF;apply FW g1 g3 ft;apply EJ;rw[if_neg (by simp)];obtain⟨v,f1,f2,n,f3⟩:=id ht;apply EF;refine FG f1 f3 ?_;dsimp only;rw[show((i:Int)).toNat=i from rfl,hp];dsimp only;refine EF (Hw e1 e3 (by simp) ?_);have it1:cx (s.heap.update I (Lo (·.setIfInBounds 0 (rawInt 0)))) I a (rawInt 0) i es.size ep:=hit.set;obtain⟨u',e1',e2',e3'⟩:=id it1;refine EF (Hw e1' e3' (by simp) ?_);show wpAny _ _ (newExc (.type "StopIteration") []>>=_) _ _ _;apply EF;simp only[newExc,Oq];apply EF;refine F8 ?_ (by size_fits);apply EF;refine HZ (a:=GC) (by rfl) ?_;refine F8 ?_ (by size_fits);simp only[raiseNew];refine EF (Na ?_);rw[show A.in1.handled=none from calm];refine Oc ?_;apply EF;refine GW (T:="StopIteration") (b:=true) ?_ JJ ?_
 ·exact⟨_,ES _ rfl,rfl⟩
 ·exact EJ (q _ ((((F5 _ I _).trans (F5 _ I _)).extBut.push _).push _))
theorem pA{f:Value}{n:Nat}{Q:Value->Shared->Prop}(hit:cx s.heap I a f i n ep)(q:Q (.ref I) s):wpAny (model prog w) A (pyIter (.ref I)) Q E s:=by
 refine N6 hit.type uO ?_;refine FD uO hit.type Aj ?_ (Ak _);show wpAny _ _ (ret (.ref I)) _ _ s;exact EJ ⟨_,rfl,"set_iterator",_,hit.type,dk.lookup,q⟩
end
end
section
open PySem.Spec
theorem pB{α:Type}:∀(l:List α)(i:Nat)(h:i<l.length),Gi (l[i]::l.eraseIdx i) l
 |x::l,0,_=>.refl _
 |x::l,i+1,h=>(Gi.swap x _ _).trans (.cons x (pB l i (Nat.lt_of_succ_lt_succ h)))
theorem uS{α:Type}(next:Nat->Nat):∀(fuel k:Nat)(left:List α)(out:Array α),left.length=fuel->Gi (JG.go next fuel k left out).toList (out.toList++left)
 |0,k,left,out,h=>by
  obtain rfl:=JP.mp h;rw[Gw];exact .refl _
 |fuel+1,k,left,out,h=>by
  have hl:next k%left.length<left.length:=Jb _ (by omega)
  show Gi (match left[next k%left.length]? with|some x=>JG.go next fuel (k+1) (left.eraseIdx (next k%left.length)) (out.push x)|none=>out).toList _;rw[EG hl];refine(uS next fuel (k+1) _ _ (by rw[Ji hl,h];rfl)).trans ?_;rw[Lx,IG];exact MP _ (pB _ _ hl)
theorem lc{α:Type}(next:Nat->Nat)(xs:Array α):Gi (JG next xs).toList xs.toList:=uS next xs.size 0 xs.toList #[] (by simp)
section
variable{prog:Program}{w:World}{A:Around}{E:Value->Shared->Prop}{s:Shared}{I a:Addr}{es:Array (Int×Value)}{ep:Nat}{t:E4}{i:Nat}
theorem Am{src:Source}{n:Nat}{Q:Nat->Shared->Prop}(hn:n≠0)(q:∀i dr,i<n->Q i { s with drawn:=dr }):wpAny (model prog w) A (choose src n) Q E s:=fun _ _ _=>⟨hn,q _ _ (Jb _ (Lc hn))⟩
theorem qe{α:Type}:∀(n:Nat)(xs:List α)(s:Shared)(Q:List α->Shared->Prop),xs.length=n->(∀ys dr,Gi ys xs->Q ys { s with drawn:=dr })->wpAny (model prog w) A (drawOrder n xs) Q E s
 |0,xs,s,Q,h,q=>by
  obtain rfl:=JP.mp h;exact EJ (q [] s.drawn .nil)
 |n+1,[],s,Q,h,q=>nomatch h
 |n+1,x::xs,s,Q,h,q=>by
  unfold drawOrder;apply EF;refine Am (by simp) fun i dr hi=>?_;rw[EG hi];dsimp only;apply EF;refine qe n _ _ _ (by rw[Ji hi,h];rfl) fun ys dr' p=>?_;exact EJ (q _ _ ((Gi.cons _ p).trans (pB _ _ hi)))
noncomputable abbrev Ord(ord:List (Int×Value))(i:Nat)(v:Value):Prop:=∃e,ord[i]?=some e/\e.2=v
theorem Cc(calm:A.handled=none)(b:cL w=true)(hne:a≠I):
  Walks prog w A I [I,a] [I] es.size (Ord (JG (w.params.setOrder a ep) es).toList) (fun i h=>(∃slot:Nat,cx h I a (.int slot 0) i es.size ep)/\SAt h a es ep t) where
 sub:=fun b hb=>by
  rw[E5.mp hb];exact EW
 frame:=fun i h h' st k=>⟨st.1.elim fun n z=>⟨n,z.at (k I EW)⟩,st.2.at (k a (E3 _ EW))⟩
 item:=fun i s Q E hi st q=>by
  obtain⟨⟨slot,it⟩,hs⟩:=st;have len:=(lc (w.params.setOrder a ep) es).length_eq;have hl:i<(JG (w.params.setOrder a ep) es).size:=by
   rw[<-E9,len,E9];exact hi
  refine uR (x:=(JG (w.params.setOrder a ep) es)[i].2) (nx:=slot) it hs (fun A E Q h=>uP b hs ?_) fun h' it' sb=>?_
  ·rw[F0 hl]
   exact h
  ·refine q _ h' s.toks ⟨_,?_,rfl⟩ ⟨⟨slot,it'⟩,hs.at fun o e=>?_⟩ fun c o hc e=>?_
   ·rw[Fq,F0 hl]
   ·exact sb.extBut a o hne e
   ·exact sb.extBut c o (fun z=>hc (by rw[z];exact EW)) e
 done:=fun s Q E st q=>by
  obtain⟨⟨slot,it⟩,hs⟩:=st;have len:=(lc (w.params.setOrder a ep) es).length_eq;have hl:(JG (w.params.setOrder a ep) es).size<=es.size:=by
   rw[<-E9,len,E9];exact EM _
  refine yt calm it hs (fun A E Q h=>uP b hs ?_) fun h' xb=>q h' s.toks fun c o hc e=>?_
  ·rw[J4 hl]
   exact h
  ·exact xb c o (fun z=>hc (by rw[z];exact EW)) e
 self:=fun i s Q E st q=>st.1.elim fun n z=>pA z q
noncomputable def mV(t:E4):Nat->Nat
 |0=>0
 |j+1=>t.place.getD j 0+1
theorem oo(rs:Rs t.place.toList):∀i,i<=t.place.size->Fx t.place (mV t i)=i
 |0,_=>vX _ rs
 |j+1,h=>by
  have hj:j<t.place.size:=h;have hj':j<t.place.toList.length:=by simpa using hj
  have e:mV t (j+1)=t.place.toList[j]+1:=by rw[mV,qd _ _ _ hj]
  rw[e];exact vW _ rs hj'
theorem Cd(calm:A.handled=none)(b:cL w=false)(pl:(!t.plain&&decide (es.size>1))=false)(ld:t.led=true)(rs:Rs t.place.toList)(sz:t.place.size=es.size)(hne:a≠I):
  Walks prog w A I [I,a] [I] es.size (Ord es.toList) (fun i h=>cx h I a (.int (mV t i:Nat) 0) i es.size ep/\SAt h a es ep t) where
 sub:=fun b hb=>by
  rw[E5.mp hb];exact EW
 frame:=fun i h h' st k=>⟨st.1.at (k I EW),st.2.at (k a (E3 _ EW))⟩
 item:=fun i s Q E hi st q=>by
  obtain⟨it,hs⟩:=st;have hp:i<t.place.size:=by rw[sz];exact hi
  refine uR (x:=es[i].2) (nx:=mV t (i+1)) it hs (fun A E Q h=>uQ b pl ld hs ?_) fun h' it' sb=>?_
  ·rw[oo rs i (Gs hp),F0 hi,F0 hp]
   have e:mV t (i+1)=t.place[i]+1:=by
    rw[mV,Kv,dif_pos hp];rfl
   rw[e]at h;exact h
  ·refine q _ h' s.toks ⟨_,?_,rfl⟩ ⟨it',hs.at fun o e=>?_⟩ fun c o hc e=>?_
   ·rw[Fq,F0 hi]
   ·exact sb.extBut a o hne e
   ·exact sb.extBut c o (fun z=>hc (by rw[z];exact EW)) e
 done:=fun s Q E st q=>by
  obtain⟨it,hs⟩:=st;refine yt calm it hs (fun A E Q h=>uQ b pl ld hs ?_) fun h' xb=>q h' s.toks fun c o hc e=>?_
  ·rw[oo rs es.size (by rw[sz];exact EM _),J4 (EM _)]
   exact h
  ·exact xb c o (fun z=>hc (by rw[z];exact EW)) e
 self:=fun i s Q E st q=>pA st.1 q
theorem iC(es:Array (Int×Value)):((EY es.size).map fun p=>es.getD p (0,.none))=es.toList:=by
 apply List.ext_getElem
 ·simp
 ·intro i h1 h2
  have hi:i<es.size:=by simpa using h2
  rw[List.getElem_map,HK,Kv,dif_pos hi];simp
theorem Ce(calm:A.handled=none){d:Addr}{ps:List Nat}(pm:Gi ps (EY es.size))(hne:a≠I)(hd:d≠I):
  Walks prog w A I [I,a,d] [I] es.size (Ord (ps.map fun p=>es.getD p (0,.none))) (fun i h=>cx h I a (.ref d) i es.size ep/\SAt h a es ep t/\h.IsTuple d (ps.map fun p=>HE (p:Nat) 0).toArray) where
 sub:=fun b hb=>by
  rw[E5.mp hb];exact EW
 frame:=fun i h h' st k=>⟨st.1.at (k I EW),st.2.1.at (k a (E3 _ EW)),st.2.2.at (k d (E3 _ (E3 _ EW)))⟩
 item:=fun i s Q E hi st q=>by
  obtain⟨it,hs,ht⟩:=st;have len:=pm.length_eq;rw[Fw]at len;have hl:i<ps.length:=by rw[len];exact hi
  have lt:ps[i]<es.size:=Ff.mp (pm.mem_iff.mp (GK hl));refine Al (p:=ps[i]) (x:=es[ps[i]]) it hs ht ?_ (F0 lt) fun h' it' sb=>?_
  ·rw[MQ,EO,EG hl]
   rfl
  ·refine q _ h' s.toks ⟨_,?_,rfl⟩ ⟨it',hs.at fun o e=>?_,ht.at fun o e=>?_⟩ fun c o hc e=>?_
   ·rw[EO,EG hl]
    show some (es.getD ps[i] (0,.none))=_;rw[Kv,dif_pos lt];rfl
   ·exact sb.extBut a o hne e
   ·exact sb.extBut d o hd e
   ·exact sb.extBut c o (fun z=>hc (by rw[z];exact EW)) e
 done:=fun s Q E st q=>by
  obtain⟨it,hs,ht⟩:=st;have len:=pm.length_eq;refine Cb calm it hs ht ?_ fun h' xb=>q h' s.toks fun c o hc e=>?_
  ·apply J4
   simp[len]
  ·exact xb c o (fun z=>hc (by rw[z];exact EW)) e
 self:=fun i s Q E st q=>pA st.1 q
end
end
section
open PySem.Spec
theorem bd.get{α β:Type}{F:α->β->Prop}{l:List α}{m:List β}(h:bd F l m):∀{i:Nat} {b:β},m[i]?=some b->∃a,l[i]?=some a/\F a b:=by
 induction h with
 |nil=>intro i b e;cases e
 |cons r _ ih=>
  intro i b e;cases i with
  |zero=>
   obtain rfl:_=b:=Fd e;exact⟨_,rfl,r⟩
  |succ i=>exact ih e
section
variable{prog:Program}{w:World}{K:Type}[DecidableEq K]{knd:KeyKind prog w K}{A:Around}{E:Value->Shared->Prop}{s:Shared}{I a:Addr}{es:Array (Int×Value)}{ep:Nat}{t:E4}{i:Nat}
theorem mW{fp wr:List Addr}{n:Nat}{P P':Nat->Value->Prop}{St:Nat->Heap->Prop}(W:Walks prog w A I fp wr n P St)(f:∀i v,P i v->P' i v):Walks prog w A I fp wr n P' St where
 sub:=W.sub
 frame:=W.frame
 item:=fun i s Q E hi st q=>W.item i s Q E hi st fun v h' tk pv=>q v h' tk (f i v pv)
 done:=W.done
 self:=W.self
noncomputable abbrev rX(knd:KeyKind prog w K)(ord:List K)(i:Nat)(v:Value):Prop:=∃k,ord[i]?=some k/\knd.is k v=true
noncomputable abbrev itO(f:Value)(a:Addr)(n ep:Nat):Obj:={ cls:=.type "set_iterator",data:=.fields #[f,.int (0:Nat) 0,.ref a,.int n 0,.int ep 0] }
theorem uT{f:Value}{F:Fin->Shared->Prop}(hs:SAt s.heap a es ep t)(q:F (.done (.ret (.ref s.heap.objs.size))) { s with heap:=s.heap.push (itO f a es.size ep) }):
  wpAny (model prog w) A (do ret (<-newFields "set_iterator" [f,rawInt 0,.ref a,rawInt es.size,rawInt (<-setEpoch a)])) F E s:=by
 obtain⟨o,g1,g3,ft⟩:=hs;apply EF;refine wpAny_setEpoch_of g1 g3 ft ?_;apply EF;unfold newFields;refine F8 ?_;exact EJ q
end
end
section
open PySem.Spec PySem.W
section
variable{prog:Program}{w:World}{K:Type}[DecidableEq K]{knd:KeyKind prog w K}{A:Around}{E:Value->Shared->Prop}{s:Shared}{a:Addr}
theorem An{Q:Bool->Shared->Prop}(ty:s.TypeIs (.ref a) "set")(q:Q false s):wpAny (model prog w) A (HL (.ref a)) Q E s:=by
 unfold HL;apply EF;refine Gx ty PySem.F.slot_set_len.lookup ?_;generalize hid:("set.__len__":String)=nm
 wp_delta
 rw[show splitId nm=some ("set","__len__")from by subst hid;decide+kernel];subst hid;apply EF;refine GW (T:="set") (b:=true) ty (by rw[MO];kernel_rfl) ?_;refine Mr (fun z=>absurd z (by decide)) fun _=>?_;refine Mr (fun _=>?_) fun z=>absurd (by decide+kernel) z;apply EF;refine Kl ty ?_;exact EJ q
theorem pp.type{ks:List K}{led:Bool}(r:pp knd s.heap a ks led):s.TypeIs (.ref a) "set":=by
 obtain⟨o,es,ep,t,g1,g2,_⟩:=r;exact⟨o,g1,g2.1⟩
end
end
section
open PySem.Spec PySem.W
section
variable{prog:Program}{w:World}{K:Type}[DecidableEq K]{knd:K->Value->Prop}{A:Around}{E:Value->Shared->Prop}{s:Shared}{I a:Addr}{es:Array (Int×Value)}{ep:Nat}{t:E4}{i:Nat}
noncomputable def fB(knd:K->Value->Prop)(h:Heap)(a:Addr)(ks:List K)(led:Bool):Prop:=
 ∃o es ep t,h.get? a=some o/\o.ExactSet/\o.data=.set es ep t/\bd (fun k (e:Int×Value)=>knd k e.2) ks es.toList/\ks.Nodup/\es.size<La/\t.fits es.size=true/\Rs t.place.toList/\t.led=led
theorem fB.at{h h':Heap}{a:Addr}{ks:List K}{led:Bool}(r:fB knd h a ks led)(k:∀o,h.get? a=some o->h'.get? a=some o):fB knd h' a ks led:=by
 obtain⟨o,es,ep,t,e,z⟩:=r;exact⟨o,es,ep,t,k o e,z⟩
noncomputable abbrev oq(knd:K->Value->Prop)(ord:List K)(i:Nat)(v:Value):Prop:=∃k,ord[i]?=some k/\knd k v
theorem mX{ks:List K}{l m:List (Int×Value)}(pr:bd (fun k (e:Int×Value)=>knd k e.2) ks m)(p:Gi l m):∃ord,Gi ord ks/\∀i v,Ord l i v->oq knd ord i v:=by
 obtain⟨ord,q,pr'⟩:=bd.perm p.symm pr;refine⟨ord,q.symm,fun i v h=>?_⟩;obtain⟨e,he,rfl⟩:=h;obtain⟨k,hk,r⟩:=pr'.get he;exact⟨k,hk,r⟩
theorem yu{ks:List K}{Q:Value->Shared->Prop}(calm:A.handled=none)(r:fB knd s.heap a ks (!cL w))
  (q:∀(I:Addr)(h':Heap)(dr)(fp:List Addr)(St:Nat->Heap->Prop)(ord:List K),Gi ord ks->Walks prog w A I fp [I] ks.length (oq knd ord) St->St 0 h'->(∀b∈fp,b<h'.objs.size)->(∀b∈fp,b=a\/s.heap.objs.size<=b)->s.heap.objs.size<=I->I∈fp->(∀b o,s.heap.get? b=some o->h'.get? b=some o)->Q (.ref I) { s with heap:=h',drawn:=dr }):
  wpAny (model prog w) A (pyIter (.ref a)) Q E s:=by
 obtain⟨o,es,ep,t,g1,g2,g3,pr,nd,sb,ft,rs,ld⟩:=id r;have hs:SAt s.heap a es ep t:=⟨o,g1,g3,ft⟩;have ty:s.TypeIs (.ref a) "set":=⟨o,g1,g2.1⟩;have len:es.size=ks.length:=by rw[pr.len,E9]
 have lt:a<s.heap.objs.size:=EN g1;rw[<-len]at q;have sz:t.place.size=es.size:=by
  simp only[Ln,Gr,beq_iff_eq]at ft;exact ft.1
 refine N6 ty MR ?_;refine FD MR ty B9 ?_ (PySem.F.args_set_iter_1 _);unfold Builtin.«frozenset.__iter__»;refine EF (EJ ?_);apply EF;unfold Builtin.Frozenset.sizeOf;apply EF;unfold LA;apply EF;apply FW g1 g3 ft;apply EJ;apply EJ;apply EF;unfold setDrawn;apply EF;apply FW g1 g3 ft;dsimp only;apply EF;apply lO;apply EJ;show wpAny _ _ (if(!cL w&&(!t.plain&&decide (es.size>1)))=true then _ else _) _ _ _;by_cases c:(!cL w&&(!t.plain&&decide (es.size>1)))=true
 ·rw[if_pos c]
  apply EF;refine qe _ _ _ _ Fw fun ps dr pm=>?_;apply EF;refine KJ ?_ (by rw[EI,pm.length_eq,Fw];exact Fz (Gs sb) (by decide));have pz:=FA s.heap { cls:=.type "tuple",data:=.seq (ps.map fun(i:Nat)=>rawInt i).toArray };have hs1:=hs.at (h':=s.heap.push { cls:=.type "tuple",data:=.seq (ps.map fun(i:Nat)=>rawInt i).toArray }) fun o e=>EH _ e;have tu:(s.heap.push { cls:=.type "tuple",data:=.seq (ps.map fun(i:Nat)=>rawInt i).toArray }).IsTuple s.heap.objs.size (ps.map fun p=>HE (p:Nat) 0).toArray:=⟨_,ES _ rfl,rfl,0,rfl⟩;have kp0:∀b o,s.heap.get? b=some o->(s.heap.push { cls:=.type "tuple",data:=.seq (ps.map fun(i:Nat)=>rawInt i).toArray }).get? b=some o:=fun b o e=>EH _ e;generalize s.heap.push { cls:=.type "tuple",data:=.seq (ps.map fun(i:Nat)=>rawInt i).toArray }=hp at *;have lt1:a<hp.objs.size:=by rw[pz];exact FS lt
  have kp:∀b o,s.heap.get? b=some o->hp.get? b=some o:=kp0;refine uT (s:={ s with drawn:=dr,heap:=hp }) hs1 ⟨_,rfl,"set_iterator",_,⟨_,ES _ rfl,rfl⟩,dk.lookup,?_⟩;obtain⟨ord,p1,p2⟩:=mX pr (l:=ps.map fun p=>es.getD p (0,.none)) (by rw[<-iC es];exact pm.map _);refine q hp.objs.size _ dr [hp.objs.size,a,s.heap.objs.size] _ ord p1 (mW (Ce (A:=A) (es:=es) (ep:=ep) (t:=t) calm pm (Fi lt1) (d:=s.heap.objs.size) (Fi (by rw[pz];exact Gq _))) p2) ⟨⟨_,ES _ rfl,rfl,rfl⟩,hs1.at fun o e=>EH _ e,tu.push _⟩ (fun b hb=>?_) (fun b hb=>?_) (by rw[pz];exact Jl _) EW fun b o e=>EH _ (kp b o e)
  ·rw[FA]
   rcases EV.mp hb with e|hb
   ·rw[e]
    exact Gq _
   ·rcases EV.mp hb with e|hb
    ·rw[e]
     exact FS lt1
    ·rw[E5.mp hb,pz]
     exact FS (Gq _)
  ·rcases EV.mp hb with e|hb
   ·exact .inr (by rw[e,pz];exact Jl _)
   ·rcases EV.mp hb with e|hb
    ·exact .inl e
    ·exact .inr (by rw[E5.mp hb];exact EM _)
 ·rw[if_neg c]
  apply EF;apply EJ;refine uT hs ⟨_,rfl,"set_iterator",_,⟨_,ES _ rfl,rfl⟩,dk.lookup,?_⟩;have it0:cx (s.heap.push (itO (rawInt 0) a es.size ep)) s.heap.objs.size a (.int (0:Nat) 0) 0 es.size ep:=⟨_,ES _ rfl,rfl,rfl⟩;have hs0:SAt (s.heap.push (itO (rawInt 0) a es.size ep)) a es ep t:=hs.at fun o e=>EH _ e;have inb:∀b∈[s.heap.objs.size,a],b<(s.heap.push (itO (rawInt 0) a es.size ep)).objs.size:=fun b hb=>by
   rw[FA];rcases EV.mp hb with e|hb
   ·rw[e]
    exact Gq _
   ·rw[E5.mp hb]
    exact FS lt
  have out:∀b∈[s.heap.objs.size,a],b=a\/s.heap.objs.size<=b:=fun b hb=>by
   rcases EV.mp hb with e|hb
   ·exact .inr (by rw[e];exact EM _)
   ·exact .inl (E5.mp hb)
  cases b:cL w with
  |true=>
   obtain⟨ord,p1,p2⟩:=mX pr (lc (w.params.setOrder a ep) es);refine q s.heap.objs.size _ s.drawn _ _ ord p1 (mW (Cc (A:=A) (es:=es) (ep:=ep) (t:=t) calm b (Fi lt)) p2) ⟨⟨0,it0⟩,hs0⟩ inb out (EM _) EW fun b o e=>EH _ e
  |false=>
   have pl:(!t.plain&&decide (es.size>1))=false:=by
    rw[b]at c;simpa using c
   have l1:t.led=true:=by rw[ld,b];rfl
   obtain⟨ord,p1,p2⟩:=mX pr (Gi.refl es.toList);refine q s.heap.objs.size _ s.drawn _ _ ord p1 (mW (Cd (A:=A) (es:=es) (ep:=ep) (t:=t) calm b pl l1 rs sz (Fi lt)) p2) ⟨it0,hs0⟩ inb out (EM _) EW fun b o e=>EH _ e
theorem fB.type{ks:List K}{led:Bool}(r:fB knd s.heap a ks led):s.TypeIs (.ref a) "set":=by
 obtain⟨o,es,ep,t,g1,g2,_⟩:=r;exact⟨o,g1,g2.1⟩
theorem fB.small{h:Heap}{ks:List K}{led:Bool}(r:fB knd h a ks led):ks.length<La:=by
 obtain⟨o,es,ep,t,g1,g2,g3,pr,nd,sb,_⟩:=r;rw[pr.len,E9];exact sb
theorem t8{ks:List K}{R:Result->Shared->Prop}(calm:A.handled=none)(r:fB knd s.heap a ks (!cL w))(S:Addr)(ne:S≠a)(hS:s.heap.get? S=some { cls:=.type "list",data:=.seq #[] })
  (q:∀(s':Shared) h' dr tk ord acc c,s'={ s with heap:=h',drawn:=dr,toks:=tk }->Gi ord ks->(∀b o,b≠S->s.heap.get? b=some o->h'.get? b=some o)->h'.get? S=some { cls:=.type "list",dict:=none,data:=.seq acc c,slots:=#[] }->ItemsOf (oq knd ord) acc ks.length->R (.ok (.ret (.ref S))) s'):
  wpAny (model prog w) A.in1 (GF (.ref S) (.ref a) (.ref S)) (fun fin s'=>match fin with | .done f=>R (.ok f) s' | .again c'=>c'.quiet=true/\codeAny (model prog w) A c' R s') (fun e s'=>R (.error e) s') s:=by
 have hn:ks.length<=E1:=Fz (Gs r.small) (by decide);unfold GF;apply EF;refine Kl (T:="set") r.type ?_;have h1:Ii (.ref S) (.ref a)=false:=by simp[Ii,ne]
 have h2:(FE "set"==FE "list")=false:=by decide
 have h3:(FE "set"==FE "tuple")=false:=by decide
 simp only[h1,h2,h3,Bool.or_false,Fe,if_false];apply EF;refine yu (A:=A.in1) calm r fun I h' dr fp St ord pm W st inb out ge Ifp kp=>?_;have hS1:=kp _ _ hS;have lS:S<s.heap.objs.size:=EN hS;have r1:fB knd h' a ks (!cL w):=r.at fun o e=>kp a o e;have nS:S∉fp:=fun hm=>by
  rcases out S hm with z|z
  ·exact ne z
  ·exact absurd lS (Lz.mpr z)
 have loop:∀(h2:Heap)(c:Nat),(∀b o,b≠S->h'.get? b=some o->h2.get? b=some o)->h2.get? S=some { cls:=.type "list",dict:=none,data:=.seq #[] c,slots:=#[] }->codeAny (model prog w) A (.builtin "list.extend.loop" ⟨[.ref S,.ref I,.ref S],[]⟩) R { s with heap:=h2,drawn:=dr }:=fun h2 c k2 e2=>by
  refine codeAny_extend_loopS W.toS hn S nS (.ref S) ks.length 0 _ #[] c rfl (Fy _) (W.frame 0 _ _ st fun b hb o e=>k2 b o (fun z=>nS (z▸hb)) e) e2 (ItemsOf.nil _) fun s' acc c' mv e3 it=>?_;rw[Moved.eq_with mv];refine q _ s'.heap dr s'.toks ord acc c' rfl pm (fun b o hb e=>mv.heap b o (fun hm=>?_) (k2 b o hb (kp b o e))) e3 it;rcases EV.mp hm with z|hm
  ·exact hb z
  ·rw[E5.mp hm]at e
   exact absurd (EN e) (Lz.mpr ge)
 apply EF;apply FV;refine An (s:={ s with heap:=h',drawn:=dr }) r1.type ?_;refine Mr (fun _=>?_) fun _=>?_
 ·apply EF
  apply Ha;apply EF;show wpAny _ _ (JH S (·.push .none)>>=fun _=>JH S (·.pop)) _ _ _;apply EF;refine G3 hS1 rfl ?_;have hS2:=FH (GD (·.push GC)) hS1 rfl;refine G3 (hz:=by seq_fits) hS2 rfl ?_;have hS3:=FH (GD (·.pop)) hS2 rfl;refine EJ ⟨GQ GU _,loop _ _ (fun b o hb e=>?_) hS3⟩;rw[FU _ _ (Ge hb),FU _ _ (Ge hb)];exact e
 ·exact EJ ⟨GQ GU _,loop _ _ (fun b o hb e=>e) hS1⟩
theorem sP{ks:List K}{R:List Value->Shared->Prop}(calm:A.handled=none)(r:fB knd s.heap a ks (!cL w))
  (q:∀h' dr tk ord (acc:Array Value),Gi ord ks->(∀b o,s.heap.get? b=some o->h'.get? b=some o)->s.heap.objs.size<h'.objs.size->ItemsOf (oq knd ord) acc ks.length->R acc.toList { s with heap:=h',drawn:=dr,toks:=tk }):
  wpAny (model prog w) A (collect (.ref a)) R E s:=by
 have lt:a<s.heap.objs.size:=by
  obtain⟨o,es,ep,t,g1,_⟩:=r;exact EN g1
 unfold collect;apply EF;apply wpAny_runValue;apply Gy entry_proto_collect';rw[Gg PySem.F.plain_proto_collect _];show wpAny _ A.in1 (newList []>>=fun l=>again (.builtin "list.__iadd__" ⟨[l,.ref a],[]⟩)) _ _ s;apply EF;refine F8 ?_;refine EJ ⟨GQ Mh _,?_⟩;apply Gy entry_list_iadd';rw[Gg Mh _];show wpAny _ A.in1 (GF (.ref s.heap.objs.size) (.ref a) (.ref s.heap.objs.size)) _ _ _;have key:=t8 (prog:=prog) (A:=A) (s:={ s with heap:=s.heap.push { cls:=.type "list",data:=.seq ([]:List Value).toArray } })
  (R:=fun(u:Result)(s':Shared)=>∃h' dr tk ord acc c,u=.ok (.ret (.ref s.heap.objs.size))/\s'={ s with heap:=h',drawn:=dr,toks:=tk }/\Gi ord ks/\(∀b o,s.heap.get? b=some o->h'.get? b=some o)/\
   h'.get? s.heap.objs.size=some { cls:=.type "list",dict:=none,data:=.seq acc c,slots:=#[] }/\ItemsOf (oq knd ord) acc ks.length)
  calm (r.at fun o e=>EH _ e) s.heap.objs.size (G5 lt) (ES _ rfl)
  fun s' h' dr tk ord acc c e pm kp e3 it=>⟨h',dr,tk,ord,acc,c,rfl,e,pm,fun b o eb=>kp b o (Fi (EN eb)) (EH _ eb),e3,it⟩
 refine F7 key (fun fin s' x=>?_) fun e s' x=>?_
 ·cases fin with
  |done f=>
   obtain⟨h',dr,tk,ord,acc,c,e,rfl,pm,kp,e3,it⟩:=x;cases e;show wpAny _ A (load s.heap.objs.size>>=_) _ _ _;apply EF;refine OD e3 ?_;exact EJ (q h' dr tk ord acc pm kp (EN e3) it)
  |again c1=>
   refine⟨x.1,IM x.2 fun u s2 y=>?_⟩;obtain⟨h',dr,tk,ord,acc,c,rfl,rfl,pm,kp,e3,it⟩:=y;show wpAny _ A (load s.heap.objs.size>>=_) _ _ _;apply EF;refine OD e3 ?_;exact EJ (q h' dr tk ord acc pm kp (EN e3) it)
 ·obtain⟨h',dr,tk,ord,acc,c,e',_⟩:=x
  cases e'
theorem cY.toG{X:Addr->Prop}{h:Heap}{a:Addr}{ks:List (List Int)}{led:Bool}(r:cY prog w X h a ks led):fB (fun(k:List Int)(v:Value)=>∃b,v=.ref b/\TKy prog w h k b/\¬X b) h a ks led:=by
 obtain⟨o,es,ep,t,g1,g2,g3,pr,nd,ok,ft,ld,hX⟩:=r;have go:∀{ks:List (List Int)} {l:List (Int×Value)},bd (i8 prog w h) ks l->(∀e∈l,∀b,e.2=.ref b->¬X b)->bd (fun(k:List Int)(e:Int×Value)=>∃b,e.2=.ref b/\TKy prog w h k b/\¬X b) ks l:=by
  intro ks l p
  induction p with
  |nil=>exact fun _=>.nil
  |cons q _ ih=>exact fun hx=>.cons (let⟨b,e1,e2,_⟩:=q;⟨b,e1,e2,hx _ EW b e1⟩) (ih fun e he=>hx e (E3 _ he))
 have sz:es.size<La:=by
  have:=ok.room;have:=ok.mask.small;rw[EI,E9]at *;unfold La;omega
 exact⟨o,es,ep,t,g1,g2,g3,go pr hX,nd,sz,ft,ok.rs,ld⟩
end
end
end L2
section
set_option autoImplicit false
namespace TS
structure Ord{α:Type}(lt:α->α->Bool):Prop where
 asym:∀a b,lt a b=true->lt b a=false
 tr:∀a b c,lt b a=false->lt c b=false->lt c a=false
section
variable{α:Type}{lt:α->α->Bool}
noncomputable def Le(lt:α->α->Bool)(a b:α):Prop:=lt b a=false
theorem Ord.refl(O:Ord lt)(a:α):Le lt a a:=by
 unfold Le;cases h:lt a a with
 |false=>rfl
 |true=>
  have:=O.asym a a h;rw[h]at this;cases this
theorem Ord.le(O:Ord lt){a b:α}(h:lt a b=true):Le lt a b:=O.asym a b h
theorem Ord.trans(O:Ord lt){a b c:α}(h1:Le lt a b)(h2:Le lt b c):Le lt a c:=O.tr a b c h1 h2
noncomputable def Srt(lt:α->α->Bool)(l:List α):Prop:=l.Pairwise (Le lt)
theorem Cf:Srt lt ([]:List α):=Lv
theorem lP{l m:List α}:Srt lt (l++m)↔Srt lt l/\Srt lt m/\∀x∈l,∀y∈m,Le lt x y:=Kw
theorem pD(x:α):Srt lt [x]:=List.pairwise_singleton _ _
structure Mid(lt:α->α->Bool)(T out A B:List α):Prop where
 o:Srt lt out
 a:Srt lt A
 b:Srt lt B
 oa:∀x∈out,∀y∈A,Le lt x y
 ob:∀x∈out,∀y∈B,Le lt x y
 pm:(out++A++B).Perm T
variable{T out A B A1 A2 B1 B2:List α}{x y:α}
theorem Mid.last(m:Mid lt T out [x] B)(h:∀y∈B,Le lt y x):Srt lt (out++B++[x])/\(out++B++[x]).Perm T:=by
 refine⟨lP.mpr ⟨lP.mpr ⟨m.o,m.b,m.ob⟩,pD x,fun z hz y hy=>?_⟩,?_⟩
 ·rw[E5.mp hy]
  rcases FC.mp hz with q|q
  ·exact m.oa z q x (E5.mpr rfl)
  ·exact h z q
 ·refine OS ?_ m.pm
  rw[IG,IG];exact MP _ MS
structure Ao(lt:α->α->Bool)(T A B out:List α):Prop where
 o:Srt lt out
 a:Srt lt A
 b:Srt lt B
 oa:∀y∈A,∀x∈out,Le lt y x
 ob:∀y∈B,∀x∈out,Le lt y x
 pm:(A++B++out).Perm T
theorem Ao.first(m:Ao lt T A [x] out)(h:∀y∈A,Le lt x y):Srt lt ([x]++A++out)/\([x]++A++out).Perm T:=by
 refine⟨lP.mpr ⟨lP.mpr ⟨pD x,m.a,fun z hz y hy=>?_⟩,m.o,fun z hz y hy=>?_⟩,?_⟩
 ·rw[E5.mp hz]
  exact h y hy
 ·rcases FC.mp hz with q|q
  ·exact m.ob z q y hy
  ·exact m.oa z q y hy
 ·exact OS (Gi.append_right _ MS) m.pm
end
end TS
end
section
set_option autoImplicit false
namespace TS
open PySem PyProof.Rows
structure Cmp(prog:Program)(w:World)(A:Around)(s:Shared)(κ:Jd)(S:Keyed->Prop)(lt:Keyed->Keyed->Bool):Prop where
 ord:Ord lt
 cmp:∀x y,S x->S y->∀(Q:Bool->Shared->Prop)(E:Value->Shared->Prop),Q (lt x y) s->wpAny (model prog w) A (keyLt' κ x.1 y.1) Q E s
section
variable{prog:Program}{w:World}{A:Around}{E:Value->Shared->Prop}{s:Shared}{κ:Jd}{S:Keyed->Prop}{lt:Keyed->Keyed->Bool}
theorem Dr(C:Cmp prog w A s κ S lt){st:SortSt}{x y:Keyed}{Q:Option Bool->SortSt->Prop}(hk:kindOf st=κ)(hx:S x)(hy:S y)(h:Q (some (lt x y)) st):wpS (model prog w) A E s (lt' x y) Q st:=by
 rw[lt'_eq];refine Fp (wpS_get ?_);rw[hk];refine Fp (Oz (Hs (C.cmp x y hx hy _ _ ⟨rfl,?_⟩)));exact FL h
theorem sQ{M:Model}{st:SortSt}{arr:Array Keyed}{i:Nat}{x:Keyed}{Q:Keyed->SortSt->Prop}(h:arr[i]?=some x)(q:Q x st):wpS M A E s (elem' arr i) Q st:=by
 rw[elem'_eq,h];exact FL q
end
end TS
end
section
set_option autoImplicit false
namespace TS
open PySem PyProof.Rows
noncomputable def lQ(st st':SortSt):Prop:=kindOf st'=kindOf st/\arrOf st'=arrOf st/\GY st'=GY st/\Ka st'=Ka st
theorem lQ.refl(st:SortSt):lQ st st:=⟨rfl,rfl,rfl,rfl⟩
theorem lQ.trans{a b c:SortSt}(h:lQ a b)(k:lQ b c):lQ a c:=⟨k.1.trans h.1,k.2.1.trans h.2.1,k.2.2.1.trans h.2.2.1,k.2.2.2.trans h.2.2.2⟩
section
variable{α:Type}
theorem Ea(a:Array α)(i j:Nat):(a.extract i j).toList=(a.toList.drop i).take (j-i):=by
 simp[Array.toList_extract,List.extract]
theorem vw{a:Array α}{i k:Nat}:a.toList.drop i=(a.extract i (i+k)).toList++a.toList.drop (i+k):=by
 rw[Ea,Nat.add_sub_cancel_left,<-List.drop_drop,FZ]
theorem atT{a:Array α}{i:Nat}(h:i<a.size):∃x,a[i]?=some x/\x∈a.toList:=⟨a[i],by simp[h],by simp⟩
end
section
variable{prog:Program}{w:World}{A:Around}{E:Value->Shared->Prop}{s:Shared}{κ:Jd}{S:Keyed->Prop}{lt:Keyed->Keyed->Bool}
structure ML(lt:Keyed->Keyed->Bool)(a b out:Array Keyed)(ia ib:Nat):Prop where
 m:Mid lt (a.toList++b.toList) out.toList (a.toList.drop ia) (b.toList.drop ib)
 ha:ia+1<a.size
 hb:ib<b.size
variable{a b out:Array Keyed}{ia ib:Nat}
end
end TS
end
section
set_option autoImplicit false
namespace TS
open PySem PyProof.Rows
section
variable{α:Type}
end
section
variable{prog:Program}{w:World}{A:Around}{E:Value->Shared->Prop}{s:Shared}{κ:Jd}{S:Keyed->Prop}{lt:Keyed->Keyed->Bool}{a b out:Array Keyed}{na nb:Nat}
noncomputable abbrev MH(lt:Keyed->Keyed->Bool)(a b out:Array Keyed)(na nb:Nat):Prop:=Ao lt (a.toList++b.toList) (a.toList.take na) (b.toList.take nb) out.toList.reverse
structure MG(lt:Keyed->Keyed->Bool)(a b out:Array Keyed)(na nb:Nat):Prop where
 m:MH lt a b out na nb
 a1:1<=na
 a2:na<=a.size
 b1:2<=nb
 b2:nb<=b.size
end
end TS
end
section
set_option autoImplicit false
namespace TS
open PySem PyProof.Rows
section
variable{α:Type}
end
section
variable{prog:Program}{w:World}{A:Around}{E:Value->Shared->Prop}{s:Shared}{κ:Jd}{S:Keyed->Prop}{lt:Keyed->Keyed->Bool}
end
end TS
end
section
set_option autoImplicit false
namespace TS
open PySem PyProof.Rows
noncomputable def Ris(lt:Keyed->Keyed->Bool)(xs:Array Keyed)(lo n:Nat):Prop:=∀i j x y,i<=j->j<n->xs[lo+i]?=some x->xs[lo+j]?=some y->Le lt x y
noncomputable def Fal(lt:Keyed->Keyed->Bool)(xs:Array Keyed)(lo n:Nat):Prop:=∀i j x y,i<=j->j<n->xs[lo+i]?=some x->xs[lo+j]?=some y->Le lt y x
noncomputable def Lik(lt:Keyed->Keyed->Bool)(xs:Array Keyed)(lo m n:Nat):Prop:=∀i j x y,m<=i->i<n->m<=j->j<n->xs[lo+i]?=some x->xs[lo+j]?=some y->Le lt x y
structure Fm(lo hi:Nat)(st st':SortSt):Prop where
 kind:kindOf st'=kindOf st
 pend:GY st'=GY st
 fail:Ka st'=Ka st
 perm:(arrOf st').Perm (arrOf st)
 out:∀k:Nat,(k<lo\/hi<=k)->(arrOf st')[k]?=(arrOf st)[k]?
theorem Fm.refl(lo hi:Nat)(st:SortSt):Fm lo hi st st:=⟨rfl,rfl,rfl,Array.Perm.refl _,fun _ _=>rfl⟩
theorem Fm.trans{lo hi:Nat}{a b c:SortSt}(h:Fm lo hi a b)(k:Fm lo hi b c):Fm lo hi a c:=⟨k.kind.trans h.kind,k.pend.trans h.pend,k.fail.trans h.fail,k.perm.trans h.perm,fun j hj=>(k.out j hj).trans (h.out j hj)⟩
theorem Fm.size{lo hi:Nat}{a b:SortSt}(h:Fm lo hi a b):(arrOf b).size=(arrOf a).size:=h.perm.size_eq
theorem Fm.all{lo hi:Nat}{a b:SortSt}{S:Keyed->Prop}(h:Fm lo hi a b)(hS:∀x∈(arrOf a).toList,S x):∀x∈(arrOf b).toList,S x:=fun x hx=>hS x ((Jj.mp h.perm).mem_iff.mp hx)
section
variable{prog:Program}{w:World}{A:Around}{E:Value->Shared->Prop}{s:Shared}{κ:Jd}{S:Keyed->Prop}{lt:Keyed->Keyed->Bool}
theorem dn(C:Cmp prog w A s κ S lt){st:SortSt}{i j:Nat}{Q:Option Bool->SortSt->Prop}(hk:kindOf st=κ)(hS:∀x∈(arrOf st).toList,S x)(hi:i<(arrOf st).size)(hj:j<(arrOf st).size)
  (h:∀x y,(arrOf st)[i]?=some x->(arrOf st)[j]?=some y->Q (some (lt x y)) st):wpS (model prog w) A E s (ltAt' i j) Q st:=by
 obtain⟨x,ex,mx⟩:=atT hi;obtain⟨y,ey,my⟩:=atT hj;rw[ltAt'_eq];refine Fp (wpS_get ?_);refine Fp (sQ ex (Fp (sQ ey ?_)));exact Dr C hk (hS x mx) (hS y my) (h x y ex ey)
theorem eM{M:Model}{st:SortSt}{i j:Nat}{Q:Unit->SortSt->Prop}(h:Q () (setArr st (mirror (arrOf st) i j ((j-i)/2)))):wpS M A E s (reverseSlice' i j) Q st:=by
 rw[reverseSlice'_eq];exact M7 h
theorem jW{st:SortSt}{lo hi i j:Nat}(h1:lo<=i)(h2:j<=hi)(hj:j<=(arrOf st).size):Fm lo hi st (setArr st (mirror (arrOf st) i j ((j-i)/2))):=
 ⟨rfl,rfl,rfl,mirror_perm _ _ _ _,fun k hk=>by
  show(mirror (arrOf st) i j ((j-i)/2))[k]?=_;rw[GS hj,if_neg (by omega)]⟩
theorem Ris.more(O:Ord lt){xs:Array Keyed}{lo n:Nat}(h:Ris lt xs lo n)(hn:1<=n){x y:Keyed}(ex:xs[lo+n]?=some x)(ey:xs[lo+n-1]?=some y)(q:lt x y=false):Ris lt xs lo (n+1):=by
 intro i j u v hij hj eu ev;by_cases z:j<n
 ·exact h i j u v hij z eu ev
 ·obtain rfl:j=n:=by omega
  rw[ex]at ev;cases ev;by_cases z2:i=j
  ·subst z2
   rw[ex]at eu;cases eu;exact O.refl _
  ·exact O.trans (h i (j-1) u y (by omega) (by omega) eu (by rw[show lo+(j-1)=lo+j-1 by omega];exact ey)) q
theorem Fal.more(O:Ord lt){xs:Array Keyed}{lo n:Nat}(h:Fal lt xs lo n)(hn:1<=n){x y:Keyed}(ex:xs[lo+n]?=some x)(ey:xs[lo+n-1]?=some y)(q:Le lt x y):Fal lt xs lo (n+1):=by
 intro i j u v hij hj eu ev;by_cases z:j<n
 ·exact h i j u v hij z eu ev
 ·obtain rfl:j=n:=by omega
  rw[ex]at ev;cases ev;by_cases z2:i=j
  ·subst z2
   rw[ex]at eu;cases eu;exact O.refl _
  ·exact O.trans q (h i (j-1) u y (by omega) (by omega) eu (by rw[show lo+(j-1)=lo+j-1 by omega];exact ey))
theorem Fal.turn{xs:Array Keyed}{lo n m:Nat}(h:Fal lt xs lo n)(hm:m<=n)(hs:lo+n<=xs.size)(k:Lik lt xs lo m n):Fal lt (mirror xs (lo+m) (lo+n) ((lo+n-(lo+m))/2)) lo n/\Lik lt (mirror xs (lo+m) (lo+n) ((lo+n-(lo+m))/2)) lo m n:=by
 have e:∀i,i<n->∃i',(i<m->i'=i)/\(m<=i->m<=i'/\i'<n)/\(mirror xs (lo+m) (lo+n) ((lo+n-(lo+m))/2))[lo+i]?=xs[lo+i']?:=fun i hi=>by
  rw[GS hs];by_cases z:m<=i
  ·exact⟨m+n-1-i,fun _=>by omega,fun _=>by omega,by rw[if_pos (by omega)];congr 1;omega⟩
  ·exact⟨i,fun _=>rfl,fun _=>by omega,by rw[if_neg (by omega)]⟩
 refine⟨fun i j x y hij hj ex ey=>?_,fun i j x y h1 h2 h3 h4 ex ey=>?_⟩
 ·obtain⟨i',a1,a2,a3⟩:=e i (by omega)
  obtain⟨j',b1,b2,b3⟩:=e j hj;rw[a3]at ex;rw[b3]at ey;by_cases zi:m<=i
  ·have:=a2 zi
   have:=b2 (by omega);exact k j' i' y x (by omega) (by omega) (by omega) (by omega) ey ex
  ·have:=a1 (by omega)
   by_cases zj:m<=j
   ·have:=b2 zj
    exact h i' j' x y (by omega) (by omega) ex ey
   ·have:=b1 (by omega)
    exact h i' j' x y (by omega) (by omega) ex ey
 ·obtain⟨i',a1,a2,a3⟩:=e i h2
  obtain⟨j',b1,b2,b3⟩:=e j h4;rw[a3]at ex;rw[b3]at ey;have:=a2 h1;have:=b2 h3;exact k i' j' x y (by omega) (by omega) (by omega) (by omega) ex ey
theorem Fal.rev{xs:Array Keyed}{lo n:Nat}(h:Fal lt xs lo n)(hs:lo+n<=xs.size):Ris lt (mirror xs lo (lo+n) ((lo+n-lo)/2)) lo n:=by
 intro i j x y hij hj ex ey;rw[GS hs,if_pos (by omega)]at ex ey;exact h (n-1-j) (n-1-i) y x (by omega) (by omega) (by rw[show lo+(n-1-j)=lo+(lo+n)-1-(lo+j) by omega];exact ey) (by rw[show lo+(n-1-i)=lo+(lo+n)-1-(lo+i) by omega];exact ex)
theorem iO(O:Ord lt){xs:Array Keyed}{lo n:Nat}:Lik lt xs lo (n+1-(0+1)) (n+1):=fun i j x y h1 h2 h3 h4 ex ey=>by
 obtain rfl:i=j:=by omega
 rw[ex]at ey;cases ey;exact O.refl _
theorem Lik.more(O:Ord lt){xs:Array Keyed}{lo m n:Nat}(k:Lik lt xs lo m n)(hm:m<n){u v:Keyed}(eu:xs[lo+n]?=some u)(ev:xs[lo+n-1]?=some v)(h1:Le lt u v)(h2:Le lt v u):Lik lt xs lo m (n+1):=by
 intro i j x y i1 i2 j1 j2 ex ey;have ev':xs[lo+(n-1)]?=some v:=by rw[show lo+(n-1)=lo+n-1 by omega];exact ev
 have a:Le lt x v:=by
  by_cases z:i<n
  ·exact k i (n-1) x v i1 z (by omega) (by omega) ex ev'
  ·obtain rfl:i=n:=by omega
   rw[eu]at ex;cases ex;exact h1
 have b:Le lt v y:=by
  by_cases z:j<n
  ·exact k (n-1) j v y (by omega) (by omega) j1 z ev' ey
  ·obtain rfl:j=n:=by omega
   rw[eu]at ey;cases ey;exact h2
 exact O.trans a b
theorem ja(C:Cmp prog w A s κ S lt){st:SortSt}{lo a nrem:Nat}{Q:Option (Option Nat)×Nat->SortSt->Prop}{f:Nat->Option (Option Nat)×Nat->StateT SortSt Sem (ForInStep (Option (Option Nat)×Nat))}(hk:kindOf st=κ)(hS:∀x∈(arrOf st).toList,S x)(hz:lo+nrem<=(arrOf st).size)(ha:1<=a)(han:a<=nrem)(hr:Ris lt (arrOf st) lo a)
  (hf:∀x n (R:ForInStep (Option (Option Nat)×Nat)->SortSt->Prop),1<=n->n<nrem->(∀u v,(arrOf st)[lo+n]?=some u->(arrOf st)[lo+n-1]?=some v->lt u v=true->R (.done (none,n)) st)->
   (∀u v,(arrOf st)[lo+n]?=some u->(arrOf st)[lo+n-1]?=some v->lt u v=false->R (.yield (none,n+1)) st)->wpS (model prog w) A E s (f x (none,n)) R st)
  (h:∀n,a<=n->n<=nrem->Ris lt (arrOf st) lo n->(n=nrem\/n<nrem/\∀u v,(arrOf st)[lo+n]?=some u->(arrOf st)[lo+n-1]?=some v->lt u v=true)->Q (none,n) st):
  wpS (model prog w) A E s (forIn [a:nrem] (none,a) f) Q st:=by
 refine IV (I:=fun x c st'=>st'=st/\c=(none,x)/\Ris lt (arrOf st) lo x) ?_ ?_ ⟨rfl,rfl,hr⟩
 ·rintro x c st' hax hx ⟨rfl,rfl,r⟩
  refine hf x x _ (by omega) hx (fun u v eu ev q=>h x hax (by omega) r (.inr ⟨hx,fun u' v' eu' ev'=>?_⟩)) fun u v eu ev q=>⟨rfl,rfl,r.more C.ord (by omega) eu ev q⟩;rw[eu]at eu';rw[ev]at ev';cases eu';cases ev';exact q
 ·rintro c st' ⟨rfl,rfl,r⟩
  rw[show max a nrem=nrem by omega]at r ⊢;exact h nrem han (EM _) r (.inl rfl)
theorem v6(C:Cmp prog w A s κ S lt){st:SortSt}{lo nrem:Nat}{Q:Option Nat->SortSt->Prop}(hk:kindOf st=κ)(hS:∀x∈(arrOf st).toList,S x)(hz:lo+nrem<=(arrOf st).size)(h1:1<=nrem)
  (h:∀m st',Fm lo (lo+nrem) st st'->1<=m->m<=nrem->Ris lt (arrOf st') lo m->Q (some m) st'):wpS (model prog w) A E s (countRun' lo nrem) Q st:=by
 have O:=C.ord;have r1:Ris lt (arrOf st) lo 1:=fun i j x y hij hj ex ey=>by
  obtain rfl:i=j:=by omega
  rw[ex]at ey;cases ey;exact O.refl _
 refine Fp (ja C hk hS hz (EM 1) h1 r1 (fun x n R n1 n2 c1 c2=>?_) fun n n1 n2 rn last=>?_)
 ·refine Fp (dn C hk hS (by omega) (by omega) fun u v eu ev=>?_)
  dsimp only;cases q:lt u v with
  |true=>exact FL (c1 u v eu ev q)
  |false=>exact FL (c2 u v eu ev q)
 dsimp only;by_cases z1:(n==nrem)=true
 ·rw[if_pos z1]
  exact FL (h n st (Fm.refl _ _ _) n1 n2 rn)
 rw[if_neg z1];have hlt:n<nrem:=by
  have:n≠nrem:=by simpa using z1
  omega
 have low:∀u v,(arrOf st)[lo+n]?=some u->(arrOf st)[lo+n-1]?=some v->lt u v=true:=by
  rcases last with z|z
  ·omega
  ·exact z.2
 obtain⟨xn,exn,_⟩:=atT (a:=arrOf st) (i:=lo+n) (by omega);obtain⟨xp,exp,_⟩:=atT (a:=arrOf st) (i:=lo+n-1) (by omega);have qn:=low xn xp exn exp;have tail:∀(m:Nat)(st2:SortSt),Fm lo (lo+nrem) st st2->1<=m->m<=nrem->Fal lt (arrOf st2) lo m->Fm lo (lo+nrem) st (setArr st2 (mirror (arrOf st2) lo (lo+m) ((lo+m-lo)/2)))/\Ris lt (mirror (arrOf st2) lo (lo+m) ((lo+m-lo)/2)) lo m:=fun m st2 f2 m1 m2 fl=>by
  have zz:lo+m<=(arrOf st2).size:=by rw[f2.size];omega
  exact⟨f2.trans (jW (EM _) (by omega) zz),fl.rev zz⟩
 by_cases z2:n>1
 all_goals
  first|rw[if_pos z2]|rw[if_neg z2]
 ·refine Fp (dn C hk hS (by omega) (by omega) fun u v eu ev=>?_)
  dsimp only;cases q:lt u v with
  |true=>exact FL (h n st (Fm.refl _ _ _) n1 n2 rn)
  |false=>
   simp only[Fe,if_false];rw[ev]at exp;cases exp;refine Fp (eM ?_);have zz:lo+n<=(arrOf st).size:=by omega
   have fm2:Fm lo (lo+nrem) st (setArr st (mirror (arrOf st) lo (lo+n) ((lo+n-lo)/2))):=jW (EM _) (by omega) zz;have alike:∀i j x y,i<n->j<n->(arrOf st)[lo+i]?=some x->(arrOf st)[lo+j]?=some y->Le lt x y:=fun i j x y hi hj ex ey=>by
    refine O.trans (rn i (n-1) x xp (by omega) (by omega) ex (by rw[show lo+(n-1)=lo+n-1 by omega];exact ev)) (O.trans q (rn 0 j u y (by omega) hj (by rw[LQ];exact eu) ey))
   have fl:Fal lt (arrOf (setArr st (mirror (arrOf st) lo (lo+n) ((lo+n-lo)/2)))) lo (n+1):=fun i j x y hij hj ex ey=>by
    change (mirror (arrOf st) lo (lo+n) ((lo+n-lo)/2))[lo+i]?=some x at ex
    change (mirror (arrOf st) lo (lo+n) ((lo+n-lo)/2))[lo+j]?=some y at ey
    rw[GS zz]at ex ey;by_cases zj:j<n
    ·rw[if_pos (by omega)]at ex ey
     exact alike (n-1-j) (n-1-i) y x (by omega) (by omega) (by rw[show lo+(n-1-j)=lo+(lo+n)-1-(lo+j) by omega];exact ey) (by rw[show lo+(n-1-i)=lo+(lo+n)-1-(lo+i) by omega];exact ex)
    ·obtain rfl:j=n:=by omega
     rw[if_neg (by omega),exn]at ey;cases ey;by_cases zi:i<j
     ·rw[if_pos (by omega)]at ex
      exact O.trans (O.le qn) (alike (j-1) (j-1-i) xp x (by omega) (by omega) (by rw[show lo+(j-1)=lo+j-1 by omega];exact ev) (by rw[show lo+(j-1-i)=lo+(lo+j)-1-(lo+i) by omega];exact ex))
     ·rw[if_neg (by omega),show lo+i=lo+j by omega,exn]at ex
      cases ex;exact O.refl _
   generalize setArr st (mirror (arrOf st) lo (lo+n) ((lo+n-lo)/2))=st2 at fm2 fl ⊢;refine Fp (Oz (Ha ⟨rfl,?_⟩));refine Fp (L4 (IV
    (I:=fun x c st'=>∃q,c=(none,x,q)/\Fm lo (lo+nrem) st st'/\Fal lt (arrOf st') lo x/\q+1<=x/\Lik lt (arrOf st') lo (x-(q+1)) x)
    (Q:=fun c st'=>∃m q,c=(none,m,q)/\n+1<=m/\m<=nrem/\Fm lo (lo+nrem) st st'/\Fal lt (arrOf st') lo m/\q+1<=m/\Lik lt (arrOf st') lo (m-(q+1)) m) ?ds ?df ⟨0,rfl,fm2,fl,by omega,iO O⟩) ?dp)
   case df=>
    rintro c st' ⟨q,rfl,f',fl',q1,lk⟩;rw[show max (n+1) nrem=nrem by omega]at fl' q1 lk ⊢;exact⟨nrem,q,rfl,by omega,EM _,f',fl',q1,lk⟩
   case ds=>
    rintro x c st' hax hx ⟨q,rfl,f',fl',q1,lk⟩;dsimp only;have hk':=f'.kind.trans hk;have hS':=f'.all hS;have sz':=f'.size;refine Fp (dn C hk' hS' (by omega) (by omega) fun u v eu ev=>?_);dsimp only;cases e:lt u v with
    |true=>
     simp only[if_true];by_cases zq:q>0
     ·rw[if_pos zq]
      refine Fp (eM ?_);have e1:lo+x-(q+1)=lo+(x-(q+1)):=by omega
      rw[e1];have zz:lo+x<=(arrOf st').size:=by omega
      obtain⟨fl2,lk2⟩:=fl'.turn (m:=x-(q+1)) (by omega) zz lk;obtain⟨v',ev',_⟩:=atT (a:=arrOf st') (i:=lo+(x-(q+1))) (by omega);have a1:(mirror (arrOf st') (lo+(x-(q+1))) (lo+x) ((lo+x-(lo+(x-(q+1))))/2))[lo+x]?=some u:=by rw[GS zz,if_neg (by omega)];exact eu
      have a2:(mirror (arrOf st') (lo+(x-(q+1))) (lo+x) ((lo+x-(lo+(x-(q+1))))/2))[lo+x-1]?=some v':=by
       rw[GS zz,if_pos (by omega),<-ev']
       congr 1
       omega
      exact FL ⟨0,rfl,f'.trans (jW (by omega) (by omega) zz),fl2.more O (by omega) a1 a2 (O.trans (O.le e) (lk (x-1) (x-(q+1)) v v' (by omega) (by omega) (by omega) (by omega) (by rw[show lo+(x-1)=lo+x-1 by omega];exact ev) ev')),by omega,iO O⟩
     ·rw[if_neg zq]
      exact FL ⟨0,rfl,f',fl'.more O (by omega) eu ev (O.le e),by omega,iO O⟩
    |false=>
     simp only[Fe,if_false];refine Fp (dn C hk' hS' (by omega) (by omega) fun v' u' ev' eu'=>?_);rw[ev]at ev';rw[eu]at eu';cases ev';cases eu';dsimp only;cases e2:lt v u with
     |true=>exact FL ⟨x,q,rfl,hax,by omega,f',fl',q1,lk⟩
     |false=>
      refine FL ⟨q+1,rfl,f',fl'.more O (by omega) eu ev e2,by omega,?_⟩;rw[show x+1-(q+1+1)=x-(q+1) by omega];exact lk.more O (by omega) eu ev e2 e
   case dp=>
    rintro c st' ⟨m,q,rfl,m1,m2,f',fl',q1,lk⟩;dsimp only;by_cases zq:q>0
    ·rw[if_pos zq]
     refine Fp (eM ?_);have e1:lo+m-(q+1)=lo+(m-(q+1)):=by omega
     rw[e1];have zz:lo+m<=(arrOf st').size:=by rw[f'.size];omega
     obtain⟨fl2,_⟩:=fl'.turn (m:=m-(q+1)) (by omega) zz lk;have f2:=f'.trans (jW (lo:=lo) (hi:=lo+nrem) (i:=lo+(m-(q+1))) (by omega) (by omega) zz);refine Fp (eM ?_);obtain⟨f4,r4⟩:=tail m _ f2 (by omega) m2 fl2;refine Fp (ja C (f4.kind.trans hk) (f4.all hS) (by rw[f4.size];exact hz) (by omega) m2 r4 (fun x n R n1 n2 c1 c2=>?_) fun n n1 n2 rn _=>?_)
     ·refine Fp (dn C (f4.kind.trans hk) (f4.all hS) (by rw[f4.size];omega) (by rw[f4.size];omega) fun u v eu ev=>?_)
      dsimp only;cases q:lt u v with
      |true=>exact FL (c1 u v eu ev q)
      |false=>exact FL (c2 u v eu ev q)
     ·exact FL (h n _ f4 (by omega) n2 rn)
    ·rw[if_neg zq]
     refine Fp (eM ?_);obtain⟨f4,r4⟩:=tail m st' f' (by omega) m2 fl';refine Fp (ja C (f4.kind.trans hk) (f4.all hS) (by rw[f4.size];exact hz) (by omega) m2 r4 (fun x n R n1 n2 c1 c2=>?_) fun n n1 n2 rn _=>?_)
     ·refine Fp (dn C (f4.kind.trans hk) (f4.all hS) (by rw[f4.size];omega) (by rw[f4.size];omega) fun u v eu ev=>?_)
      dsimp only;cases q:lt u v with
      |true=>exact FL (c1 u v eu ev q)
      |false=>exact FL (c2 u v eu ev q)
     ·exact FL (h n _ f4 (by omega) n2 rn)
 ·have fm2:Fm lo (lo+nrem) st st:=Fm.refl _ _ _
  have fl:Fal lt (arrOf st) lo (n+1):=by
   obtain rfl:n=1:=by omega
   refine Fal.more O (fun i j x y hij hj ex ey=>?_) (EM 1) exn exp (O.le qn);obtain rfl:i=j:=by omega
   rw[ex]at ey;cases ey;exact O.refl _
  refine Fp (Oz (Ha ⟨rfl,?_⟩));refine Fp (L4 (IV
   (I:=fun x c st'=>∃q,c=(none,x,q)/\Fm lo (lo+nrem) st st'/\Fal lt (arrOf st') lo x/\q+1<=x/\Lik lt (arrOf st') lo (x-(q+1)) x)
   (Q:=fun c st'=>∃m q,c=(none,m,q)/\n+1<=m/\m<=nrem/\Fm lo (lo+nrem) st st'/\Fal lt (arrOf st') lo m/\q+1<=m/\Lik lt (arrOf st') lo (m-(q+1)) m) ?ds ?df ⟨0,rfl,fm2,fl,by omega,iO O⟩) ?dp)
  case df=>
   rintro c st' ⟨q,rfl,f',fl',q1,lk⟩;rw[show max (n+1) nrem=nrem by omega]at fl' q1 lk ⊢;exact⟨nrem,q,rfl,by omega,EM _,f',fl',q1,lk⟩
  case ds=>
   rintro x c st' hax hx ⟨q,rfl,f',fl',q1,lk⟩;dsimp only;have hk':=f'.kind.trans hk;have hS':=f'.all hS;have sz':=f'.size;refine Fp (dn C hk' hS' (by omega) (by omega) fun u v eu ev=>?_);dsimp only;cases e:lt u v with
   |true=>
    simp only[if_true];by_cases zq:q>0
    ·rw[if_pos zq]
     refine Fp (eM ?_);have e1:lo+x-(q+1)=lo+(x-(q+1)):=by omega
     rw[e1];have zz:lo+x<=(arrOf st').size:=by omega
     obtain⟨fl2,lk2⟩:=fl'.turn (m:=x-(q+1)) (by omega) zz lk;obtain⟨v',ev',_⟩:=atT (a:=arrOf st') (i:=lo+(x-(q+1))) (by omega);have a1:(mirror (arrOf st') (lo+(x-(q+1))) (lo+x) ((lo+x-(lo+(x-(q+1))))/2))[lo+x]?=some u:=by rw[GS zz,if_neg (by omega)];exact eu
     have a2:(mirror (arrOf st') (lo+(x-(q+1))) (lo+x) ((lo+x-(lo+(x-(q+1))))/2))[lo+x-1]?=some v':=by
      rw[GS zz,if_pos (by omega),<-ev']
      congr 1
      omega
     exact FL ⟨0,rfl,f'.trans (jW (by omega) (by omega) zz),fl2.more O (by omega) a1 a2 (O.trans (O.le e) (lk (x-1) (x-(q+1)) v v' (by omega) (by omega) (by omega) (by omega) (by rw[show lo+(x-1)=lo+x-1 by omega];exact ev) ev')),by omega,iO O⟩
    ·rw[if_neg zq]
     exact FL ⟨0,rfl,f',fl'.more O (by omega) eu ev (O.le e),by omega,iO O⟩
   |false=>
    simp only[Fe,if_false];refine Fp (dn C hk' hS' (by omega) (by omega) fun v' u' ev' eu'=>?_);rw[ev]at ev';rw[eu]at eu';cases ev';cases eu';dsimp only;cases e2:lt v u with
    |true=>exact FL ⟨x,q,rfl,hax,by omega,f',fl',q1,lk⟩
    |false=>
     refine FL ⟨q+1,rfl,f',fl'.more O (by omega) eu ev e2,by omega,?_⟩;rw[show x+1-(q+1+1)=x-(q+1) by omega];exact lk.more O (by omega) eu ev e2 e
  case dp=>
   rintro c st' ⟨m,q,rfl,m1,m2,f',fl',q1,lk⟩;dsimp only;by_cases zq:q>0
   ·rw[if_pos zq]
    refine Fp (eM ?_);have e1:lo+m-(q+1)=lo+(m-(q+1)):=by omega
    rw[e1];have zz:lo+m<=(arrOf st').size:=by rw[f'.size];omega
    obtain⟨fl2,_⟩:=fl'.turn (m:=m-(q+1)) (by omega) zz lk;have f2:=f'.trans (jW (lo:=lo) (hi:=lo+nrem) (i:=lo+(m-(q+1))) (by omega) (by omega) zz);refine Fp (eM ?_);obtain⟨f4,r4⟩:=tail m _ f2 (by omega) m2 fl2;refine Fp (ja C (f4.kind.trans hk) (f4.all hS) (by rw[f4.size];exact hz) (by omega) m2 r4 (fun x n R n1 n2 c1 c2=>?_) fun n n1 n2 rn _=>?_)
    ·refine Fp (dn C (f4.kind.trans hk) (f4.all hS) (by rw[f4.size];omega) (by rw[f4.size];omega) fun u v eu ev=>?_)
     dsimp only;cases q:lt u v with
     |true=>exact FL (c1 u v eu ev q)
     |false=>exact FL (c2 u v eu ev q)
    ·exact FL (h n _ f4 (by omega) n2 rn)
   ·rw[if_neg zq]
    refine Fp (eM ?_);obtain⟨f4,r4⟩:=tail m st' f' (by omega) m2 fl';refine Fp (ja C (f4.kind.trans hk) (f4.all hS) (by rw[f4.size];exact hz) (by omega) m2 r4 (fun x n R n1 n2 c1 c2=>?_) fun n n1 n2 rn _=>?_)
    ·refine Fp (dn C (f4.kind.trans hk) (f4.all hS) (by rw[f4.size];omega) (by rw[f4.size];omega) fun u v eu ev=>?_)
     dsimp only;cases q:lt u v with
     |true=>exact FL (c1 u v eu ev q)
     |false=>exact FL (c2 u v eu ev q)
    ·exact FL (h n _ f4 (by omega) n2 rn)
end
end TS
end
section
set_option autoImplicit false
namespace TS
open PySem PyProof.Rows
section
variable{prog:Program}{w:World}{A:Around}{E:Value->Shared->Prop}{s:Shared}{κ:Jd}{S:Keyed->Prop}{lt:Keyed->Keyed->Bool}
theorem Ap{M:Model}{st:SortSt}{src dst:Nat}{Q:Unit->SortSt->Prop}(h:Q () (setArr st (bubble (arrOf st) src (src-dst)))):wpS M A E s (moveDown' src dst) Q st:=by
 rw[moveDown'_eq];exact M7 h
theorem Aq(C:Cmp prog w A s κ S lt){st:SortSt}{lo n ok:Nat}{Q:Bool->SortSt->Prop}(hk:kindOf st=κ)(hS:∀x∈(arrOf st).toList,S x)(hz:lo+n<=(arrOf st).size)(hok:ok<=n)(hr:Ris lt (arrOf st) lo ok)
  (h:∀st',Fm lo (lo+n) st st'->Ris lt (arrOf st') lo n->Q true st'):wpS (model prog w) A E s (binarySort' lo n ok) Q st:=by
 have O:=C.ord;refine Fp (L4 (IV (I:=fun k c st'=>c=(none,())/\Fm lo (lo+n) st st'/\Ris lt (arrOf st') lo (min k n))
  (Q:=fun c st'=>c=(none,())/\Fm lo (lo+n) st st'/\Ris lt (arrOf st') lo n) ?step ?fin ?init) ?post)
 case post=>
  rintro c st' ⟨rfl,f,r⟩;exact FL (h st' f r)
 case init=>
  refine⟨rfl,Fm.refl _ _ _,fun i j x y hij hj ex ey=>?_⟩;by_cases z:ok=0
  ·obtain rfl:i=j:=by omega
   rw[ex]at ey;cases ey;exact O.refl _
  ·exact hr i j x y hij (by omega) ex ey
 case fin=>
  rintro c st' ⟨rfl,f,r⟩;refine⟨rfl,f,?_⟩
  rwa [show min (max (max ok 1) n) n=n by omega]at r
 case step=>
  rintro k c st1 hak hkn ⟨rfl,f,r⟩;rw[show min k n=k by omega]at r;have hk1:=f.kind.trans hk;have hS1:=f.all hS;have sz1:=f.size;obtain⟨key,ekey,_⟩:=atT (a:=arrOf st1) (i:=lo+k) (by omega);refine Fp (L4 (IV (I:=fun x c st'=>st'=st1/\∃l r,c=(none,l,r)/\l<=r/\r<=k/\r-l<=k-x/\(∀i y,i<l->(arrOf st1)[lo+i]?=some y->Le lt y key)/\(∀i y,r<=i->i<k->(arrOf st1)[lo+i]?=some y->Le lt key y))
   (Q:=fun c st'=>st'=st1/\∃l r,c=(none,l,r)/\l<=k/\(∀i y,i<l->(arrOf st1)[lo+i]?=some y->Le lt y key)/\(∀i y,l<=i->i<k->(arrOf st1)[lo+i]?=some y->Le lt key y)) ?is ?jf ⟨rfl,0,k,rfl,by omega,by omega,by omega,fun i y hi=>by omega,fun i y h1 h2=>by omega⟩) ?jp)
  case jf=>
   rintro c st' ⟨rfl,l,r,rfl,a1,a2,a3,a4,a5⟩;obtain rfl:l=r:=by omega
   exact⟨rfl,l,l,rfl,a2,a4,a5⟩
  case is=>
   rintro x c st' _ hx ⟨rfl,l,r',rfl,a1,a2,a3,a4,a5⟩;dsimp only;by_cases z:l>=r'
   ·rw[if_pos z]
    obtain rfl:l=r':=by omega
    exact FL ⟨rfl,l,l,rfl,a2,a4,a5⟩
   ·rw[if_neg z]
    refine Fp (dn C hk1 hS1 (by omega) (by omega) fun u v eu ev=>?_);rw[ekey]at eu;cases eu;dsimp only;cases q:lt key v with
    |true=>
     exact FL ⟨rfl,l,(l+r')/2,rfl,by omega,by omega,by omega,a4,fun i y h1 h2 ey=>O.trans (O.le q) (r ((l+r')/2) i v y h1 h2 ev ey)⟩
    |false=>
     exact FL ⟨rfl,(l+r')/2+1,r',rfl,by omega,by omega,by omega,fun i y h1 ey=>O.trans (r i ((l+r')/2) y v (by omega) (by omega) ey ev) q,a5⟩
  case jp=>
   rintro c st' ⟨rfl,l,r',rfl,a1,a4,a5⟩;dsimp only;refine Fp (Ap (FL ?_));have hks:lo+k<(arrOf st').size:=by omega
   have gb:=fun j=>getElem?_bubble (xs:=arrOf st') (src:=lo+k) hks (lo+k-(lo+l)) (by omega) j;refine⟨rfl,f.trans ⟨rfl,rfl,rfl,bubble_perm _ _ _,fun j hj=>?_⟩,?_⟩
   ·show(bubble (arrOf st') (lo+k) (lo+k-(lo+l)))[j]?=_
    rw[gb,if_neg (by omega),if_neg (by omega)]
   ·rw[show min (k+1) n=k+1 by omega]
    intro i j x y hij hj ex ey
    change (bubble (arrOf st') (lo+k) (lo+k-(lo+l)))[lo+i]?=some x at ex
    change (bubble (arrOf st') (lo+k) (lo+k-(lo+l)))[lo+j]?=some y at ey
    rw[gb]at ex ey;have cls:∀(t:Nat)(u:Keyed),t<k+1->(if lo+t=lo+k-(lo+k-(lo+l))then(arrOf st')[lo+k]? else if lo+k-(lo+k-(lo+l))<lo+t/\lo+t<=lo+k then(arrOf st')[lo+t-1]? else(arrOf st')[lo+t]?)=some u->
      (t=l/\u=key)\/(l<t/\(arrOf st')[lo+(t-1)]?=some u)\/(t<l/\(arrOf st')[lo+t]?=some u):=fun t u ht e=>by
     by_cases z1:t=l
     ·rw[if_pos (by omega),ekey]at e
      cases e;exact .inl ⟨z1,rfl⟩
     ·rw[if_neg (by omega)]at e
      by_cases z2:l<t
      ·rw[if_pos (by omega)]at e
       exact .inr (.inl ⟨z2,by rw[show lo+(t-1)=lo+t-1 by omega];exact e⟩)
      ·rw[if_neg (by omega)]at e
       exact .inr (.inr ⟨by omega,e⟩)
    rcases cls i x (by omega) ex with⟨i1,rfl⟩|⟨i1,i2⟩|⟨i1,i2⟩<;>rcases cls j y (by omega) ey with⟨j1,rfl⟩|⟨j1,j2⟩|⟨j1,j2⟩
    ·exact O.refl _
    ·exact a5 (j-1) y (by omega) (by omega) j2
    ·omega
    ·omega
    ·exact r (i-1) (j-1) x y (by omega) (by omega) i2 j2
    ·omega
    ·exact a4 i x i1 i2
    ·exact r i (j-1) x y (by omega) (by omega) i2 j2
    ·exact r i j x y (by omega) (by omega) i2 j2
end
end TS
end
section
set_option autoImplicit false
namespace TS
open PySem PyProof.Rows
noncomputable def PR(lt:Keyed->Keyed->Bool):Nat->List (Nat×Nat)->List (List Keyed)->Prop
 |_,[],[]=>True
 |off,p::ps,r::rs=>p.1=off/\p.2=r.length/\1<=r.length/\Srt lt r/\PR lt (off+r.length) ps rs
 |_,_,_=>False
noncomputable abbrev two(x:Nat×Nat×Nat):Nat×Nat:=(x.1,x.2.1)
section
variable{lt:Keyed->Keyed->Bool}
theorem PR.split:∀{A B:List (Nat×Nat)} {off:Nat} {rs:List (List Keyed)},PR lt off (A++B) rs->∃R1 R2,rs=R1++R2/\PR lt off A R1/\PR lt (off+R1.flatten.length) B R2/\R1.length=A.length
 | [],B,off,rs,h=>⟨[],rs,rfl,trivial,h,rfl⟩
 |p::A,B,off,[],h=>h.elim
 |p::A,B,off,r::rs,h=>by
  obtain⟨h1,h2,h3,h4,h5⟩:=h;obtain⟨R1,R2,e,a,b,c⟩:=PR.split (A:=A) h5;refine⟨r::R1,R2,by rw[e];rfl,⟨h1,h2,h3,h4,a⟩,?_,by simp[c]⟩;rw[Ly,EX,<-Jh];exact b
theorem PR.join:∀{A B:List (Nat×Nat)} {off:Nat} {R1 R2:List (List Keyed)},PR lt off A R1->PR lt (off+R1.flatten.length) B R2->PR lt off (A++B) (R1++R2)
 | [],B,off,[],R2,_,h=>h
 | [],B,off,_::_,R2,h,_=>h.elim
 |p::A,B,off,[],R2,h,_=>h.elim
 |p::A,B,off,r::R1,R2,⟨h1,h2,h3,h4,h5⟩,h=>⟨h1,h2,h3,h4,PR.join h5 (by rw[Ly,EX,<-Jh]at h;exact h)⟩
theorem PR.len:∀{A:List (Nat×Nat)} {off:Nat} {rs:List (List Keyed)},PR lt off A rs->rs.length=A.length/\A.length<=rs.flatten.length
 | [],_,[],_=>⟨rfl,Fy _⟩
 | [],_,_::_,h=>h.elim
 |_::_,_,[],h=>h.elim
 |p::A,off,r::rs,⟨h1,h2,h3,h4,h5⟩=>by
  obtain⟨a,b⟩:=PR.len h5;refine⟨by simp[a],?_⟩;rw[Ly,EX,Fu];omega
end
section
variable{prog:Program}{w:World}{A:Around}{E:Value->Shared->Prop}{s:Shared}{κ:Jd}{S:Keyed->Prop}{lt:Keyed->Keyed->Bool}{a₀:List Keyed}
noncomputable def Sst(κ:Jd)(lt:Keyed->Keyed->Bool)(a₀:List Keyed)(lo:Nat)(aY:List Keyed)(st:SortSt):Prop:=
 kindOf st=κ/\Ka st=none/\(arrOf st).toList.Perm a₀/\∃runs,(arrOf st).toList=runs.flatten++aY/\runs.flatten.length=lo/\PR lt 0 ((GY st).toList.map two) runs
theorem Cg(O:Ord lt){xs:Array Keyed}{lo n:Nat}(h:Ris lt xs lo n):Srt lt ((xs.toList.drop lo).take n):=by
 refine HX.mpr fun i j hi hj hij=>?_;have a1:=EG hi;have a2:=EG hj;have b:j<n:=by
  rw[Fo]at hj;omega
 rw[Hi (by omega),JF,Fq]at a1;rw[Hi b,JF,Fq]at a2;exact h i j _ _ (by omega) b a1 a2
theorem Ch{lo hi:Nat}{st st':SortSt}(f:Fm lo hi st st'):(arrOf st').toList.take lo=(arrOf st).toList.take lo:=by
 refine G2 fun i=>?_;by_cases z:i<lo
 ·rw[Hi z,Hi z,Fq,Fq]
  exact f.out i (.inl z)
 ·rw[Lb,Lb,if_neg z,if_neg z]
theorem Sst.turned{lo:Nat}{aY:List Keyed}{st st':SortSt}{hi:Nat}(J:Sst κ lt a₀ lo aY st)(f:Fm lo hi st st'):Sst κ lt a₀ lo ((arrOf st').toList.drop lo) st':=by
 obtain⟨hk,hf,pm,runs,ea,hl,pr⟩:=J;refine⟨f.kind.trans hk,f.fail.trans hf,(Jj.mp f.perm).trans pm,runs,?_,hl,by rw[f.pend];exact pr⟩;have:(arrOf st').toList.take lo=runs.flatten:=by rw[Ch f,ea,<-hl,List.take_left]
 rw[<-this,FZ]
theorem Sst.push{lo n:Nat}{aY:List Keyed}{st:SortSt}(J:Sst κ lt a₀ lo aY st)(h1:1<=n)(h2:n<=aY.length)(sr:Srt lt (aY.take n))(q:Nat):Sst κ lt a₀ (lo+n) (aY.drop n) (LB st ((GY st).push (lo,n,q))):=by
 obtain⟨hk,hf,pm,runs,ea,hl,pr⟩:=J;have lt':(aY.take n).length=n:=by rw[Fo];omega
 refine⟨hk,hf,pm,runs++[aY.take n],?_,?_,?_⟩
 ·show(arrOf st).toList=_
  rw[ea,Nr];simp
 ·rw[Nr,EX,hl]
  simp;omega
 ·show PR lt 0 (((GY st).push (lo,n,q)).toList.map two) _
  rw[Lx,ET];refine pr.join ⟨?_,lt'.symm,by omega,sr,trivial⟩;rw[IQ];exact hl.symm
end
end TS
end
section
set_option autoImplicit false
namespace TS
open PySem PyProof.Rows PySem.W
section
variable{prog:Program}{w:World}{A:Around}{E:Value->Shared->Prop}{s:Shared}{ltv:Value->Value->Bool}
noncomputable abbrev ltK(ltv:Value->Value->Bool):Keyed->Keyed->Bool:=fun x y=>ltv x.1 y.1
noncomputable abbrev Of(vs:List Value):Keyed->Prop:=fun p=>p.1=p.2/\p.1∈vs
noncomputable def fS(h:Heap)(a:Addr)(vs:List Value):Heap:=((h.update a (GD fun _=>#[])).push (seqObj "tuple" vs.toArray 0)).push (seqObj "list" #[] 0)
theorem t9{h:Heap}{a b:Addr}{vs:List Value}{o:Obj}(hb:b≠a)(e:h.get? b=some o):(fS h a vs).get? b=some o:=by
 unfold fS;refine EH _ (EH _ ?_);rw[Heap.get?_update_ne _ _ _ _ hb];exact e
end
section
variable{prog:Program}{w:World}{A:Around}{E:Value->Shared->Prop}{s:Shared}
end
end TS
end
section
set_option autoImplicit false
namespace TS
open PySem PyProof.Rows PySem.W
theorem sR:∀a b:List Int,HT.bF a b=true->HT.bF b a=false
 | [],[],h=>by cases h
 | [],_::_,_=>rfl
 |_::_,[],h=>by cases h
 |x::xs,y::ys,h=>by
  rw[HT.iy]at h ⊢;by_cases e:x=y
  ·subst e
   rw[if_pos rfl]at h ⊢;exact sR xs ys h
  ·rw[if_neg e]at h
   rw[if_neg (Ge e)];have:=of_decide_eq_true h;exact decide_eq_false (by omega)
theorem yv:∀a b c:List Int,HT.bF b a=false->HT.bF c b=false->HT.bF c a=false
 | [],_,[],_,_=>rfl
 | [],_,_::_,_,_=>rfl
 |_::_,[],_,h,_=>by cases h
 |_::_,_::_,[],_,h=>by cases h
 |x::xs,y::ys,z::zs,h1,h2=>by
  rw[HT.iy]at h1 h2 ⊢;by_cases e1:y=x
  ·subst e1
   rw[if_pos rfl]at h1;by_cases e2:z=y
   ·subst e2
    rw[if_pos rfl]at h2 ⊢;exact yv xs ys zs h1 h2
   ·rw[if_neg e2]at h2 ⊢
    exact h2
  ·rw[if_neg e1]at h1
   have l1:=of_decide_eq_false h1;by_cases e2:z=y
   ·subst e2
    rw[if_neg e1];exact h1
   ·rw[if_neg e2]at h2
    have l2:=of_decide_eq_false h2;rw[if_neg (by omega)];exact decide_eq_false (by omega)
theorem pE(kf:Value->List Int):Ord (ltK fun x y=>HT.bF (kf x) (kf y)):=⟨fun _ _=>sR _ _,fun _ _ _=>yv _ _ _⟩
noncomputable def gR(h:Heap)(v:Value)(ns:List Int):Prop:=∃(a:Addr)(o:Obj)(xs:Array Value)(n:Nat),v=.ref a/\h.get? a=some o/\o.cls=.type "tuple"/\o.data=.seq xs n/\IntsAre xs.toList ns
section
variable{prog:Program}{w:World}{A:Around}{E:Value->Shared->Prop}{s:Shared}
theorem sS{Q:Bool->Shared->Prop}{fin:Bool}:∀{xs ys:List Value} {ns ms:List Int} {i:Nat},IntsAre xs ns->IntsAre ys ms->(fin=decide (ns.length<ms.length)\/∃k,fin=decide (ns.length+k<ms.length+k))->Q (HT.bF ns ms) s->KatLex prog w A true fin Q (xs.zip ys) i s
 |_,_,_,_,i,.nil,.nil,hf,h=>by
  have e:fin=false:=by
   rcases hf with rfl|⟨k,rfl⟩<;>simp
  rw[e];exact kat_nil h
 |_,_,_,_,i,.nil,.cons m u hm,hf,h=>by
  have e:fin=true:=by
   rcases hf with rfl|⟨k,rfl⟩<;>simp
  rw[e,NP];exact kat_nil h
 |_,_,_,_,i,.cons n t hn,.nil,hf,h=>by
  have e:fin=false:=by
   rcases hf with rfl|⟨k,rfl⟩<;>simp<;>omega
  rw[e,KZ];exact kat_nil h
 |_,_,_,_,i,.cons n t hn,.cons m u hm,hf,h=>by
  rw[Iq];refine kat_cons (Om ?_);rw[HT.iy]at h;by_cases e:n=m
  ·subst e
   rw[if_pos rfl]at h;rw[beq_self_eq_true];refine kat_yes (sS hn hm ?_ h);rcases hf with rfl|⟨k,rfl⟩
   ·exact .inl (by simp)
   ·exact .inl (by simp)
  ·rw[if_neg e]at h
   rw[beq_eq_false_iff_ne.mpr e];refine kat_no ?_;cases q:(true&&i==0)with
   |true=>exact oneLt_int h
   |false=>exact kat_one _ _ (lt_int h)
theorem Ar{vs:List Value}{kf:Value->List Int}(h2:2<=vs.length)(ht:∀v∈vs,gR s.heap v (kf v))(hne:∀v∈vs,kf v≠[]):
  wpAny (model prog w) A (keyKind' vs.toArray) (fun κ s'=>s'=s/\Cmp prog w A s κ (Of vs) (ltK fun x y=>HT.bF (kf x) (kf y))) E s:=by
 have go:∀us:List Value,(∀v∈us,v∈vs)->∃fs,KatTups s.heap us fs/\fs.length=us.length/\∀f∈fs,∃n t,f=HE n t:=by
  intro us
  induction us with
  |nil=>exact fun _=>⟨[],trivial,rfl,fun _ z=>(nomatch z)⟩
  |cons v us ih=>
   intro hu;obtain⟨fs,f1,f2,f3⟩:=ih fun u hu'=>hu u (E3 _ hu');have hv:=hu v EW;obtain⟨a,o,xs,n,rfl,ho,hc,hd,hI⟩:=ht v hv;have h0:=hne _ hv;generalize kf (.ref a)=ns at hI h0;generalize hx:xs.toList=l at hI;cases hI with
   |nil=>exact absurd rfl h0
   |cons k t hr=>
    refine⟨.int k t::fs,KatTups.cons ho hc hd ?_ f1,by simp[f2],fun f hf=>?_⟩
    ·rw[<-Fq,hx]
     rfl
    ·rcases EV.mp hf with rfl|hf
     ·exact⟨k,t,rfl⟩
     ·exact f3 f hf
 obtain⟨fs,f1,f2,f3⟩:=go vs fun _ z=>z;refine kat_kind (T:=.type "int") f1 (by omega) (fun f hf=>?_) (by decide) ⟨rfl,pE kf,fun x y sx sy Q E' h=>?_⟩
 ·obtain⟨n,t,rfl⟩:=f3 f hf
  exact Looks.now
 ·obtain⟨a,o,xs,n,e1,ho,hc,hd,hI⟩:=ht _ sx.2
  obtain⟨b,o',ys,m,e2,ho',hc',hd',hJ⟩:=ht _ sy.2;have h':Q (HT.bF (kf x.1) (kf y.1)) s:=h;rw[show(FE "int" != FE "tuple")=true by decide];generalize kf x.1=kx at hI h';generalize kf y.1=ky at hJ h';rw[e1,e2];refine kat_lt ho hd ho' hd' (sS hI hJ (.inl ?_) h');have l1:=hI.length;have l2:=hJ.length;rw[E9]at l1 l2;rw[l1,l2]
theorem gR.keeps{h h':Heap}{v:Value}{ns:List Int}(t:gR h v ns)(k:∀b o,h.get? b=some o->h'.get? b=some o):gR h' v ns:=by
 obtain⟨a,o,xs,n,e,ho,r⟩:=t;exact⟨a,o,xs,n,e,k _ _ ho,r⟩
end
end TS
end
section
set_option autoImplicit false
namespace TS
open PySem PyProof.Rows PySem.W
section
variable{prog:Program}{w:World}{A:Around}{E:Value->Shared->Prop}{s:Shared}
theorem As{v:Value}{ns:List Int}{Q:Option Value->Shared->Prop}(t:gR s.heap v ns)(h:∀f:Option Value,f.isSome=!ns.isEmpty->Q f s):wpAny (model prog w) A (firstOfTuple' v) Q E s:=by
 obtain⟨a,o,xs,n,rfl,ho,hc,hd,hI⟩:=t;rw[kas_first_eq];refine EF (Looks.here (show Looks (model prog w) s.heap (typeOf (.ref a)) o.cls from(Looks.ld ho).andThen .now) ?_);rw[hc,if_neg (by first|decide|simp)];refine EF (listItems_at ho hd (EJ ?_));refine h _ ?_;rw[<-Fq];generalize xs.toList=l at hI;cases hI with
 |nil=>rfl
 |cons k t hr=>rfl
theorem qf{kf:Value->List Int}:∀(vs:List Value){Q:List (Option Value)->Shared->Prop},(∀v∈vs,gR s.heap v (kf v))->(∀fs:List (Option Value),fs.map Option.isSome=vs.map (fun v=>!(kf v).isEmpty)->Q fs s)->wpAny (model prog w) A (vs.mapM firstOfTuple') Q E s
 | [],_,_,h=>by rw[List.mapM_nil];exact EJ (h [] rfl)
 |v::vs,Q,ht,h=>by
  rw[List.mapM_cons];refine EF (As (ht v EW) fun f hf=>?_);exact EF (qf vs (Q:=fun bs s'=>wpAny (model prog w) A (pure (f::bs)) Q E s') (fun u hu=>ht u (E3 _ hu)) fun fs hfs=>EJ (h _ (by rw[E6,E6,hf,hfs])))
theorem At{v:Value}{ns:List Int}(t:gR s.heap v ns):Looks (model prog w) s.heap (typeOf v) (.type "tuple"):=by
 obtain⟨a,o,xs,n,rfl,ho,hc,hd,hI⟩:=t;rw[<-hc];exact(Looks.ld ho).andThen .now
theorem Ci{x y:Value}{ns ms:List Int}{Q:Value->Shared->Prop}(t:gR s.heap x ns)(u:gR s.heap y ms)(hu:A.units<cLine)(h:Q (.bool (HT.bF ns ms)) s):wpAny (model prog w) A (GE .Lt x y) Q E s:=by
 obtain⟨a,o,xs,n,rfl,ho,hc,hd,hI⟩:=t;obtain⟨b,o',ys,m,rfl,ho',hc',hd',hJ⟩:=u;exact HT.vh ⟨o,ho,hc,n,hd⟩ ⟨o',ho',hc',m,hd'⟩ hI hJ hu h
theorem Au{x y:Value}{ns ms:List Int}{Q:Bool->Shared->Prop}(t:gR s.heap x ns)(u:gR s.heap y ms)(hu:A.units<cLine)(h:Q (HT.bF ns ms) s):wpAny (model prog w) A (oneLt' true x y) Q E s:=by
 obtain⟨a,o,xs,n,rfl,ho,hc,hd,hI⟩:=t;obtain⟨b,o',ys,m,rfl,ho',hc',hd',hJ⟩:=u;obtain⟨cls,dd,data,sl⟩:=o;obtain⟨cls2,dd2,data2,sl2⟩:=o';simp only at hc hd hc' hd';subst hc hd hc' hd';rw[oneLt'_eq];simp only[if_true];refine EF (wpAny_cRoomFor hu ?_);refine EF (wpAny_callSpecialIfBound?_slot (T:="tuple") ⟨_,ho,rfl⟩ Kb (Km Kb ⟨_,ho,rfl⟩ Mu (Me _ _) (HT.kJ a b xs ys n m dd dd2 sl sl2 ns ms hI hJ) ⟨ho,ho',?_⟩));exact GR h
theorem yw{vs:List Value}{kf:Value->List Int}(hu:A.units<cLine)(h2:2<=vs.length)(ht:∀v∈vs,gR s.heap v (kf v)):
  wpAny (model prog w) A (keyKind' vs.toArray) (fun κ s'=>s'=s/\Cmp prog w A s κ (Of vs) (ltK fun x y=>HT.bF (kf x) (kf y))) E s:=by
 by_cases hne:∀v∈vs,kf v≠[]
 ·exact Ar h2 ht hne
 ·have hlen:∀{fs:List (Option Value)},fs.map Option.isSome=vs.map (fun v=>!(kf v).isEmpty)->fs.length=vs.length:=fun{fs} e=>by
   have:=congrArg List.length e
   rwa [EI,EI]at this
  rw[kat_kind_eq,N7,map_eq_pure_bind];refine EF (EF (qf vs ht fun fs hfs=>EJ ?_));have hno:¬(fs.toArray.all fun x=>x.isSome)=true:=by
   intro h;refine hne fun v hv e=>?_;rw[OA]at h;have:((vs.map fun v=>!(kf v).isEmpty).all id)=true:=by
    rw[<-hfs,IP];exact h
   rw[IP]at this;have:=IZ.mp this v hv;simp[e]at this
  rw[if_neg hno];have gen:Cmp prog w A s general' (Of vs) (ltK fun x y=>HT.bF (kf x) (kf y)):=⟨pE kf,fun x y sx sy Q E' h=>by
   show wpAny (model prog w) A (oneLt' false x.1 y.1) Q E' s;exact kat_one _ _ (Ci (ht _ sx.2) (ht _ sy.2) hu h)⟩
  by_cases h0:(fs.toArray[0]?.bind id).isSome=true
  ·rw[if_pos h0]
   exact EJ ⟨rfl,gen⟩
  ·rw[if_neg h0]
   rw[oneTypeOnly'_eq,N7,map_eq_pure_bind];refine EF (EF (EF (kas_mapM (r:=FE "tuple") _ (fun v hv Q' hq=>(At (ht v hv)).here hq) (EJ ?_))));obtain⟨v₁,vr,rfl⟩:∃v₁ vr,vs=v₁::vr:=by
    match vs,h2 with
    |v₁::vr,_=>exact⟨v₁,vr,rfl⟩
   have hall:((Ov (fun _=>FE "tuple") (v₁::vr)).toArray.all fun x=>x==FE "tuple")=true:=by
    simp only[OA,IP,IZ];intro _ _;show(FE "tuple"==FE "tuple")=true;decide
   have hz:(Ov (fun _=>FE "tuple") (v₁::vr)).toArray[0]?=some (FE "tuple"):=by simp
   rw[hz];simp only[hall,if_true];refine EJ (EJ ⟨rfl,pE kf,fun x y sx sy Q E' h=>?_⟩);rw[show(some (FE "tuple")).isSome=true from rfl,if_pos rfl,keyLt'_oneType];exact Au (ht _ sx.2) (ht _ sy.2) hu h
end
end TS
end
section
set_option autoImplicit false
namespace TS
open PySem PyProof.Rows PySem.W
section
variable{prog:Program}{w:World}{A:Around}{E:Value->Shared->Prop}{s:Shared}{κ:Jd}{S:Keyed->Prop}{lt:Keyed->Keyed->Bool}
theorem v7(C:Cmp prog w A s κ S lt){st:SortSt}{Q:Unit->SortSt->Prop}(hk:kindOf st=κ)(hS:∀x∈(arrOf st).toList,S x)(hf:Ka st=none)(hp:GY st=#[])(h2:2<=(arrOf st).size)(h64:(arrOf st).size<64)
  (h:∀st',(arrOf st').toList.Perm (arrOf st).toList->Ka st'=none->Srt lt (arrOf st').toList->Q () st'):wpS (model prog w) A E s sortRuns' Q st:=by
 have O:=C.ord;rw[sortRuns'_eq];refine Fp (wpS_get ?_);dsimp only;generalize hn:(arrOf st).size=n at *;have hmr:minRun' n n 0=n:=by
  obtain⟨f,hf⟩:∃f,n=f+1:=⟨n-1,by omega⟩;have:minRun' (f+1) n 0=n:=by rw[minRun'_succ,if_pos h64];rfl
  rwa [<-hf]at this
 simp only[hmr];have srt:∀st3:SortSt,Fm 0 (0+n) st st3->Ris lt (arrOf st3) 0 n->Srt lt (arrOf st3).toList:=fun st3 f3 r3=>by
  have:=Cg O r3
  rwa [List.drop_zero,Hy (by rw[E9,f3.size,hn];exact EM _)]at this
 let D:SortSt->Prop:=fun st'=>∃st3,Fm 0 (0+n) st st3/\Ris lt (arrOf st3) 0 n/\st'=LB st3 ((GY st3).push (0,n,0))
 refine Fp (L4 (IV
  (I:=fun x c st'=>(x=0/\c=(none,0)/\st'=st)\/(1<=x/\c=(none,n)/\D st'))
  (Q:=fun c st'=>c=(none,n)/\D st') ?step ?fin (.inl ⟨rfl,rfl,rfl⟩)) ?post)
 case fin=>
  rintro c st' (⟨hx,_,_⟩|⟨_,hc,hD⟩)
  ·omega
  ·exact⟨hc,hD⟩
 case step=>
  rintro x c st' _ hx (⟨rfl,rfl,rfl⟩|⟨hx1,rfl,hD⟩)
  ·dsimp only
   rw[if_neg (by omega)];simp only[LP,Nat.min_self];refine Fp (v6 C hk hS (by omega) (by omega) fun m st2 f2 m1 m2 r2=>?_);dsimp only;by_cases hlt:m<n
   ·rw[if_pos hlt]
    refine Fp (Oz (Ha ⟨rfl,?_⟩));refine Fp (Aq C (f2.kind.trans hk) (f2.all hS) (by rw[f2.size];omega) (by omega) r2 fun st3 f3 r3=>?_);simp only[GZ,Fe,if_false];refine Fp (wpS_get ?_);have f23:=f2.trans f3;have hb:(GY st3).back?=none:=by rw[f23.pend,hp];rfl
    rw[hb];dsimp only;exact Fp (M7 (FL (.inr ⟨by omega,by rw[IQ],st3,f23,r3,rfl⟩)))
   ·rw[if_neg hlt]
    obtain rfl:m=n:=by omega
    refine Fp (wpS_get ?_);have hb:(GY st2).back?=none:=by rw[f2.pend,hp];rfl
    rw[hb];dsimp only;exact Fp (M7 (FL (.inr ⟨by omega,by rw[IQ],st2,f2,r2,rfl⟩)))
  ·dsimp only
   rw[if_pos (EM _)];exact FL ⟨rfl,hD⟩
 case post=>
  rintro c st' ⟨rfl,st3,f3,r3,rfl⟩;dsimp only;have hps:(GY (LB st3 ((GY st3).push (0,n,0)))).size<=1:=by
   show((GY st3).push (0,n,0)).size<=1;rw[f3.pend,hp];exact EM 1
  refine Fp (L4 (IV (I:=fun _ c st''=>st''=LB st3 ((GY st3).push (0,n,0))/\c=(none,())) (Q:=fun c st''=>st''=LB st3 ((GY st3).push (0,n,0))/\c=(none,())) ?_ (fun _ _ hh=>hh) ⟨rfl,rfl⟩) ?_)
  ·rintro x c st'' _ _ ⟨rfl,rfl⟩
   refine Fp (wpS_get ?_);rw[if_pos hps];exact FL ⟨rfl,rfl⟩
  ·rintro c st'' ⟨rfl,rfl⟩
   exact FL (h _ (Jj.mp f3.perm) (f3.fail.trans hf) (srt st3 f3 r3))
end
section
variable{prog:Program}{w:World}{A:Around}{E:Value->Shared->Prop}{s:Shared}{ltv:Value->Value->Bool}
theorem ua{a:Addr}{vs:List Value}{n:Nat}{P:PySem.Fin->Shared->Prop}(ho:s.heap.get? a=some (seqObj "list" vs.toArray n))(hz:vs.length<64)
  (hk:2<=vs.length->wpAny (model prog w) A (keyKind' vs.toArray) (fun κ s'=>s'={ s with heap:=fS s.heap a vs }/\Cmp prog w A { s with heap:=fS s.heap a vs } κ (Of vs) (ltK ltv)) E { s with heap:=fS s.heap a vs })
  (h:∀out:List Value,out.Perm vs->out.Pairwise (fun x y=>ltv y x=false)->P (.done (.ret .none)) { s with heap:=sortedHeap s.heap a vs out.toArray }):
  wpAny (model prog w) A (Builtin.«list.sort» ⟨[.ref a],[]⟩) P E s:=by
 rw[list_sort_plain];have ha:a<s.heap.objs.size:=EN ho;have hl:vs.length<=E1:=by rw[EL];omega
 refine EF (listItems_at ho rfl ?_);refine EF (Ni ho rfl ?_ (by rw[E7];exact hl) (Fy _));obtain⟨e1,ho1⟩:∃e1,(s.heap.update a (GD fun _=>#[])).get? a=some (seqObj "list" #[] e1):=⟨_,get?_update_seq ho (fun _=>#[])⟩;refine EF (Oj ho1 rfl ?_);refine EF (KJ ?_ (by show vs.length<=_;exact hl));refine EF (wpAny_newList ?_ (Fy _));refine FV ?_;have ho6:(fS s.heap a vs).get? a=some (seqObj "list" #[] e1):=by
  unfold fS;rw[N8 _ _ _ (by rw[size_push',Je];exact Fi (FS ha)),N8 _ _ _ (by rw[Je];exact Fi ha)];exact ho1
 show wpAny (model prog w) A _ P E { s with heap:=fS s.heap a vs };dsimp only;have hsz:vs.toArray.size=vs.length:=by simp
 have zip2:∀st':SortSt,(arrOf st').toList.Perm (vs.zip vs)->((arrOf st').map (·.2)).toList.Perm vs/\((arrOf st').map (·.2)).toList=(arrOf st').toList.map (·.1):=fun st' hp=>by
  have hm:∀p∈(arrOf st').toList,p.1=p.2:=fun p hp'=>(mem_zip_self (hp.mem_iff.mp hp')).1;refine⟨?_,?_⟩
  ·rw[LY]
   have:=hp.map (·.2)
   rwa [List.map_snd_zip (EM _)]at this
  ·rw[LY]
   exact Hu fun p hp'=>(hm p hp').symm
 have fin:∀st':SortSt,(arrOf st').toList.Perm (vs.zip vs)->Srt (ltK ltv) (arrOf st').toList->P (.done (.ret .none)) { s with heap:=sortedHeap s.heap a vs ((arrOf st').map (·.2)) }:=by
  intro st' hp hs;obtain⟨z1,z2⟩:=zip2 st' hp;have:=h _ z1 (by rw[z2];exact JY.mpr hs)
  rwa [Array.toArray_toList]at this
 by_cases h2:vs.toArray.size<2
 ·rw[if_pos h2,if_pos h2]
  refine EF (EJ ?_);rw[StateT.run_pure];refine EF (EJ ?_);dsimp only;refine EF (Oj ho6 rfl ?_);refine EF (Ni ho6 rfl ?_ (Fy _) (by rw[Array.size_map];show(pairsOf vs).size<=_;rw[NL];exact N9 hl));simp only[bne_self_eq_false,Fe,if_false];refine EJ (fin (SortSt.mk' general' (vs.toArray.zip vs.toArray) #[] 7 none) ?_ ?_)
  ·show(pairsOf vs).toList.Perm _
   rw[KO]
  ·show Srt _ (pairsOf vs).toList
   rw[KO];have:(vs.zip vs).length<2:=by
    rw[Iu];omega
   match vs.zip vs,this with
   | [],_=>exact Cf
   | [x],_=>exact pD x
 ·rw[if_neg h2,if_neg h2]
  refine EF (F7 (hk (by omega)) (fun κ s' hc=>?_) fun _ _ e=>e);obtain⟨rfl,C⟩:=hc;refine EF (F7 (v7 C (st:=SortSt.mk' κ (vs.toArray.zip vs.toArray) #[] 7 none) (Q:=fun _ st'=>(arrOf st').toList.Perm (vs.zip vs)/\Ka st'=none/\Srt (ltK ltv) (arrOf st').toList) rfl ?_ rfl rfl (by show 2<=(pairsOf vs).size;rw[NL];omega) (by show(pairsOf vs).size<64;rw[NL];exact hz) fun st' a1 a2 a3=>⟨?_,a2,a3⟩) ?_ fun _ _ e=>e)
  ·intro p hp
   have hp':p∈vs.zip vs:=by
    have:p∈(pairsOf vs).toList:=hp
    rwa [KO]at this
   exact mem_zip_self hp'
  ·have:(arrOf st').toList.Perm (pairsOf vs).toList:=a1
   rwa [KO]at this
  rintro⟨⟨⟩,st'⟩ s' ⟨rfl,hp,hf,hs⟩;dsimp only;have hlen:((arrOf st').map (·.2)).size=vs.length:=by
   have:=(zip2 st' hp).1.length_eq
   rwa [E9]at this
  refine EF (Oj ho6 rfl ?_);refine EF (Ni ho6 rfl ?_ (Fy _) (Fz (Jx hlen) (N9 hl)));rw[hf];simp only[bne_self_eq_false,Fe,if_false];exact EJ (fin st' hp hs)
end
end TS
end
namespace L2
open PySem PyProof.Rows
section
open PySem.Spec
section
variable{X:Cx}
theorem jz:OpR X (GE .Is) iK:=by
 intro pins s σ H x y v u Q I rx ry h;obtain⟨rfl,q⟩:=h;cases ry;refine wpAny_is_plain (by cases x<;>(first| (obtain⟨t,rfl⟩:=rx;rfl)| (cases rx;rfl))) ⟨.bl (isN x),H,I,?_,q⟩;cases x<;>(first| (obtain⟨t,rfl⟩:=rx;rfl)| (cases rx;rfl))
theorem iE:OpR X (GE .IsNot) kr:=by
 intro pins s σ H x y v u Q I rx ry h;obtain⟨rfl,q⟩:=h;cases ry;refine wpAny_isNot_plain (by cases x<;>(first| (obtain⟨t,rfl⟩:=rx;rfl)| (cases rx;rfl))) ⟨.bl (!isN x),H,I,?_,q⟩;cases x<;>(first| (obtain⟨t,rfl⟩:=rx;rfl)| (cases rx;rfl))
end
end
section
open PySem.Spec
section
variable{prog:Program}{w:World}{A:Around}{R:Result->Shared->Prop}{I:Addr}{fp wr:List Addr}{n:Nat}{P:Nat->Value->Prop}{St:Nat->Heap->Prop}{kw:List (Str×Value)}
end
end
section
open PySem.Spec
section
variable{prog:Program}{w:World}{A:Around}{E:Value->Shared->Prop}{s:Shared}
end
end
section
open PySem.Spec
section
variable{X:Cx}
end
end
section
open PySem.Spec
mutual
inductive Dat(K:Fg)(H:Hp):V->PyData->Prop where
 |non:Dat K H .non .none
 |bl (b:Bool):Dat K H (.bl b) (.bool b)
 |int (i:Int):Dat K H (.int i) (.int i)
 |str (x:Str):Dat K H (.str x) (.str x)
 |lst {a:Addr} {xs:List V} {ds:List PyData} (e:SqL K H a xs) (h:gS K H xs ds):Dat K H (.ref a) (.list ds)
 |tup {a:Addr} {xs:List V} {ds:List PyData} (e:SqT K H a xs) (h:gS K H xs ds):Dat K H (.ref a) (.tuple ds)
inductive gS(K:Fg)(H:Hp):List V->List PyData->Prop where
 |nil:gS K H [] []
 |cons {x:V} {xs:List V} {d:PyData} {ds:List PyData} (h:Dat K H x d) (t:gS K H xs ds):gS K H (x::xs) (d::ds)
end
section
variable{X:Cx}{pins:List (Addr×Obj)}{σ:St}{H:Hp}{s:Shared}
mutual
theorem Dat.reads(I:Inv X pins σ H s):∀{x:V} {d:PyData} {u:Value},Dat X.K H x d->aB x u->∃as,Reads s.heap u d as
 |_,_,_,.non,r=>by cases r;exact⟨_,.none⟩
 |_,_,_,.bl b,r=>by cases r;exact⟨_,.bool b⟩
 |_,_,_,.int i,r=>by obtain⟨t,rfl⟩:=r;exact⟨_,.int i t⟩
 |_,_,_,.str x,r=>by obtain⟨t,rfl⟩:=r;exact⟨_,.str x t⟩
 |_,_,_,.lst e h,r=>by
  cases r;obtain⟨its,rv,⟨o,n,h1,h2,h3,h4⟩,_⟩:=I.list e;obtain⟨as,ra⟩:=gS.reads I h rv;exact⟨_,.list h1 h2 h4 (by simpa using ra)⟩
 |_,_,_,.tup e h,r=>by
  cases r;obtain⟨its,rv,⟨o,h1,h2,n,h3⟩,_⟩:=I.tuple e;obtain⟨as,ra⟩:=gS.reads I h rv;exact⟨_,.tuple h1 h2 h3 (by simpa using ra)⟩
theorem gS.reads(I:Inv X pins σ H s):∀{xs:List V} {ds:List PyData} {us:List Value},gS X.K H xs ds->aA xs us->∃as,ReadsAll s.heap us ds as
 |_,_,_,.nil,.nil=>⟨_,.nil⟩
 |_,_,_,.cons h t,.cons r q=>by
  obtain⟨as,ra⟩:=Dat.reads I h r;obtain⟨bs,rb⟩:=gS.reads I t q;exact⟨_,.cons ra rb⟩
end
end
section
variable{X:Cx}
end
end
section
open PySem.Spec
mutual
theorem Av{K:Fg}{H:Hp}:∀{n:Nat} {x y:V},dR K H n x y->∃d,Dat K H x d/\Dat K H y d/\d.canLay0=true/\d.depth<=n
 |n,x,_,.flat h=>by
  cases x with
  |non=>exact⟨_,.non,.non,rfl,Fy _⟩
  |bl b=>exact⟨_,.bl b,.bl b,rfl,Fy _⟩
  |int i=>exact⟨_,.int i,.int i,rfl,Fy _⟩
  |_=>cases h
 |_,_,_,.str h=>⟨_,.str _,.str _,h,Fy _⟩
 |_,_,_,.lst (xs:=xs) (ys:=ys) e1 e2 hl h=>by
  obtain⟨ds,h1,h2,h3,h4⟩:=v9 xs ys hl h;exact⟨_,.lst e1 h1,.lst e2 h2,h3,LJ h4⟩
 |_,_,_,.tup (xs:=xs) (ys:=ys) e1 e2 hl h=>by
  obtain⟨ds,h1,h2,h3,h4⟩:=v9 xs ys hl h;exact⟨_,.tup e1 h1,.tup e2 h2,h3,LJ h4⟩
theorem v9{K:Fg}{H:Hp}{n:Nat}:∀(xs ys:List V),xs.length=ys.length->(∀(i:Nat)(x y:V),xs[i]?=some x->ys[i]?=some y->dR K H n x y)->∃ds,gS K H xs ds/\gS K H ys ds/\II ds=true/\Jv ds<=n
 | [],[],_,_=>⟨[],.nil,.nil,rfl,Fy _⟩
 |x::xs,y::ys,hl,h=>by
  obtain⟨d,a1,a2,a3,a4⟩:=Av (h 0 x y rfl rfl);obtain⟨ds,b1,b2,b3,b4⟩:=v9 xs ys (by simpa using hl) (fun i x y hx hy=>h (i+1) x y hx hy);refine⟨d::ds,.cons a1 b1,.cons a2 b2,?_,?_⟩
  ·show(d.canLay0&&II ds)=true
   rw[a3,b3];rfl
  ·show max d.depth (Jv ds)<=n
   omega
 | [],_::_,hl,_=>by simp at hl
 |_::_,[],hl,_=>by simp at hl
end
section
variable{X:Cx}
theorem sT(hu:X.A.units+64<cLine):OpR X (GE .Eq) (iZ X.K false):=by
 intro pins s σ H x y v u Q I rx ry h;obtain⟨n,hn,hd,q⟩:=h;obtain⟨d,h1,h2,h3,h4⟩:=Av hd;obtain⟨as,ra⟩:=h1.reads I rx;obtain⟨bs,rb⟩:=h2.reads I ry;have sh:JI d=true:=by unfold JI;rw[h3,decide_eq_true (by omega)];rfl
 refine eq_dataH ra rb sh sh hu ⟨.bl true,H,I,?_,q⟩;rw[SeqAt.eqv_refl d h3];rfl
theorem Aw(hu:X.A.units+64<cLine):OpR X (GE .NotEq) (iZ X.K true):=by
 intro pins s σ H x y v u Q I rx ry h;obtain⟨n,hn,hd,q⟩:=h;obtain⟨d,h1,h2,h3,h4⟩:=Av hd;obtain⟨as,ra⟩:=h1.reads I rx;obtain⟨bs,rb⟩:=h2.reads I ry;have sh:JI d=true:=by unfold JI;rw[h3,decide_eq_true (by omega)];rfl
 refine ne_dataH ra rb sh sh hu ⟨.bl false,H,I,?_,q⟩;rw[SeqAt.eqv_refl d h3];rfl
end
end
section
open PySem.Calls
section
variable{X:Cx}
end
end
section
open PySem.Spec PySem.Calls
section
variable{prog:Program}{w:World}{A:Around}{E:Value->Shared->Prop}{s:Shared}{a:Addr}
end
section
variable{X:Cx}
theorem Inv.drew{pins:List (Addr×Obj)}{σ:St}{H:Hp}{s:Shared}(I:Inv X pins σ H s)(dr):Inv X pins σ H { s with drawn:=dr }:=by
 cases I;constructor<;>assumption
end
end
section
open PySem.Spec PySem.Calls PySem.W
section
variable{prog:Program}{w:World}{A:Around}{E:Value->Shared->Prop}{s:Shared}{a:Addr}
theorem mn:∀{k:List Int} {l:List Value},ItemsAre (intKind prog w) k l->IntsAre l k
 |_,_,.nil=>.nil
 |_,_,.cons h t=>by
  obtain⟨tk,rfl⟩:=JR h;exact .cons _ tk (mn t)
theorem TKy.tupI{h:Heap}{k:List Int}{b:Addr}(x:TKy prog w h k b):TS.gR h (.ref b) k:=by
 obtain⟨o,items,n,ho,hc,hd,hi⟩:=x;exact⟨b,o,items,n,rfl,ho,hc,hd,mn hi⟩
open Classical in
noncomputable def eR(prog:Program)(w:World)(h:Heap)(v:Value):List Int:=if z:∃k,∃b,v=.ref b/\TKy prog w h k b then z.choose else[]
theorem Eb{h:Heap}{k:List Int}{b:Addr}(x:TKy prog w h k b):eR prog w h (.ref b)=k:=by
 unfold eR;have z:∃k,∃b',Fh b=.ref b'/\TKy prog w h k b':=⟨k,b,rfl,x⟩;rw[dif_pos z];obtain⟨b',e,y⟩:=z.choose_spec;injection e with e
 subst e;exact JK.inj y x
theorem ub{X:Addr->Prop}{ks:List (List Int)}{Q:Value->Shared->Prop}(hu:A.units+64<cLine)(calm:A.handled=none)(r:cY prog w X s.heap a ks (!cL w))(hn:ks.length<64)
  (q:∀(p:Addr)(h':Heap)(dr)(tk:Nat)(out:List Value)(e:Nat),(∀b o,s.heap.get? b=some o->h'.get? b=some o)->s.heap.objs.size<=p->h'.get? p=some (seqObj "list" out.toArray e)->(∀v∈out,∃b,v=.ref b/\TKy prog w s.heap (eR prog w s.heap v) b/\¬X b)->(out.map (eR prog w s.heap)).Perm ks->out.Pairwise (fun x y=>HT.bF (eR prog w s.heap y) (eR prog w s.heap x)=false)->Q (.ref p) { s with heap:=h',drawn:=dr,toks:=tk }):
  wpAny (model prog w) A (call (.builtin "sorted") [.ref a]) Q E s:=by
 refine call_function_entry kind_sorted plain_sorted entry_sorted (args_sorted1 _) ?_;unfold Builtin.«sorted»;refine EF (m:=checkCount "sorted" 1 1 _) (EJ ?_);apply EF;refine sP (A:=A.in1) calm r.toG fun h' dr tk ord acc pm kp gt it=>?_;have len:acc.toList.length=ks.length:=by rw[E9];exact it.1
 have told:∀(i:Nat)(v:Value),acc.toList[i]?=some v->∃b,v=.ref b/\ord[i]?=some (eR prog w s.heap v)/\TKy prog w s.heap (eR prog w s.heap v) b/\¬X b:=fun i v e=>by
  obtain⟨k,hk,b,rfl,hb,hbX⟩:=it.2 i v (by rw[<-Fq];exact e);rw[Eb hb];exact⟨b,rfl,hk,hb,hbX⟩
 have tm:∀v∈acc.toList,∃b,v=.ref b/\TKy prog w s.heap (eR prog w s.heap v) b/\¬X b:=fun v hv=>by
  obtain⟨i,hi⟩:=Kx hv;obtain⟨b,e,_,hb⟩:=told i v hi;exact⟨b,e,hb⟩
 have ords:acc.toList.map (eR prog w s.heap)=ord:=by
  refine G2 fun i=>?_;rw[EO];cases e:acc.toList[i]? with
  |none=>
   have h1:=List.getElem?_eq_none_iff.mp e;exact(FI (by rw[pm.length_eq];omega)).symm
  |some v=>
   obtain⟨b,_,ho,_⟩:=told i v e;exact ho.symm
 apply EF;refine wpAny_newList ?_ (by rw[len,EL];omega);have hoL:(h'.push (seqObj "list" acc.toList.toArray 0)).get? h'.objs.size=some (seqObj "list" acc.toList.toArray 0):=ES _ rfl;have ge:s.heap.objs.size<=h'.objs.size:=Gs gt;apply EF;apply FV;refine FD slot_list_sort ⟨_,hoL,rfl⟩ entry_list_sort ?_ (args_list_sort _);refine TS.ua (ltv:=fun x y=>HT.bF (eR prog w s.heap x) (eR prog w s.heap y)) hoL (by rw[len];omega) (fun h2=>?_) fun out a1 a2=>⟨_,rfl,?_⟩
 ·refine TS.yw (by first| (show A.units+1+1<cLine;omega)| (show A.units+1<cLine;omega)) h2 fun v hv=>?_
  obtain⟨b,rfl,hb,_⟩:=tm v hv;have hlt:b<h'.objs.size:=by
   obtain⟨o',_,_,ho',_⟩:=hb;exact EN (kp b o' ho')
  exact TKy.tupI (TKy.keep hb fun o' ho'=>TS.t9 (Fi hlt) (EH _ (kp b o' ho')))
 ·obtain⟨e,he⟩:=sortedHeap_at (n:=0) (vs:=acc.toList) (out:=out.toArray) hoL
  refine EJ ⟨_,rfl,q _ _ dr tk out e (fun b o eb=>?_) ge he (fun v hv=>tm v (a1.mem_iff.mp hv)) ?_ a2⟩
  ·have hb:=EN eb
   rw[sortedHeap_old (Fi (E8 hb ge)) (by rw[size_push'];exact FS (E8 hb ge))];exact EH _ (kp b o eb)
  ·have:=a1.map (eR prog w s.heap)
   rw[ords]at this;exact this.trans pm
end
end
section
open PySem.Calls
section
variable{X:Cx}
noncomputable def numsOf:List V->List Int:=Ov fun v=>match v with | .int n=>n|_=>0
theorem uc(ns:List Int):numsOf (ns.map V.int)=ns:=by
 unfold numsOf;rw[G6];exact List.map_id _
noncomputable def dW(H:Hp):Value->List Int
 | .ref a=>match H a with|some (.tup xs)=>numsOf xs|_=>[]
 |_=>[]
theorem qg{H:Hp}{a:Addr}{w:List Int}(e:H a=some (.tup (w.map V.int))):dW H (.ref a)=w:=by
 show(match H a with|some (.tup xs)=>numsOf xs|_=>[])=w;rw[e];exact uc w
theorem lh:∀{rs:List Addr} {its:List Value},aA (rs.map V.ref) its->its=rs.map Fh
 | [],_,.nil=>rfl
 |r::rs,_,.cons h t=>by
  cases (show _=Fh r from h);rw[lh t];rfl
theorem qh:∀(rs:List Addr),aA (rs.map V.ref) (rs.map Fh)
 | []=>.nil
 |r::rs=>.cons rfl (qh rs)
theorem li{H:Hp}:∀{rs:List Addr} {ws:List (List Int)},dG H rs ws->ws=rs.map fun a=>dW H (.ref a)
 |_,_,.nil=>rfl
 |_,_,.cons h t=>by rw[E6,qg h,<-li t]
theorem mY{H:Hp}:∀{rs:List Addr} {ws:List (List Int)},dG H rs ws->∀a∈rs,H a=some (.tup ((dW H (.ref a)).map V.int))
 |_,_,.nil,_,z=>nomatch z
 |_,_,.cons h t,a,z=>by
  rcases EV.mp z with rfl|z
  ·rw[qg h]
   exact h
  ·exact mY t a z
theorem uU{H:Hp}:∀{rs:List Addr},(∀a∈rs,H a=some (.tup ((dW H (.ref a)).map V.int)))->dG H rs (rs.map fun a=>dW H (.ref a))
 | [],_=>.nil
 |_::_,h=>.cons (h _ EW) (uU fun a ha=>h a (E3 _ ha))
end
end
section
open PySem.Spec PySem.Calls
section
variable{prog:Program}{w:World}{A:Around}{E:Value->Shared->Prop}{s:Shared}
theorem mq{P:Program}{w:World}:∀{l:List Value} {k:List Int},IntsAre l k->ItemsAre (intKind P w) k l
 |_,_,.nil=>.nil
 |_,_,.cons n t h=>.cons (by first|simp[intKind,Oa]| (unfold intKind;simp[Oa])) (mq h)
end
section
variable{X:Cx}
theorem wa{pins:List (Addr×Obj)}{σ:St}{H:Hp}{s:Shared}(I:Inv X pins σ H s){a:Addr}{w:List Int}(e:H a=some (.tup (w.map V.int)))(P:Program)(wd:World):JK (intKind P wd) s.heap w a:=by
 obtain⟨_,it,r2,o,e1,e2,⟨n,e3⟩,_⟩:=I.hok _ _ e;exact⟨o,it.toArray,n,e1,e2,e3,by simpa using mq (iz r2)⟩
theorem Dt(hu:X.A.units+64<cLine):OpR X (GE .In) zH:=by
 intro pins s σ H x y v u Q I rx ry h;obtain⟨p,q,w,rs,ws,rfl,rfl,eq,ep,tp,k⟩:=h;cases rx;cases ry;obtain⟨its,r,pl,hz⟩:=I.list (SqL.of ep);obtain rfl:=lh r;have hm:=mY tp;refine SeqAt.in_listAt (fun u=>decide (dW H u=w)) pl.isList (fun u hu'=>?_) ⟨.bl _,H,I,rfl,?_⟩
 ·obtain⟨a,ha,rfl⟩:=FB.mp (by simpa using hu')
  intro prog' w' E' Q' hq;exact K5 (knd:=intKind prog' w') (by first| (show X.A.units+1<cLine;omega)| (show X.A.units<cLine;omega)) (wa I (hm a ha) _ _) (wa I eq _ _) hq
 ·have:(rs.map Fh).toArray.any (fun u=>decide (dW H u=w))=decide (w∈ws):=by
   rw[List.any_toArray,List.any_map,li tp,HN,decide_eq_true_iff,List.any_eq_true,FB];constructor
   ·rintro⟨a,ha,e⟩;exact⟨a,ha,of_decide_eq_true e⟩
   ·rintro⟨a,ha,e⟩;exact⟨a,ha,decide_eq_true e⟩
  rw[this];exact k
theorem mr{e:Expr}{p p2 pos pos2:Pos}{t:TA}(hu:X.A.units+64<cLine)(hc:X.calm=true)(hm:X.mg "sorted"=none)(hm2:X.mg "set"=none)(ha:PA X [e] t)(hg:Gl X "sorted":=by rfl)(hg2:Gl X "set":=by rfl)
  (he:Fc [e] X.env=(false,eval e X.env)::Fc [] X.env:=by rfl) (hpl:(backTo pos2 (Fc [] X.env)).any (·.1)=false:=by rfl)
  (he1:Fc [.Call (.Name "set" p2) [e] [] pos2] X.env=(false,eval (.Call (.Name "set" p2) [e] [] pos2) X.env)::Fc [] X.env:=by rfl) (hpl1:(backTo pos (Fc [] X.env)).any (·.1)=false:=by rfl):
  PE X (.Call (.Name "sorted" p) [.Call (.Name "set" p2) [e] [] pos2] [] pos) (ig X.K t):=by
 intro pins s σ H Q I h;refine He (dC I hg hm boot_sorted ?_ (by decide) (by decide));refine Kk ?_ he1 hpl1;rw[he1];show wpAny _ _ (spliced ((false,eval (.Call (.Name "set" p2) [e] [] pos2) X.env)::backTo pos (Fc [] X.env))) _ _ s;refine KW ?_;refine He (dC I hg2 hm2 boot_set ?_ (by decide) (by decide));refine Gh (thn (ha pos2 pins s σ H _ I h) fun us s1 ⟨vs,H1,I1,r1,q1⟩=>?_) he hpl;obtain⟨l,rs,ws,ds,rfl,hq,tp,hds,hin,q⟩:=q1;obtain⟨u,rfl,rx⟩:=r1.one;cases rx;obtain⟨its,rv,pl,hz⟩:=I1.list hq;obtain rfl:=lh rv;have hws:=li tp;have hmm:=mY tp;have hlen:rs.length=ws.length:=by rw[hws,EI]
 have calm:X.A.handled=none:=I.ok.hd hc;have key:∀i a,rs[i]?=some a->ws.getD i []=dW H1 (.ref a):=fun i a ea=>by
  rw[hws,ER,EO,ea];rfl
 refine Ai (Y:=fun b=>b∈rs) (fun i=>ws.getD i []) hu calm pl.isList (fun i v hv=>?_) ds (by omega) (fun j hj=>?_) fun h' tk ks r mem kp=>?_
 ·rw[MQ,EO]at hv
  cases ea:rs[i]? with
  |none=>rw[ea]at hv;cases hv
  |some a=>
   rw[ea]at hv;cases hv;have hm':=E2 ea;exact⟨a,rfl,by rw[key i a ea];exact wa I1 (hmm a hm') _ _,hm'⟩
 ·rw[E7,EI]at hj
  refine hin _ ?_;rw[ER,EG (show j<ws.length by omega)];exact GK _
 have memI:∀y,y∈ks↔y∈ws:=fun y=>by
  rw[mem,E7,EI,hlen];constructor
  ·rintro⟨j,hj,rfl⟩
   rw[ER,EG hj];exact GK hj
  ·intro hy
   obtain⟨j,hj,rfl⟩:=List.getElem_of_mem hy;refine⟨j,hj,?_⟩;rw[ER,EG hj];rfl
 have nd:=r.nd;have kl:ks.length<64:=JB (uN nd fun y hy=>hin y ((memI y).mp hy)) (by omega);refine Lr ?_;refine ub hu calm r kl fun q' h2 dr tk2 out ex kp2 ge hx a0 a1 a2=>?_;have kk:∀b o,s1.heap.get? b=some o->h2.get? b=some o:=fun b o eb=>kp2 b o (kp b o (EN eb) eb);have ge1:s1.heap.objs.size<=q':=by
  obtain⟨o,es,ep,t,g1,_⟩:=r;exact Gs (E8 (EN g1) ge)
 have hf:H1 q'=none:=I1.hok.fresh ge1;have at_:∀v∈out,∃b,v=.ref b/\b∈rs/\eR X.prog X.w h' v=dW H1 (.ref b):=fun v hv=>by
  obtain⟨b,rfl,tb,nb⟩:=a0 v hv;have hb:b∈rs:=Gd nb;refine⟨b,rfl,hb,?_⟩;have tb1:=wa I1 (hmm b hb) X.prog X.w;have tb2:TKy X.prog X.w h' (dW H1 (.ref b)) b:=TKy.keep tb1 fun o eo=>kp b o (EN eo) eo;exact JK.inj tb tb2
 obtain⟨rs',rfl⟩:∃rs':List Addr,out=rs'.map Fh:=by
  have e:∀l:List Value,(∀v∈l,∃a,v=Fh a)->∃l':List Addr,l=l'.map Fh:=by
   intro l
   induction l with
   |nil=>exact fun _=>⟨[],rfl⟩
   |cons v l ih=>
    intro hv;obtain⟨a,rfl⟩:=hv v EW;obtain⟨l',rfl⟩:=ih fun u hu=>hv u (E3 _ hu);exact⟨a::l',rfl⟩
  exact e out fun v hv=>let⟨b,e,_⟩:=at_ v hv;⟨b,e⟩
 have at2:∀b∈rs',b∈rs/\eR X.prog X.w h' (.ref b)=dW H1 (.ref b):=fun b hb=>by
  obtain⟨b',e,h1,h2⟩:=at_ (.ref b) (FB.mpr ⟨b,hb,rfl⟩);cases e;exact⟨h1,h2⟩
 have pm:(rs'.map fun a=>dW H1 (.ref a)).Perm ks:=by
  have e:(rs'.map Fh).map (eR X.prog X.w h')=rs'.map fun a=>dW H1 (.ref a):=by
   rw[G6];exact Hu fun b hb=>(at2 b hb).2
  rw[<-e];exact a1
 have sm:=aH hf (.lst (rs'.map V.ref));refine⟨.ref q',_,(I1.laid (t':=tk2) (o:=.lst (rs'.map V.ref)) kk ge1 ?_).drew dr,rfl,q _ _ rs' (rs'.map fun a=>dW H1 (.ref a)) hf sm ay ?_ (pm.nodup_iff.mpr nd) fun y=>?_⟩
 ·have:rs'.length=ks.length:=by have:=pm.length_eq;rwa [EI]at this
  exact⟨by rw[EI,EL];omega,rs'.map Fh,ex,qh rs',hx⟩
 ·exact(uU fun a ha=>hmm a (at2 a ha).1).same sm
 ·rw[pm.mem_iff,memI]
end
end
section
open PySem.Spec
section
variable{X:Cx}
theorem Cj:MtX X "dict.get" r6:=by
 intro pins s σ H x ys u us Q I rx rys h;obtain⟨a,f,n,k,y,rfl,rfl,d,hk,hs,q⟩:=h;cases rx;cases rys with
 |cons r1 t1=>
  cases t1;rcases d with⟨_,kvs,e,hf,_⟩|⟨z,_⟩
  ·cases k with
   |inr _=>cases hs
   |inl k=>
    obtain⟨z,hd,vs,rel,dd⟩:=lM I.hok e;refine call_meetsIn MT dd.typeIs PySem.F.entry_dict_get (PySem.F.args_dict_get_2 _ _) (meets_dict_get (bS X.prog X.w) a (kz hk r1) hd) ⟨_,dd.mapOf,⟨_,H,I.tok _,?_,q⟩⟩;rw[<-hf k];exact(rel.val k).getD rfl
  ·cases z
end
end
section
open PySem.Spec
section
variable{X:Cx}
theorem qi(hc:X.calm=true):cw X (.builtin "sum") (fun xs H Q=>∃(p:Addr)(ns:List Int),xs=[.ref p]/\SqT X.K H p (ns.map V.int)/\Q (.int ns.sum) H):=by
 intro pins s σ H xs us Q I r h;obtain⟨p,ns,rfl,hq,q⟩:=h;obtain⟨u,rfl,rx⟩:=r.one;cases rx;obtain⟨its,rv,pl,hz⟩:=I.tuple hq;have hlen:ns.length=its.length:=by have:=rv.length;simpa using this
 have ia:=iz rv;refine call_sum_walkG (Jw pl ⟨s.heap.objs.size,_,_,_,_,_,fun i=>ns.getD i 0,rfl,Walks.tuple (show X.A.in1.handled=none from I.ok.hd hc) _ p (by obtain⟨o,ho,_⟩:=pl;exact Fi (EN ho)) its.toArray,
  ⟨⟨_,ES _ rfl,rfl,rfl⟩,(let⟨o,ho,hcc,hdd⟩:=pl;⟨o,EH _ ho,hcc,hdd⟩)⟩,fun b hb=>?_,?_,fun h' tk t' hk=>?_⟩)
 ·have hp:p<s.heap.objs.size:=by
   obtain⟨o,ho,_⟩:=pl;exact EN ho
  show b<(s.heap.push _).objs.size;rw[FA];rcases EV.mp hb with rfl|hb
  ·exact Gq _
  ·obtain rfl:=E5.mp hb
   exact FS hp
 ·intro i v hP
  have hP':its[i]?=some v:=by simpa using hP
  have hlt:i<ns.length:=by
   have:=(EK.mp hP').1;omega
  obtain⟨u',hu',ru'⟩:=rv.get (x:=.int ns[i]) (i:=i) (by rw[EO,EG hlt]<;>rfl);rw[hP']at hu';cases hu';obtain⟨t,e⟩:=(show∃t,v=HE ns[i] t from ru');refine⟨t,?_⟩;show v=HE (ns.getD i 0) t;rw[e,ER,EG hlt];rfl
 ·refine⟨.int ns.sum,H,I.walked hk,⟨t',?_⟩,q⟩
  rw[show its.toArray.size=ns.length by simp;omega,me ns _ (EM _),FT]
end
end
section
open PySem.Spec
section
variable{X:Cx}
theorem yx:cw X (.type "range") AU:=by
 intro pins s σ H xs us Q I r h;obtain⟨n,rfl,hn,q⟩:=h;obtain⟨u,rfl,rx⟩:=nj r;obtain⟨t,rfl⟩:=rx;exact call_range_1 ⟨.ref s.heap.objs.size,_,I.laid (a:=s.heap.objs.size) (o:=.rng 0 (n:Int)) (t':=s.toks+1+1) (fun _ _ q=>EH _ q) (EM _) ⟨_,_,_,ES _ rfl⟩,rfl,q.upd _ (I.hok.fresh (EM _))⟩
theorem yy{n:Nat}{acc:Array Value}(h:ItemsOf (fun i v=>∃t,v=.int ((0:Int)+i*1) t) acc n):aA ((EY n).map fun(i:Nat)=>V.int ((i:Nat):Int)) acc.toList:=by
 obtain⟨hl,hi⟩:=h;have go:∀(xs:List V)(us:List Value),xs.length=us.length->(∀(j:Nat)(x:V)(u:Value),xs[j]?=some x->us[j]?=some u->aB x u)->aA xs us:=by
  intro xs
  induction xs with
  |nil=>intro us hl _;cases us with
   |nil=>exact .nil
   |cons _ _=>simp at hl
  |cons x r ih=>intro us hl h;cases us with
   |nil=>simp at hl
   |cons u t=>exact .cons (h 0 x u rfl rfl) (ih t (by simpa using hl) fun j x u hx hu=>h (j+1) x u hx hu)
 refine go _ _ (by simp[hl]) fun j x u hx hu=>?_;rw[EO]at hx;cases e:(EY n)[j]? with
 |none=>rw[e]at hx;cases hx
 |some z=>
  rw[e]at hx;cases hx;obtain⟨h1,h2⟩:=EK.mp e;rw[HK]at h2;subst h2;obtain⟨t,rfl⟩:=hi j u (by rw[<-Fq];exact hu);exact⟨t,by simp⟩
theorem yz(hc:X.calm=true):cw X (.type "list") vG:=by
 intro pins s σ H xs us Q I r h;obtain⟨p,n,rfl,e,hn,q⟩:=h;obtain⟨u,rfl,rx⟩:=nj r;cases rx;obtain⟨t,u,v,hr⟩:=(show br X.prog X.w H s.heap p (.rng 0 (n:Int))from I.hok p _ e);refine call_list_range (n:=n) (show X.A.handled=none from I.ok.hd hc) hr (small_one (by omega) (by omega) (by omega) (by omega)) ?_ (by omega) fun h' tk acc' c' kp e' it=>?_
 ·rw[rangeSize_one];split<;>omega
 ·exact⟨.ref s.heap.objs.size,_,I.laid (t':=tk) kp (EM _) (show br X.prog X.w _ h' _ (.lst _)from⟨by rw[EI,Fw,EL];omega,acc'.toList,c',yy it,by simpa using e'⟩),rfl,q.upd _ (I.hok.fresh (EM _))⟩
end
end
section
open PySem.Spec
theorem sU{scope:Scope}{env:Env}{x:Str}(h:scope.names.lookup x=some .cell\/scope.names.lookup x=some .free):(relabel scope env).names.lookup x=some .cell\/(relabel scope env).names.lookup x=some .free:=by
 have go:∀ns:List (Str×FP),(ns.lookup x=some .cell\/ns.lookup x=some .free)->
   (ns.map fun(n,k)=>if(k==GH&&env.scope.kind== .function&&env.kindOf n==some .cell)then(n,J5)else(n,k)).lookup x=some .cell\/
   (ns.map fun(n,k)=>if(k==GH&&env.scope.kind== .function&&env.kindOf n==some .cell)then(n,J5)else(n,k)).lookup x=some .free:=by
  intro ns
  induction ns with
  |nil=>intro q;rcases q with q|q<;>simp at q
  |cons y r ih=>
   obtain⟨n,k'⟩:=y;intro q;rw[E6];rw[GJ]at q;by_cases hc:(k'==GH&&env.scope.kind== .function&&env.kindOf n==some .cell)=true
   ·simp only[hc,if_true]
    rw[GJ];cases e:x==n with
    |true=>exact .inl rfl
    |false=>rw[e]at q;exact ih q
   ·simp only[hc]
    rw[if_neg (by simp),GJ];cases e:x==n with
    |true=>rw[e]at q;exact q
    |false=>rw[e]at q;exact ih q
 exact go scope.names h
theorem yA{inner outer:Scope}{cl:List (Str×Addr)}{C:Addr}{env:Env}(h:∀y∈inner.names,y.2=.free->outer.names.lookup y.1=some .cell\/outer.names.lookup y.1=some .free):
  ∀y∈inner.names,y.2=.free->(MZ outer cl C env).scope.names.lookup y.1=some .cell\/(MZ outer cl C env).scope.names.lookup y.1=some .free:=fun y hy hk=>sU (h y hy hk)
end
section
open PySem.Spec
noncomputable abbrev jb(h:Heap)(z TI TO:Addr)(f0:Value)(f:Bool):Prop:=
 h.get? z=some { cls:=.type "zip",dict:=none,data:=.fields #[f0,.bool f,.bool false,.ref TI,.ref TO],slots:=#[] }
section
variable{prog:Program}{w:World}{A:Around}{E:Value->Shared->Prop}{s:Shared}
theorem ou{z TI TO a:Addr}{f:Bool}{oa:Obj}{Q:Bool->Shared->Prop}(hz:jb s.heap z TI TO (rawInt a) f)(ha:s.heap.get? a=some oa)(h:∀g1,jb g1 z TI TO (rawInt a) true->Fb z s.heap g1->Q false { s with heap:=g1 }):
  wpAny (model prog w) A (FQ (.ref z)) Q E s:=by
 obtain⟨hp,g,d,tk₀,os⟩:=s;unfold FQ;refine EF (Ga hz rfl (x:=rawInt a) rfl ?_);show wpAny _ _ (loadIfAlive ((a:Int).toNat)>>=_) _ _ _;rw[IF];refine EF (PySem.W.kdx_alive ha ?_);simp only[Option.isNone_some,Fe,if_false];refine EF (Ga hz rfl (x:=.bool f) rfl ?_);cases f with
 |true=>
  rw[if_neg (show¬((GN true != GN true)=true)from EU)];exact EJ (h hp hz (N4 _ _))
 |false=>
  rw[if_pos (show(GN false != GN true)=true from rfl)];exact EF (Hf hz (by simp) fun h₃ he₃ hs₃=>EJ (h h₃ he₃ hs₃))
theorem yB{z TI TO j1 j2 a:Addr}{f:Bool}{oa:Obj}{fp1 fp2:List Addr}{n1 n2 k:Nat}{P1 P2:Nat->Value->Prop}{S1 S2:Nat->Heap->Prop}{Q:Value->Shared->Prop}(Z:fW z TI TO j1 j2 fp1 fp2)
  (D1:Draws prog w A j1 fp1 n1 P1 S1) (D2:Draws prog w A j2 fp2 n2 P2 S2) (hz:jb s.heap z TI TO (rawInt a) f) (ha:s.heap.get? a=some oa) (hTI:IsPair s.heap TI (.ref j1) (.ref j2)) (h1:S1 k s.heap) (h2:S2 k s.heap) (l1:k<n1) (l2:k<n2)
  (hQ:∀x y h' tk,P1 k x->P2 k y->jb h' z TI TO (rawInt a) true->S1 (k+1) h'->S2 (k+1) h'->IsPair h' s.heap.objs.size x y->
   (∀c o,c∉[z,j1,j2]->s.heap.get? c=some o->h'.get? c=some o)->Q (.ref s.heap.objs.size) { s with heap:=h',toks:=tk }):
  wpAny (model prog w) A (Builtin.«zip.__next__» ⟨[.ref z],[]⟩) (fun fin s'=>∃v,fin=.done (.ret v)/\Q v s') E s:=by
 obtain⟨hp,g,d,tk₀,os⟩:=s;show wpAny _ _ (field (.ref z) 2>>=_) _ _ _;refine EF (Ga hz rfl (x:=.bool false) rfl ?_);show wpAny _ _ (field (.ref z) 3>>=_) _ _ _;refine EF (Ga hz rfl (x:=.ref TI) rfl ?_);refine EF (FG hTI rfl ?_);show wpAny _ _ (FQ (.ref z)>>=_) _ _ _;refine EF (ou hz ha fun g1 hz1 hs1=>?_);replace hs1:Fb z hp g1:=hs1;simp only[Fe,if_false];refine EF ?_;rw[<-Hg];simp only[Jt,KI];refine EF ?_;refine EF (FV ?_);show wpAny _ _ (FF (.ref j1)>>=_) _ _ _;refine EF (D1.item k ⟨g1,g,d,tk₀,os⟩ _ _ l1 (D1.but h1 hs1 Z.b1) fun x g2 tk1 px st1 hs2=>EJ ?_);replace hs2:Fb j1 g1 g2:=hs2;refine EJ ?_;refine EF ?_;refine EF (FV ?_);show wpAny _ _ (FF (.ref j2)>>=_) _ _ _;refine EF (D2.item k ⟨g2,g,d,tk1,os⟩ _ _ l2 (D2.but (D2.but h2 hs1 Z.b4) hs2 Z.b6) fun y g3 tk2 py st2 hs3=>EJ ?_);replace hs3:Fb j2 g2 g3:=hs3;refine EJ ?_;refine EJ ?_;show wpAny _ _ (Oq [x,y]>>=fun r=>ret r) _ _ _;have hsz:g3.objs.size=hp.objs.size:=by rw[hs3.1,hs2.1,hs1.1]
 refine EF (KJ (EJ ⟨_,rfl,?_⟩));have up:∀c o,g3.get? c=some o->(g3.push { cls:=.type "tuple",data:=.seq #[x,y] }).get? c=some o:=fun c o e=>EH _ e;have hz3:jb g3 z TI TO (rawInt a) true:=hs3.extBut _ _ Z.a4.symm (hs2.extBut _ _ Z.a3.symm hz1);have hT:IsPair (g3.push { cls:=.type "tuple",data:=.seq #[x,y] }) hp.objs.size x y:=by rw[<-hsz];exact ES _ rfl
 show Q (.ref g3.objs.size) _;rw[hsz];refine hQ x y _ tk2 px py (up _ _ hz3) (D1.frame _ _ _ (D1.but st1 hs3 Z.b3) fun c _ o e=>up c o e) (D2.frame _ _ _ st2 fun c _ o e=>up c o e) hT fun c o hc e=>?_;simp only[EV,FJ,or_false,not_or]at hc;exact up c o (hs3.extBut _ _ hc.2.2 (hs2.extBut _ _ hc.2.1 (hs1.extBut _ _ hc.1 e)))
theorem Ax{z TI TO j1 j2 a:Addr}{f:Bool}{oa:Obj}{fp1 fp2:List Addr}{n1 n2 k:Nat}{P1 P2:Nat->Value->Prop}{S1 S2:Nat->Heap->Prop}{Q:Fin->Shared->Prop}(Z:fW z TI TO j1 j2 fp1 fp2)
  (D1:Draws prog w A j1 fp1 n1 P1 S1) (D2:Draws prog w A j2 fp2 n2 P2 S2) (hz:jb s.heap z TI TO (rawInt a) f) (ha:s.heap.get? a=some oa) (hTI:IsPair s.heap TI (.ref j1) (.ref j2)) (h1:S1 k s.heap) (h2:S2 k s.heap) (l:k=min n1 n2)
  (hE:∀h' e tk,(∀c o,c∉[z,TI,TO,j1,j2]->s.heap.get? c=some o->h'.get? c=some o)->(∃o,h'.get? e=some o/\o.cls=.type "StopIteration")->E (.ref e) { s with heap:=h',toks:=tk }):
  wpAny (model prog w) A (Builtin.«zip.__next__» ⟨[.ref z],[]⟩) Q E s:=by
 obtain⟨hp,g,d,tk₀,os⟩:=s;have kp:∀{h':Heap},(∀c o,c≠z->c≠j1->c≠j2->hp.get? c=some o->h'.get? c=some o)->∀c o,c∉[z,TI,TO,j1,j2]->hp.get? c=some o->h'.get? c=some o:=fun{h'} q c o hc e=>by
  simp only[EV,FJ,or_false,not_or]at hc;exact q c o hc.1 hc.2.2.2.1 hc.2.2.2.2 e
 show wpAny _ _ (field (.ref z) 2>>=_) _ _ _;refine EF (Ga hz rfl (x:=.bool false) rfl ?_);show wpAny _ _ (field (.ref z) 3>>=_) _ _ _;refine EF (Ga hz rfl (x:=.ref TI) rfl ?_);refine EF (FG hTI rfl ?_);show wpAny _ _ (FQ (.ref z)>>=_) _ _ _;refine EF (ou hz ha fun g1 hz1 hs1=>?_);replace hs1:Fb z hp g1:=hs1;simp only[Fe,if_false];refine EF ?_;rw[<-Hg];simp only[Jt,KI];refine EF ?_;refine EF (FV ?_);show wpAny _ _ (FF (.ref j1)>>=_) _ _ _;by_cases hk:k=n1
 ·subst hk
  refine EF (D1.done ⟨g1,g,d,tk₀,os⟩ _ _ (D1.but h1 hs1 Z.b1) fun g2 e hs2 he=>?_);replace hs2:Jm j1 g1 g2:=hs2;exact hE g2 e tk₀ (kp fun c o c1 c2 _ q=>hs2 _ _ c2 (hs1.extBut _ _ c1 q)) he
 ·have hlt:k<n1:=by omega
  have hk2:k=n2:=by omega
  refine EF (D1.item k ⟨g1,g,d,tk₀,os⟩ _ _ hlt (D1.but h1 hs1 Z.b1) fun x g2 tk1 px st1 hs2=>EJ ?_);replace hs2:Fb j1 g1 g2:=hs2;refine EJ ?_;refine EF ?_;refine EF (FV ?_);show wpAny _ _ (FF (.ref j2)>>=_) _ _ _;subst hk2;refine EF (D2.done ⟨g2,g,d,tk1,os⟩ _ _ (D2.but (D2.but h2 hs1 Z.b4) hs2 Z.b6) fun g3 e hs3 he=>?_);replace hs3:Jm j2 g2 g3:=hs3;exact hE g3 e tk1 (kp fun c o c1 c2 c3 q=>hs3 _ _ c3 (hs2.extBut _ _ c2 (hs1.extBut _ _ c1 q))) he
noncomputable def ZSt(h:Heap)(z TI TO S:Addr)(i:Nat)(far:Addr->Prop):Prop:=(i=0/\IsZip h z TI TO .none/\∃u v,IsPair h TO u v)\/∃(a:Addr)(f:Bool)(oa:Obj),jb h z TI TO (rawInt a) f/\h.get? a=some oa/\far a/\a≠S
noncomputable def ZTs(P1 P2:Nat->Value->Prop)(lo:Addr)(h:Heap)(ts:List Addr):Prop:=∀(j:Nat)(t:Addr),ts[j]?=some t->lo<=t/\∃x y,P1 j x/\P2 j y/\IsPair h t x y
end
section
variable{prog:Program}{w:World}{A:Around}{s:Shared}{R:Result->Shared->Prop}
theorem Ay{z TI TO j1 j2 S lo:Addr}{fp1 fp2:List Addr}{n1 n2:Nat}{P1 P2:Nat->Value->Prop}{S1 S2:Nat->Heap->Prop}(hh:A.handled=none)(Z:fW z TI TO j1 j2 fp1 fp2)
  (D1:Draws prog w A.in1.in1 j1 fp1 n1 P1 S1) (D2:Draws prog w A.in1.in1 j2 fp2 n2 P2 S2) (hn:min n1 n2<=E1) (hS:S∉[z,TI,TO,j1,j2]) (hS1:S∉fp1) (hS2:S∉fp2) (hlo:∀c∈[z,TI,TO,j1,j2,S],c<lo) (hlo1:∀c∈fp1,c<lo) (hlo2:∀c∈fp2,c<lo) (res:Value) {h₁:Heap}
  (hR:∀h' tk acc c ts,(∀b o,b∉[z,TI,TO,j1,j2]->b≠S->h₁.get? b=some o->h'.get? b=some o)->h'.get? S=some { cls:=.type "list",dict:=none,data:=.seq acc c,slots:=#[] }->ts.length=min n1 n2->ZTs P1 P2 lo h' ts->
   acc.toList=ts.map Fh->R (.ok (.ret res)) { s with heap:=h',toks:=tk }):
  ∀(m i:Nat)(h:Heap)(tk c:Nat)(acc:Array Value)(ts:List Addr),min n1 n2-i=m->i<=min n1 n2->ZSt h z TI TO S i (fun a=>lo<=a)->IsPair h TI (.ref j1) (.ref j2)->S1 i h->S2 i h->(∀b o,b∉[z,TI,TO,j1,j2]->b≠S->h₁.get? b=some o->h.get? b=some o)->
   h.get? S=some { cls:=.type "list",dict:=none,data:=.seq acc c,slots:=#[] }->acc.toList=ts.map Fh->ts.length=i->ZTs P1 P2 lo h ts->lo<=h.objs.size->
   codeAny (model prog w) A (.builtin "list.extend.loop" ⟨[.ref S,.ref z,res],[]⟩) R { s with heap:=h,toks:=tk }:=by
 have notin:∀t,lo<=t->t∉[z,TI,TO,j1,j2]/\t≠S/\t∉fp1/\t∉fp2:=fun t ht=>⟨fun hm=>by
  have:=hlo t (show t∈[z,TI,TO,j1,j2]++[S]from F6 _ hm);exact absurd ht (Kz.mpr this),fun e=>by
  have:=hlo S (by simp);rw[e]at ht;exact absurd ht (Kz.mpr this),fun hm=>absurd ht (Kz.mpr (hlo1 t hm)),fun hm=>absurd ht (Kz.mpr (hlo2 t hm))⟩
 intro m
 induction m with
 |zero=>
  intro i h tk c acc ts hk hi hst hTI st1 st2 hkeep hSS hacc hal hG hls;have hin:i=min n1 n2:=by omega
  refine Gy LC ?_;rw[Gg GU _];show wpAny _ A.in1 (pyNext (.ref z)>>=_) _ _ _;have done:∀h':Heap,∀tk',(∀c o,c∉[z,TI,TO,j1,j2]->h.get? c=some o->h'.get? c=some o)->R (.ok (.ret res)) { s with heap:=h',toks:=tk' }:=fun h' tk' kp=>by
   refine hR h' tk' acc c ts (fun b o h1 h2 e=>kp b o h1 (hkeep b o h1 h2 e)) (kp S _ hS hSS) (by omega) (fun j t hj=>?_) hacc;obtain⟨hlt,x,y,p1,p2,e⟩:=hG j t hj;exact⟨hlt,x,y,p1,p2,kp t _ (notin t hlt).1 e⟩
  have hT:Nh { s with heap:=h,toks:=tk } (.ref z) "zip":=by
   rcases hst with⟨_,hz,_⟩|⟨a,f,oa,hz,_⟩
   ·exact⟨_,hz,rfl⟩
   ·exact⟨_,hz,rfl⟩
  unfold pyNext;refine EF (EF (Hs (FX (name:=GA "__next__") hT Hj (FD Hj hT J9 ?_ (JT _)))));rcases hst with⟨_,hz,u,v,hTO⟩|⟨a,f,oa,hz,ha,_,_⟩
  ·refine rF (s:={ s with heap:=h,toks:=tk }) Z D1 D2 hz hTI hTO st1 st2 hin fun h' e tk' kp he=>?_
   obtain⟨o,ho,hcl⟩:=he;exact EF (GW (T:="StopIteration") (b:=true) ⟨o,ho,hcl⟩ JJ (EJ (EJ (done h' tk' kp))))
  ·refine Ax (s:={ s with heap:=h,toks:=tk }) Z D1 D2 hz ha hTI st1 st2 hin fun h' e tk' kp he=>?_
   obtain⟨o,ho,hcl⟩:=he;exact EF (GW (T:="StopIteration") (b:=true) ⟨o,ho,hcl⟩ JJ (EJ (EJ (done h' tk' kp))))
 |succ m ih=>
  intro i h tk c acc ts hk hi hst hTI st1 st2 hkeep hSS hacc hal hG hls;have hlt:i<min n1 n2:=by omega
  have hsz:acc.size=i:=by rw[<-E9,hacc,EI,hal]
  refine Gy LC ?_;rw[Gg GU _];show wpAny _ A.in1 (pyNext (.ref z)>>=_) _ _ _;have hT:Nh { s with heap:=h,toks:=tk } (.ref z) "zip":=by
   rcases hst with⟨_,hz,_⟩|⟨a,f,oa,hz,_⟩
   ·exact⟨_,hz,rfl⟩
   ·exact⟨_,hz,rfl⟩
  have item:∀(h':Heap)(tk':Nat)(x y:Value),P1 i x->P2 i y->ZSt h' z TI TO S (i+1) (fun a=>lo<=a)->S1 (i+1) h'->S2 (i+1) h'->IsPair h' h.objs.size x y->(∀c o,c∉[z,TO,j1,j2]->h.get? c=some o->h'.get? c=some o)->
    wpAny (model prog w) A.in1 (Mi (.ref S) (·.push (Fh h.objs.size))>>=fun _=>again (.builtin "list.extend.loop" ⟨[.ref S,.ref z,res],[]⟩)) (fun fin s'=>match fin with | .done f=>R (.ok f) s' | .again c'=>c'.quiet=true/\codeAny (model prog w) A c' R s') (fun e s'=>R (.error e) s') { s with heap:=h',toks:=tk' }:=by
   intro h' tk' x y px py hst' st1' st2' ht kp;have sub:∀c,c∉[z,TI,TO,j1,j2]->c∉[z,TO,j1,j2]:=fun c hc hm=>hc (by
    simp only[EV,FJ,or_false]at hm ⊢;rcases hm with e|e|e|e
    ·exact .inl e
    ·exact .inr (.inr (.inl e))
    ·exact .inr (.inr (.inr (.inl e)))
    ·exact .inr (.inr (.inr (.inr e))))
   have hS':=kp S _ (sub S hS) hSS;have up:∀b o,b≠S->h'.get? b=some o->(h'.update S (GD (·.push (Fh h.objs.size)))).get? b=some o:=fun b o hb e=>(FU _ _ (Ge hb)).trans e;have hSl:S<h.objs.size:=EN hSS;have zS:∀c∈[z,TI,TO,j1,j2],c≠S:=fun c hc e=>hS (by rw[<-e];exact hc);have hTI':IsPair h' TI (.ref j1) (.ref j2):=kp TI _ (by
    simp only[EV,FJ,or_false,not_or];exact⟨Z.a1,Z.a5,Z.a6,Z.a7⟩) hTI
   show wpAny _ A.in1 (JH S (·.push (Fh h.objs.size))>>=_) _ _ _;refine EF ?_;refine G3 hS' rfl (EJ ⟨GQ GU _,ih (i+1) _ tk' _ (acc.push (Fh h.objs.size)) (ts++[h.objs.size]) (by omega) hlt ?_ (up TI _ (zS TI (by simp)) hTI')
    (D1.frame _ _ _ st1' fun b hb o e=>up b o (fun q=>hS1 (by rw[<-q];exact hb)) e) (D2.frame _ _ _ st2' fun b hb o e=>up b o (fun q=>hS2 (by rw[<-q];exact hb)) e)
    (fun b o h1 h2 e=>up b o h2 (kp b o (sub b h1) (hkeep b o h1 h2 e))) (FH _ hS' rfl) (by rw[Lx,hacc,ET];rfl) (by rw[EX,hal];rfl) ?_ ?_⟩) (by rw[hsz];omega) (by show(acc.push (Fh h.objs.size)).size<=E1+1;rw[Array.size_push,hsz];omega)
   ·rcases hst' with⟨e,_⟩|⟨a,f,oa,hz,ha,hfar,haS⟩
    ·omega
    ·exact .inr ⟨a,f,oa,up _ _ (zS z (by simp)) hz,up _ _ haS ha,hfar,haS⟩
   ·intro j t hj
    rcases GG j ts.length with c|c|c
    ·rw[Gb c]at hj
     obtain⟨hl,x',y',p1,p2,e⟩:=hG j t hj;obtain⟨n1',n2',_,_⟩:=notin t hl;exact⟨hl,x',y',p1,p2,up t _ n2' (kp t _ (sub t n1') e)⟩
    ·subst c
     have hb:h.objs.size=t:=by simpa using hj
     subst hb;rw[hal];exact⟨hls,x,y,px,py,up _ _ (G5 hSl) ht⟩
    ·rw[FI (by rw[EX,Kc];omega)]at hj
     cases hj
   ·have e:(h'.update S (GD (·.push (Fh h.objs.size)))).get? h.objs.size=_:=up _ _ (G5 hSl) ht
    exact Fz hls (Gs (EN e))
  unfold pyNext;refine EF (EF (Hs (FX (name:=GA "__next__") hT Hj (FD Hj hT J9 ?_ (JT _)))));have hSl:S<h.objs.size:=EN hSS;rcases hst with⟨_,hz,u,v,hTO⟩|⟨a,f,oa,hz,ha,hfar,haS⟩
  ·refine pR (s:={ s with heap:=h,toks:=tk }) Z D1 D2 hz hTI hTO st1 st2 (by omega) (by omega) fun x y h' tk' px py z1 z2 z3 z4 z5 z6 z7=>EJ ?_
   refine item h' tk' x y px py (.inr ⟨_,false,_,z1,z5,hls,G5 hSl⟩) z3 z4 z5 fun c o hc e=>?_;by_cases q:c=TI
   ·rw[q]at e ⊢
    have:o=_:=Fd (e.symm.trans hTI);rw[this];exact z7
   ·refine z6 c o ?_ e
    simp only[EV,FJ,or_false,not_or]at hc ⊢;exact⟨hc.1,q,hc.2⟩
  ·refine yB (s:={ s with heap:=h,toks:=tk }) Z D1 D2 hz ha hTI st1 st2 (by omega) (by omega) fun x y h' tk' px py z1 z3 z4 z5 z6=>EJ ?_
   have na:=(notin a hfar).1;refine item h' tk' x y px py (.inr ⟨a,true,oa,z1,z6 a oa ?_ ha,hfar,haS⟩) z3 z4 z5 fun c o hc e=>z6 c o ?_ e
   ·simp only[EV,FJ,or_false,not_or]at na ⊢
    exact⟨na.1,na.2.2.2.1,na.2.2.2.2⟩
   ·simp only[EV,FJ,or_false,not_or]at hc ⊢
    exact⟨hc.1,hc.2.2.1,hc.2.2.2⟩
end
end
section
open PySem.Spec
theorem Inv.news{X:Cx}{pins:List (Addr×Obj)}{σ:St}{H H':Hp}{s:Shared}{h':Heap}{t':Nat}(I:Inv X pins σ H s)(k:∀b u,s.heap.get? b=some u->h'.get? b=some u)(hH:∀b,b<s.heap.objs.size->H' b=H b)
  (new:∀a o,s.heap.objs.size<=a->H' a=some o->br X.prog X.w H' h' a o):Inv X pins σ H' { s with heap:=h',toks:=t' }:=by
 have same:∀b o,H b=some o->H' b=some o:=fun b o e=>(hH b (I.hok.lt e)).trans e;refine I.un ⟨fun b o q _ _ _=>k b o q,fun b o q _ _ _=>⟨o.slots,k b o q⟩,fun b o q n _=>(hH b (EN q)).trans n,fun b o q _=>⟨o,k b o q⟩,fun b xs e=>same b _ e,fun b o u e=>same b _ e,fun b ps e=>⟨#[],by rw[same b _ e];simp⟩⟩ fun a o e=>?_;by_cases c:a<s.heap.objs.size
 ·rw[hH a c]at e
  exact(I.hok a o e).stay (fun b u _ q=>k b u q) (fun b q=>same b _ q) fun b xs q=>same b _ q
 ·exact new a o (Lz.mp c) e
theorem Az{prog:Program}{w:World}{A:Around}{E:Value->Shared->Prop}{s:Shared}{z:Addr}{Q:Bool->Shared->Prop}(hT:s.TypeIs (.ref z) "zip")(h:Q true s):wpAny (model prog w) A (HL (.ref z)) Q E s:=by
 unfold HL;refine EF (Gx hT (show MU (.type "zip") "__len__"=pure none by rw[Ky,IU];kernel_rfl) ?_);show wpAny _ _ (specialOf (Fh z) (GA "__length_hint__")>>=_) _ _ _;refine EF (Gx hT (show MU (.type "zip") "__length_hint__"=pure none by rw[Ky,IU];kernel_rfl) ?_);exact EJ h
section
variable{prog:Program}{w:World}{A:Around}{E:Value->Shared->Prop}{s:Shared}
theorem wb{z TI TO j1 j2 S:Addr}{fp1 fp2:List Addr}{n1 n2:Nat}{P1 P2:Nat->Value->Prop}{S1 S2:Nat->Heap->Prop}{R:Result->Shared->Prop}(hh:A.handled=none)(Z:fW z TI TO j1 j2 fp1 fp2)
  (D1:Draws prog w A.in1.in1 j1 fp1 n1 P1 S1) (D2:Draws prog w A.in1.in1 j2 fp2 n2 P2 S2) (hn:min n1 n2<=E1) (hS:S∉[z,TI,TO,j1,j2]) (hS1:S∉fp1) (hS2:S∉fp2) (hlo:∀c∈[z,TI,TO,j1,j2,S],c<s.heap.objs.size) (hlo1:∀c∈fp1,c<s.heap.objs.size) (hlo2:∀c∈fp2,c<s.heap.objs.size)
  (hz:IsZip s.heap z TI TO .none) {u v:Value} (hTO:IsPair s.heap TO u v) (hTI:IsPair s.heap TI (.ref j1) (.ref j2)) (st1:S1 0 s.heap) (st2:S2 0 s.heap) {c₀:Nat} (hSS:s.heap.get? S=some { cls:=.type "list",data:=.seq #[] c₀ })
  (hR:∀h' tk acc c ts,(∀b o,b∉[z,TI,TO,j1,j2]->b≠S->s.heap.get? b=some o->h'.get? b=some o)->h'.get? S=some { cls:=.type "list",dict:=none,data:=.seq acc c,slots:=#[] }->ts.length=min n1 n2->ZTs P1 P2 s.heap.objs.size h' ts->
   acc.toList=ts.map Fh->R (.ok (.ret .none)) { s with heap:=h',toks:=tk }):
  wpAny (model prog w) A.in1 (GF (.ref S) (.ref z) .none)
   (fun fin s'=>match fin with | .done f=>R (.ok f) s' | .again c'=>c'.quiet=true/\codeAny (model prog w) A c' R s') (fun e s'=>R (.error e) s') s:=by
 have zS:∀c∈[z,TI,TO,j1,j2],c≠S:=fun c hc e=>hS (by rw[<-e];exact hc);have hT:s.TypeIs (.ref z) "zip":=⟨_,hz,rfl⟩;unfold GF;refine EF (Kl (T:="zip") hT ?_);have h1:Ii (.ref S) (.ref z)=false:=by simp[Ii,(zS z (by simp)).symm]
 have h2:(FE "zip"==FE "list")=false:=by decide
 have h3:(FE "zip"==FE "tuple")=false:=by decide
 simp only[h1,h2,h3,Bool.or_false,Fe,if_false];refine EF (LM hz ?_);refine EF (FV (Az hT ?_));rw[if_pos (by simp)];refine EF (Ha ?_);refine EF ?_;show wpAny _ _ (JH S (·.push .none)>>=fun _=>JH S (·.pop)) _ _ _;refine EF (G3 hSS rfl ?_);have hS₂:=FH (GD (·.push GC)) hSS rfl;refine G3 (hz:=by seq_fits) hS₂ rfl ?_;have hS₃:=FH (GD (·.pop)) hS₂ rfl;have oth:∀b o,b≠S->s.heap.get? b=some o->((s.heap.update S (GD (·.push GC))).update S (GD (·.pop))).get? b=some o:=fun b o hb e=>
  (FU _ _ (Ge hb)).trans ((FU _ _ (Ge hb)).trans e)
 refine EJ ⟨GQ GU _,Ay (s:=s) (lo:=s.heap.objs.size) (h₁:=s.heap) hh Z D1 D2 hn hS hS1 hS2 hlo hlo1 hlo2 .none hR (min n1 n2) 0 _ _ _ #[] [] (LP _) (Fy _) (.inl ⟨rfl,oth z _ (zS z (by simp)) hz,u,v,oth TO _ (zS TO (by simp)) hTO⟩) (oth TI _ (zS TI (by simp)) hTI)
  (D1.frame _ _ _ st1 fun b hb o e=>oth b o (fun q=>hS1 (by rw[<-q];exact hb)) e) (D2.frame _ _ _ st2 fun b hb o e=>oth b o (fun q=>hS2 (by rw[<-q];exact hb)) e) (fun b o _ hb e=>oth b o hb e) hS₃ rfl rfl (fun j t hj=>by simp at hj) ?_⟩
 rw[Je,Je];exact EM _
theorem AA{z TI TO j1 j2:Addr}{fp1 fp2:List Addr}{n1 n2:Nat}{P1 P2:Nat->Value->Prop}{S1 S2:Nat->Heap->Prop}{Q:Value->Shared->Prop}(hh:A.handled=none)(Z:fW z TI TO j1 j2 fp1 fp2)
  (D1:∀A':Around,A'.handled=none->Draws prog w A' j1 fp1 n1 P1 S1) (D2:∀A':Around,A'.handled=none->Draws prog w A' j2 fp2 n2 P2 S2) (hn:min n1 n2<=E1) (hlo:∀c∈[z,TI,TO,j1,j2],c<s.heap.objs.size) (hlo1:∀c∈fp1,c<s.heap.objs.size) (hlo2:∀c∈fp2,c<s.heap.objs.size)
  (hz:IsZip s.heap z TI TO .none) {u v:Value} (hTO:IsPair s.heap TO u v) (hTI:IsPair s.heap TI (.ref j1) (.ref j2)) (st1:S1 0 s.heap) (st2:S2 0 s.heap)
  (hQ:∀h' tk acc c ts,(∀b o,b∉[z,TI,TO,j1,j2]->s.heap.get? b=some o->h'.get? b=some o)->h'.get? s.heap.objs.size=some { cls:=.type "list",dict:=none,data:=.seq acc c,slots:=#[] }->ts.length=min n1 n2->ZTs P1 P2 (s.heap.objs.size+1) h' ts->
   acc.toList=ts.map Fh->Q (.ref s.heap.objs.size) { s with heap:=h',toks:=tk }):
  wpAny (model prog w) A (call (.type "list") [.ref z]) Q E s:=by
 refine callType_codes (Q₁:=fun obj s₁=>obj=.ref s.heap.objs.size/\s₁={ s with heap:=s.heap.push { cls:=.type "list",data:=.seq #[] } }) PySem.F.called_list (PySem.F.typeCall_list_1 _) PySem.F.entry_list_init
  (code_list_new _ ⟨rfl,rfl⟩) fun obj s₁ h₁=>?_
 obtain⟨rfl,rfl⟩:=h₁;have hS:(s.heap.push { cls:=.type "list",data:=.seq #[] }).get? s.heap.objs.size=some { cls:=.type "list",data:=.seq #[] }:=ES _ rfl;refine⟨⟨_,hS,rfl⟩,PySem.F.args_list_init_2 _ _,?_⟩;show wpAny _ _ (do let old <-Mz (.ref s.heap.objs.size);Mi (.ref s.heap.objs.size) (fun _=>#[]);letGo old.toList.reverse;GF (.ref s.heap.objs.size) (.ref z) .none) _ _ _;refine EF ?_;unfold Mz;refine EF (FG hS rfl (EJ ?_));show wpAny _ _ (JH s.heap.objs.size (fun _=>#[])>>=fun _=>letGo (#[]:Array Value).toList.reverse>>=fun _=>GF (.ref s.heap.objs.size) (.ref z) .none) _ _ _;refine EF (G3 hS rfl ?_);have hS₂:=FH (GD (fun _=>(#[]:Array Value))) hS rfl;have oth:∀b o,b≠s.heap.objs.size->(s.heap.push { cls:=.type "list",data:=.seq #[] }).get? b=some o->((s.heap.push { cls:=.type "list",data:=.seq #[] }).update s.heap.objs.size (GD (fun _=>(#[]:Array Value)))).get? b=some o:=
  fun b o hb e=>(FU _ _ (Ge hb)).trans e
 have oth':∀b o,s.heap.get? b=some o->((s.heap.push { cls:=.type "list",data:=.seq #[] }).update s.heap.objs.size (GD (fun _=>(#[]:Array Value)))).get? b=some o:=fun b o e=>oth b o (Fi (EN e)) (EH _ e);have sz:((s.heap.push { cls:=.type "list",data:=.seq #[] }).update s.heap.objs.size (GD (fun _=>(#[]:Array Value)))).objs.size=s.heap.objs.size+1:=by rw[Je,FA]
 refine EF (Iy ?_);refine wb (A:=A.in1) hh Z (D1 _ hh) (D2 _ hh) hn (fun hm=>FM _ (hlo _ hm)) (fun hm=>FM _ (hlo1 _ hm)) (fun hm=>FM _ (hlo2 _ hm)) (fun c hc=>?_) (fun c hc=>?_) (fun c hc=>?_) (oth' _ _ hz) (oth' _ _ hTO) (oth' _ _ hTI)
  ((D1 _ hh).frame _ _ _ st1 fun b _ o e=>oth' b o e) ((D2 _ hh).frame _ _ _ st2 fun b _ o e=>oth' b o e) hS₂ (fun h' tk acc c ts hk hS' hl hG hacc=>?_)
 ·show c<((s.heap.push { cls:=.type "list",data:=.seq #[] }).update s.heap.objs.size (GD (fun _=>(#[]:Array Value)))).objs.size
  rw[sz];rcases FC.mp (show c∈[z,TI,TO,j1,j2]++[s.heap.objs.size]from hc)with hc|hc
  ·exact FS (hlo c hc)
  ·rw[E5.mp hc];exact Gq _
 ·show c<((s.heap.push { cls:=.type "list",data:=.seq #[] }).update s.heap.objs.size (GD (fun _=>(#[]:Array Value)))).objs.size
  rw[sz];exact FS (hlo1 c hc)
 ·show c<((s.heap.push { cls:=.type "list",data:=.seq #[] }).update s.heap.objs.size (GD (fun _=>(#[]:Array Value)))).objs.size
  rw[sz];exact FS (hlo2 c hc)
 ·have hG':ZTs P1 P2 (s.heap.objs.size+1) h' ts:=by rw[<-sz];exact hG
  exact⟨rfl,hQ h' tk acc c ts (fun b o hb e=>hk b o hb (Fi (EN e)) (oth' b o e)) hS' hl hG' hacc⟩
end
section
variable{X:Cx}
theorem Ck{h:Heap}{us vs:List Value}{xs ys:List V}{lo:Addr}{ts:List Addr}(ru:aA xs us)(rv:aA ys vs)(hl:ts.length=min us.length vs.length)(G:ZTs (fun i v=>us.toArray[i]?=some v) (fun i v=>vs.toArray[i]?=some v) lo h ts):
  ∀(i:Nat)(t:Addr),ts[i]?=some t->lo<=t/\∃x y u v,xs[i]?=some x/\ys[i]?=some y/\aB x u/\aB y v/\IsPair h t u v:=fun i t ht=>by
 obtain⟨h1,u,v,p1,p2,e⟩:=G i t ht;have hi:i<ts.length:=(EK.mp ht).1;have l1:=ru.length;have l2:=rv.length;obtain⟨x,hx⟩:∃x,xs[i]?=some x:=⟨_,EG (by omega)⟩;obtain⟨y,hy⟩:∃y,ys[i]?=some y:=⟨_,EG (by omega)⟩;obtain⟨u',hu',ru'⟩:=ru.get hx;obtain⟨v',hv',rv'⟩:=rv.get hy;have eu:u=u':=by
  have:us.toArray[i]?=some u':=by simpa using hu'
  rw[this]at p1;exact(Fd p1).symm
 have ev:v=v':=by
  have:vs.toArray[i]?=some v':=by simpa using hv'
  rw[this]at p2;exact(Fd p2).symm
 subst eu ev;exact⟨h1,x,y,u,v,hx,hy,ru',rv',e⟩
theorem sV{x y:V}{u:Value}(a:aB x u)(b:aB y u):x=y:=by
 cases x<;>cases y<;>simp only[aB]at a b<;>first
  |rfl
  | (subst a;cases b;rfl)
  | (subst a;cases b;done)
  | (obtain⟨t,rfl⟩:=a;obtain⟨t',e⟩:=b;cases e;rfl)
  | (obtain⟨t,rfl⟩:=a;obtain⟨t',e⟩:=b;cases e;done)
  | (obtain⟨t,rfl⟩:=a;cases b;done)
  | (subst a;obtain⟨t',e⟩:=b;cases e;done)
theorem Cl(S1 S2:Src){a b:Expr}{ta:TA}{p pos p2 pos2:Pos}(hc:X.calm=true)(hgl:Gl X "list")(hml:X.mg "list"=none)(hg:Gl X "zip")(hm:X.mg "zip"=none)(ha:PA X [a,b] ta)
  (hs:Fc [a,b] X.env=[(false,eval a X.env),(false,eval b X.env)]:=by rfl) (hs2:Fc [b] X.env=[(false,eval b X.env)]:=by rfl)
  (hs3:Fc [.Call (.Name "zip" p2) [a,b] [] pos2] X.env=[(false,eval (.Call (.Name "zip" p2) [a,b] [] pos2) X.env)]:=by rfl):
  PE X (.Call (.Name "list" p) [.Call (.Name "zip" p2) [a,b] [] pos2] [] pos) (vH S1 S2 X.K ta):=by
 intro pins s σ H Q I h;refine He (dC I hgl hml Ms (Gh ?_ hs3 rfl));rw[hs3];show wpAny _ _ (spliced [(false,eval (.Call (.Name "zip" p2) [a,b] [] pos2) X.env)]) _ _ s;refine KW ?_;refine Call_ (dC I hg hm boot_zip (Gh (thn (ha pos2 pins s σ H _ I h) fun us s1 ⟨vs,H1,I1,r1,q1⟩=>?_) (by rw[hs,hs2]) (by rw[hs2];rfl)));obtain⟨l1,l2,xs,ys,e,hq1,hq2,hxl,q⟩:=q1;subst e;obtain⟨u,v,rfl,ru,rv⟩:=r1.two;cases ru;cases rv;obtain⟨us1,rv1,p1,_⟩:=S1.get I1 hq1;obtain⟨us2,rv2,p2',_⟩:=S2.get I1 hq2;refine NB F.called_zip (by decide) (Ot _ _) (OI _ _) (fun obj=>M0 obj _ _) OJ (ut S1 S2 l1 l2 us1.toArray us2.toArray) ⟨p1,p2',?_⟩;generalize hn:s1.heap.objs.size=n;have z1:(zh1 S1 s1.heap l1).objs.size=n+1:=by rw[FA,hn]
 have z2:(zh2 S1 S2 s1.heap l1 l2).objs.size=n+2:=by rw[FA,z1]
 have z3:(zh3 S1 S2 s1.heap l1 l2).objs.size=n+3:=by rw[FA,z2]
 have z4:(zh4 S1 S2 s1.heap l1 l2).objs.size=n+4:=by rw[FA,z3]
 have z5:(zh5 S1 S2 s1.heap l1 l2).objs.size=n+5:=by rw[FA,z4]
 have g5:(zh5 S1 S2 s1.heap l1 l2).get? (zh4 S1 S2 s1.heap l1 l2).objs.size=some _:=ES _ rfl;have g4:(zh5 S1 S2 s1.heap l1 l2).get? (zh3 S1 S2 s1.heap l1 l2).objs.size=some _:=EH _ (ES _ rfl);have g3:(zh5 S1 S2 s1.heap l1 l2).get? (zh2 S1 S2 s1.heap l1 l2).objs.size=some _:=EH _ (EH _ (ES _ rfl));have g2:(zh5 S1 S2 s1.heap l1 l2).get? (zh1 S1 s1.heap l1).objs.size=some _:=EH _ (EH _ (EH _ (ES _ rfl)));have g1:(zh5 S1 S2 s1.heap l1 l2).get? s1.heap.objs.size=some _:=EH _ (EH _ (EH _ (EH _ (ES _ rfl))));have kp:∀c o,s1.heap.get? c=some o->(zh5 S1 S2 s1.heap l1 l2).get? c=some o:=fun c o e=>
  EH _ (EH _ (EH _ (EH _ (EH _ e))))
 show _/\_;rw[z2,z3,z4]at g5;rw[z1,z2,hn]at g3;rw[z3]at g4;rw[z1]at g2;rw[hn]at g1;rw[z4];refine⟨⟨_,g5,rfl⟩,Lr ?_⟩;have lt1:l1<n:=by
  obtain⟨o,_,ho,_⟩:=S1.isSeq p1;rw[<-hn];exact EN ho
 have lt2:l2<n:=by
  obtain⟨o,_,ho,_⟩:=S2.isSeq p2';rw[<-hn];exact EN ho
 have five:∀c:Nat,c∈[n+4,n+2,n+3,n,n+1]->n<=c/\c<n+5:=fun c hc=>by
  simp only[EV,FJ,or_false]at hc;omega
 have nel:∀l c:Nat,l<n->n<=c->c≠l:=fun l c h1 h2=>by omega
 have Z:fW (n+4) (n+2) (n+3) n (n+1) [n,l1] [n+1,l2]:=zap (by simp) (fun c hc=>nel l1 c lt1 (five c hc).1) (fun c hc=>nel l2 c lt2 (five c hc).1);have is1:S1.Is (zh5 S1 S2 s1.heap l1 l2) l1 us1.toArray:=S1.isKeep p1 fun o e=>kp _ _ e;have is2:S2.Is (zh5 S1 S2 s1.heap l1 l2) l2 us2.toArray:=S2.isKeep p2' fun o e=>kp _ _ e;refine AA (s:={ s1 with heap:=zh5 S1 S2 s1.heap l1 l2 }) (n1:=us1.toArray.size) (n2:=us2.toArray.size) (I1.ok.hd hc) Z (fun A' hA=>S1.draws hA n l1 (nel l1 n lt1 (EM _)).symm us1.toArray) (fun A' hA=>S2.draws hA (n+1) l2 (nel l2 (n+1) lt2 (Jl _)).symm us2.toArray) ?_ ?_ ?_ ?_ g5 g4 g3 ⟨S1.mkI g1 rfl rfl,is1⟩ ⟨S2.mkI g2 rfl rfl,is2⟩ ?_
 ·have:=rv1.length
  simp only[E7];rw[EL];omega
 ·intro c hc
  show c<(zh5 S1 S2 s1.heap l1 l2).objs.size;rw[z5];exact(five c hc).2
 ·intro c hc
  show c<(zh5 S1 S2 s1.heap l1 l2).objs.size;rw[z5];rcases EV.mp hc with rfl|hc
  ·exact Nat.lt_add_of_pos_right (by decide)
  ·rw[E5.mp hc];exact E8 lt1 (GB _ _)
 ·intro c hc
  show c<(zh5 S1 S2 s1.heap l1 l2).objs.size;rw[z5];rcases EV.mp hc with rfl|hc
  ·exact Nat.add_lt_add_left (by decide) n
  ·rw[E5.mp hc];exact E8 lt2 (GB _ _)
 intro h' tk acc c ts hk hS' hl hG hacc;have hS'':h'.get? (n+5)=some { cls:=.type "list",dict:=none,data:=.seq acc c,slots:=#[] }:=by rw[<-z5];exact hS'
 have hG':ZTs (fun i v=>us1.toArray[i]?=some v) (fun i v=>us2.toArray[i]?=some v) (n+5+1) h' ts:=by rw[<-z5];exact hG
 have hl':ts.length=min us1.length us2.length:=by simpa using hl
 have G:=Ck rv1 rv2 hl' hG';have old:∀b o,s1.heap.get? b=some o->h'.get? b=some o:=fun b o e=>hk b o (fun hm=>by
  have:=EN e;rw[hn]at this;exact absurd (five b hm).1 (Kz.mpr this)) (kp b o e)
 have l1':=rv1.length;have l2':=rv2.length
 let H':Hp:=fun b=>if b=n+5 then some (.lst (ts.map V.ref))else match ts.findIdx? (· ==b)with
  |some i=>(match xs[i]?,ys[i]? with|some x,some y=>some (.tup [x,y])|_,_=>H1 b)
  |none=>H1 b
 have big:∀(i:Nat)(t:Addr),ts[i]?=some t->n+6<=t:=fun i t ht=>(G i t ht).1;have Hts:∀(i:Nat)(t:Addr),ts[i]?=some t->∃x y u v,H' t=some (.tup [x,y])/\xs[i]?=some x/\ys[i]?=some y/\aB x u/\aB y v/\IsPair h' t u v:=by
  intro i t ht;obtain⟨hlo,x,y,u,v,hx,hy,rx,ry,e⟩:=G i t ht;refine⟨x,y,u,v,?_,hx,hy,rx,ry,e⟩;have net:t≠n+5:=fun q=>by rw[q]at hlo;exact absurd hlo (Kz.mpr (Gq _))
  show(if t=n+5 then _ else _)=_;rw[if_neg net];cases hf:ts.findIdx? (· ==t)with
  |none=>
   have:=List.findIdx?_eq_none_iff.mp hf t (E2 ht);simp at this
  |some i0=>
   obtain⟨h0,h1,_⟩:=Ia.mp hf;have ht0:ts[i0]?=some t:=by rw[EG h0];congr 1;exact eq_of_beq h1
   obtain⟨_,x0,y0,u0,v0,hx0,hy0,rx0,ry0,e0⟩:=G i0 t ht0;have eq:=Fd (e0.symm.trans e);have eu:u0=u/\v0=v:=by
    injection eq with _ _ eq
    injection eq with eq _
    simp at eq;exact eq
   rw[eu.1]at rx0;rw[eu.2]at ry0;simp only[hx0,hy0];rw[sV rx0 rx,sV ry0 ry]
 have hH:∀b,b<s1.heap.objs.size->H' b=H1 b:=by
  intro b hb;rw[hn]at hb;have ne5:b≠n+5:=fun q=>by rw[q]at hb;exact absurd hb (Lz.mpr (GB _ _))
  show(if b=n+5 then _ else _)=_;rw[if_neg ne5];cases hf:ts.findIdx? (· ==b)with
  |none=>rfl
  |some i0=>
   obtain⟨h0,h1,_⟩:=Ia.mp hf;have ht0:ts[i0]?=some b:=by rw[EG h0];congr 1;exact eq_of_beq h1
   have:=big i0 b ht0;exact absurd (E8 hb (Fz (GB _ _) this)) (FM _)
 have e5:H' (n+5)=some (.lst (ts.map V.ref)):=if_pos rfl;have hvals:aA (ts.map V.ref) acc.toList:=by
  have go:∀l:List Addr,aA (l.map V.ref) (l.map Fh):=fun l=>by
   induction l with
   |nil=>exact .nil
   |cons t r ih=>exact .cons rfl ih
  rw[hacc];exact go ts
 have I2:Inv X pins σ H' { s1 with heap:=h',toks:=tk }:=I1.news old hH fun a o ha eo=>by
  by_cases c5:a=n+5
  ·subst c5
   rw[e5]at eo;cases eo;refine⟨?_,acc.toList,c,hvals,by simpa using hS''⟩;rw[EI,hl',EL];omega
  ·have eo':(match ts.findIdx? (· ==a)with
    |some i=>(match xs[i]?,ys[i]? with|some x,some y=>some (HO.tup [x,y])|_,_=>H1 a)
    |none=>H1 a)=some o:=by
    have:H' a=some o:=eo;rw[show H' a=(if a=n+5 then some (.lst (ts.map V.ref))else match ts.findIdx? (· ==a)with
     |some i=>(match xs[i]?,ys[i]? with|some x,some y=>some (.tup [x,y])|_,_=>H1 a)
     |none=>H1 a)from rfl,if_neg c5]at this
    exact this
   have hfr:H1 a=none:=I1.hok.fresh ha;cases hf:ts.findIdx? (· ==a)with
   |none=>rw[hf]at eo';rw[show H1 a=some o from eo']at hfr;cases hfr
   |some i0=>
    obtain⟨h0,h1,_⟩:=Ia.mp hf;have ht0:ts[i0]?=some a:=by rw[EG h0];congr 1;exact eq_of_beq h1
    obtain⟨_,x0,y0,u0,v0,hx0,hy0,rx0,ry0,e0⟩:=G i0 a ht0;rw[hf]at eo';simp only[hx0,hy0]at eo';cases eo';exact⟨(by show 2<=E1;decide),[u0,v0],.cons rx0 (.cons ry0 .nil),_,e0,rfl,⟨0,rfl⟩,rfl⟩
 have hp5:H1 (n+5)=none:=I1.hok.fresh (by rw[hn];exact GB _ _);have hsame:ak H1 H':=fun b o eb=>by
  rw[hH b (I1.hok.lt eb)];exact eb
 show∃v H',_/\_/\_;refine⟨.ref (n+5),H',I2,by rw[<-z5];rfl,q _ _ hp5 hsame ⟨ts,e5,?_⟩⟩;have go:∀(l:List Addr)(m:List (V×V)),l.length=m.length->(∀(i:Nat)(t:Addr)(pq:V×V),l[i]?=some t->m[i]?=some pq->H' t=some (.tup [pq.1,pq.2]))->lI H' l m:=by
  intro l
  induction l with
  |nil=>intro m hl _;cases m with
   |nil=>exact .nil
   |cons _ _=>simp at hl
  |cons t r ih=>intro m hl hh;cases m with
   |nil=>simp at hl
   |cons pq m=>exact .cons (hh 0 t pq rfl rfl) (ih m (by simpa using hl) fun i t pq h1 h2=>hh (i+1) t pq h1 h2)
 refine go _ _ (by rw[Iu];omega) fun i t pq ht hpq=>?_;obtain⟨x,y,u,v,e,hx,hy,_⟩:=Hts i t ht;rw[e];have:(xs.zip ys)[i]?=some (x,y):=by rw[HW];exact⟨hx,hy⟩
 rw[this]at hpq;cases hpq;rfl
end
end
section
open PySem.Spec
section
variable{X:Cx}
end
end
section
open PySem.Spec
section
variable{X:Cx}
end
end
section
open PySem.Spec
section
variable{X:Cx}
theorem yC:MtM X "list.insert" o8:=by
 intro pins s σ H x vs v us Q I rx rv h;obtain⟨l,xs,k,y,rfl,rfl,hH,hz,hk,q⟩:=h;cases rx;obtain⟨u,w,rfl,ru,rw'⟩:∃u w,us=[u,w]/\aB (.int (k:Int)) u/\aB y w:=by
  cases rv with
  |cons ru rv=>cases rv with
   |cons rw' rv=>cases rv with
    |nil=>exact⟨_,_,rfl,ru,rw'⟩
 obtain⟨t,rfl⟩:=ru;obtain⟨z,its,n,r,hl,e⟩:=I.lstM hH;have hz':=hz;rw[EL]at hz';have hf:¬(!Builtin.List.listFitsIndex (k:Int))=true:=by rw[fitsIndex_both (Int.le_trans (by decide) (Int.natCast_nonneg k)) (Int.lt_of_le_of_lt (show(k:Int)<=16777216 by omega) (by decide))];simp
 generalize hx:(k:Int)=x at *;have M2:=AutoSeq1.list_insert_list_int_val_1 l its.toArray n x t w hf (by rw[E7];omega);refine Km F.slot_list_insert ⟨_,e,rfl⟩ F.entry_list_insert (F.args_list_insert_3 _ _ _) M2 ⟨e,?_⟩;refine⟨.non,_,I.lset (its':=its.take k++w::its.drop k) (ys:=xs.take k++y::xs.drop k) hH e ?_ ?_ ?_,rfl,q⟩
 ·have hk':(if x<0 then(x+(its.toArray.size:Int)).toNat else min (x.toNat) its.toArray.size)=k:=by
   rw[<-hx,if_neg (by omega),IF,E7];omega
  show(its.toArray.extract 0 _).push w++its.toArray.extract _=_;rw[hk'];apply Array.ext';simp;exact Hy (by rw[Gz];exact EM _)
 ·exact aA.append (r.take k) (.cons rw' (r.drop k))
 ·rw[EX,Fu,Fo,Gz]
  omega
end
end
section
open PySem.Spec
section
variable{X:Cx}{elt tg iter:Expr}{ifs:List Expr}{scope sc:Scope}{pos:Pos}{NX N:List Str}{ix:List (Option Nat)}{own:Str}{wi:TI}{g:CF TG}{tt:CF TT}{te:CF TE}
end
end
end L2
section
namespace L2
open PySem
end L2
end
section
namespace L2
section
open PySem PySem.Spec PyProof.Rows
section
variable{prog:Program}{w:World}{A:Around}{R:Result->Shared->Prop}{I:Addr}{fp wr:List Addr}{n:Nat}{P:Nat->Value->Prop}{St:Nat->Heap->Prop}{kw:List (Str×Value)}
theorem yD(W:Walks prog w A.in1 I fp wr n P St)(S:Addr)(hSf:S∉fp)(hn:n=0){s:Shared}{c:Nat}{k:Str}{d:Value}(hst:St 0 s.heap)(hS:s.heap.get? S=some ⟨.type "list",none,.seq #[] c,#[]⟩)
  (hR:∀h' tk,(∀b o,b∉wr->b≠S->s.heap.get? b=some o->h'.get? b=some o)->R (.ok (.ret d)) { s with heap:=h',toks:=tk }):
  codeAny (model prog w) A (.builtin "max.loop" ⟨[.ref I,.none,.ref S],[(k,d)]⟩) R s:=by
 have hSw:S∉wr:=fun h=>hSf (W.sub _ h);refine Gy IC ?_;rw[Gg Gu _]
 (show wpAny _ A.in1 (K1 (.ref S)>>=_) _ _ s);refine EF (FG hS rfl ?_)
 (show wpAny _ A.in1 (tryCatch (pyNext (.ref I)) _>>=_) _ _ s)
 refine EF (JL (W.done s _ _ (hn▸hst) fun h' tk hk'=>?_));refine EF (Ha (EJ ?_));exact hR _ _ fun b o hb hbS e=>hk' b o hb e
theorem yE(W:Walks prog w A.in1 I fp wr n P St)(bt:Nat->Nat->Bool)(hcmp:CmpOf prog w A.in1 .Gt P bt)(S:Addr)(hSf:S∉fp):
  ∀(k j:Nat)(s:Shared)(vb:Value)(c:Nat),n-(j+1)=k->j+1<=n->St (j+1) s.heap->P (argBest bt j) vb->s.heap.get? S=some ⟨.type "list",none,.seq #[vb,vb] c,#[]⟩->
  (∀v h' tk,P (argBest bt (n-1)) v->(∀b o,b∉wr->b≠S->s.heap.get? b=some o->h'.get? b=some o)->R (.ok (.ret v)) { s with heap:=h',toks:=tk })->
  codeAny (model prog w) A (.builtin "max.loop" ⟨[.ref I,.none,.ref S],kw⟩) R s:=by
 have hSw:S∉wr:=fun h=>hSf (W.sub _ h);have nm:(toString "max"++toString ".loop":String)="max.loop":=by decide
 intro k
 induction k with
 |zero=>
  intro j s vb c hk hj hst hPb hS hR;have hin:j+1=n:=by omega
  refine Gy IC ?_;rw[Gg Gu _]
  (show wpAny _ A.in1 (K1 (.ref S)>>=_) _ _ s);refine EF (FG hS rfl ?_)
  (show wpAny _ A.in1 (tryCatch (pyNext (.ref I)) _>>=_) _ _ s)
  refine(EF (JL (W.done s _ _ (hin▸hst) fun h' tk hk'=>?_)));have hT:=hk' S _ hSw hS
  (show wpAny _ A.in1 (JH S (fun _=>#[])>>=_) _ _ _);refine EF ?_
  refine(G3 hT rfl (EF (Iy (EJ ?_))));exact hR vb _ tk (by rw[<-hin];exact hPb) fun b o hbw hbS e=>(FU _ _ (Ge hbS)).trans (hk' b o hbw e)
 |succ k ih=>
  intro j s vb c hk hj hst hPb hS hR;have hlt:j+1<n:=by omega
  refine Gy IC ?_;rw[Gg Gu _]
  (show wpAny _ A.in1 (K1 (.ref S)>>=_) _ _ s);refine EF (FG hS rfl ?_)
  (show wpAny _ A.in1 (tryCatch (pyNext (.ref I)) _>>=_) _ _ s)
  refine(EF (JL (W.item (j+1) s _ _ hlt hst fun v h' tk hP hst' hk'=>?_)));have hT:=hk' S _ hSw hS
  (show wpAny _ A.in1 (tryCatch (holding [v,v] (richCompare .Gt v vb>>=_)) _>>=_) _ _ _)
  refine(EF (JL (FV (EF (hcmp (j+1) (argBest bt j) v vb _ _ _ hP hPb ?_)))));refine(EF (FV (GR ?_)));refine(EF (Iy (EJ ?_)));cases hb:bt (j+1) (argBest bt j)with
  |true=>
   simp only[if_true];refine EF ?_;refine(G3 hT rfl (EF (Iy ?_)));rw[nm];refine EJ ⟨GQ Gu _,ih (j+1) _ v _ (by omega) hlt (W.frame _ _ _ hst' fun b hbf o e=>?_) (by(simp only[argBest,hb,if_true]);exact hP) (FH _ hT rfl) fun v' h'' tk'' hP' hk''=>?_⟩
   ·exact(FU _ _ (fun z:S=b=>hSf (by rw[z];exact hbf))).trans e
   ·exact hR v' h'' tk'' hP' fun b o hbw hbS e=>hk'' b o hbw hbS ((FU _ _ (Ge hbS)).trans (hk' b o hbw e))
  |false=>
   simp only[Fe,if_false];refine EF (Iy ?_);rw[nm];refine EJ ⟨GQ Gu _,ih (j+1) _ vb c (by omega) hlt hst' (by(simp only[argBest,hb,Fe,if_false]);exact hPb) hT fun v' h'' tk'' hP' hk''=>?_⟩;exact hR v' h'' tk'' hP' fun b o hbw hbS e=>hk'' b o hbw hbS (hk' b o hbw e)
theorem wc(W:Walks prog w A.in1 I fp wr n P St)(bt:Nat->Nat->Bool)(hcmp:CmpOf prog w A.in1 .Gt P bt)(S:Addr)(hSf:S∉fp)(hn:0<n){s:Shared}{c:Nat}(hst:St 0 s.heap)(hS:s.heap.get? S=some ⟨.type "list",none,.seq #[] c,#[]⟩)
  (hR:∀v h' tk,P (argBest bt (n-1)) v->(∀b o,b∉wr->b≠S->s.heap.get? b=some o->h'.get? b=some o)->R (.ok (.ret v)) { s with heap:=h',toks:=tk }):
  codeAny (model prog w) A (.builtin "max.loop" ⟨[.ref I,.none,.ref S],kw⟩) R s:=by
 have hSw:S∉wr:=fun h=>hSf (W.sub _ h);have nm:(toString "max"++toString ".loop":String)="max.loop":=by decide
 refine Gy IC ?_;rw[Gg Gu _]
 (show wpAny _ A.in1 (K1 (.ref S)>>=_) _ _ s);refine EF (FG hS rfl ?_)
 (show wpAny _ A.in1 (tryCatch (pyNext (.ref I)) _>>=_) _ _ s)
 refine(EF (JL (W.item 0 s _ _ hn hst fun v h' tk hP hst' hk'=>?_)));have hT:=hk' S _ hSw hS
 (show wpAny _ A.in1 (JH S (fun _=>#[v,v])>>=_) _ _ _);refine EF ?_
 refine(G3 hT rfl ?_);rw[nm];refine EJ ⟨GQ Gu _,yE W bt hcmp S hSf _ 0 _ v _ rfl hn (W.frame _ _ _ hst' fun b hbf o e=>?_) hP (FH _ hT rfl) fun v' h'' tk'' hP' hk''=>?_⟩
 ·exact(FU _ _ (fun z:S=b=>hSf (by rw[z];exact hbf))).trans e
 ·exact hR v' h'' tk'' hP' fun b o hbw hbS e=>hk'' b o hbw hbS ((FU _ _ (Ge hbS)).trans (hk' b o hbw e))
end
section
variable{prog:Program}{w:World}{A:Around}{E:Value->Shared->Prop}{s:Shared}
end
section
variable{prog:Program}{w:World}{A:Around}{E:Value->Shared->Prop}{s:Shared}
theorem we(a v:Value):argsOk "max" ⟨[a],[(GA "default",v)]⟩:=by unfold argsOk;kernel_rfl
end
end
open PySem PySem.Spec PyProof.Rows
section
variable{X:Cx}
end
end L2
end
section
namespace L2
open PySem
end L2
end
namespace L2
open PySem PyProof.Rows
section
open PySem.Spec
section
variable{X:Cx}
end
end
section
open PySem.Spec
section
variable{prog:Program}{w:World}{A:Around}{E:Value->Shared->Prop}{s:Shared}
theorem wf(d:Value){l:Addr}{zs:Array (Int×Tok)}{Q:Value->Shared->Prop}(hh:A.handled=none)(hl:s.heap.IsTuple l (KP zs))
  (h0:zs.size=0->∀h' tk,(∀b o,s.heap.get? b=some o->h'.get? b=some o)->Q d { s with heap:=h',toks:=tk })
  (h:0<zs.size->∀v h' tk,(KP zs)[argBest (fun i j=>decide (numAt zs i>numAt zs j)) (zs.size-1)]?=some v->(∀b o,s.heap.get? b=some o->h'.get? b=some o)->Q v { s with heap:=h',toks:=tk }):
  wpAny (model prog w) A (call (.builtin "max") [.ref l] [(GA "default",d)]) Q E s:=by
 have nm:(toString "max"++toString ".loop":String)="max.loop":=by decide
 obtain⟨lo,hlo,_⟩:=id hl;refine PyProof.Rows.kmb_tree PySem.F.kind_max PySem.F.plain_max PySem.F.entry_max (we _ _) ?_
 (show wpAny _ A.in1 (Ld "max" ["key","default"] 0 ⟨[],[(GA "default",d)]⟩>>=_) _ _ s)
 refine EF (HZ (show Ld "max" ["key","default"] 0 ⟨[],[(GA "default",d)]⟩=pure [none,some d]from rfl) ?_);refine EF (EJ ?_);refine EF (Jw hl ?_);refine EF (F8 ?_);have hW:=Walks.tuple (A:=A.in1) (prog:=prog) (w:=w) hh s.heap.objs.size l (Fi (EN hlo)) (KP zs);rw[nm];have lt1:∀b,b∈[s.heap.objs.size,l]->b<s.heap.objs.size+1:=fun b hb=>by
  rcases EV.mp hb with z|z
  ·rw[z];exact Gq _
  ·rw[E5.mp z];exact FS (EN hlo)
 have old:∀{h':Heap} (S:Addr),s.heap.objs.size<S->(∀b o,b∉[s.heap.objs.size]->b≠S->s.heap.get? b=some o->h'.get? b=some o)->∀b o,s.heap.get? b=some o->h'.get? b=some o:=fun S hS k b o e=>k b o (fun hm=>by rw[E5]at hm;subst hm;exact absurd (EN e) (FM _)) (fun z=>FM _ (Nat.lt_trans hS (z▸EN e))) e;have st:=fun(o2:Obj)=>hW.frame 0 _ ((s.heap.push { cls:=.type "tuple_iterator",data:=.fields #[.ref l,.int 0 0] }).push o2) ⟨⟨_,ES _ rfl,rfl,rfl⟩,(let⟨o,ho,hcc,hdd⟩:=hl;⟨o,EH _ ho,hcc,hdd⟩)⟩ fun b _ o e=>EH _ e;have nS:∀(T:Addr),T=s.heap.objs.size+1->T∉[s.heap.objs.size,l]:=fun T e hm=>FM _ (e▸lt1 T hm);by_cases hz:zs.size=0
 ·refine EJ ⟨GQ Gu _,yD hW _ (nS _ (by rw[FA])) (by simpa[KP]using hz) (st _) (ES _ rfl) fun h' tk hk=>?_⟩
  exact h0 hz _ _ (old _ (by rw[FA];omega) fun b o hb hS e=>hk b o hb hS (EH _ (EH _ e)))
 ·refine EJ ⟨GQ Gu _,wc hW _ (CmpOf.ints_gt (numAt zs) (fun _ _=>intItems_at)) _ (nS _ (by rw[FA])) (by simpa[KP]using Lc hz) (st _) (ES _ rfl) fun v h' tk hP hk=>?_⟩
  exact h (Lc hz) v _ _ (by simpa[KP]using hP) (old _ (by rw[FA];omega) fun b o hb hS e=>hk b o hb hS (EH _ (EH _ e)))
end
section
variable{X:Cx}
theorem AB{e:Expr}{p pos kp kp2 kp3:Pos}{j:Nat}{t:TA}(hc:X.calm=true)(hm:X.mg "max"=none)(ha:PA X [e] t)(hg:Gl X "max":=by rfl)
  (he:backTo pos (Fc [e] X.env)=(false,eval e X.env)::backTo pos (Fc [] X.env):=by rfl) (hpl:(backTo pos (Fc [e] X.env)).any (·.1)=false:=by rfl):
  PE X (.Call (.Name "max" p) [e] [⟨some "default",.UnaryOp .USub (.Constant (.int 1) j kp2) kp3,kp⟩] pos) (sw X.K t):=by
 intro pins s σ H Q I h;refine He (dC I hg hm boot_max ?_ (by decide) (by decide));refine PyProof.Rows.callWith_kw (thn (ha pos pins s σ H _ I h) fun us s1 ⟨vs,H1,I1,r1,q1⟩=>?_) he hpl;obtain⟨l,ns,rfl,hq,h0,h1⟩:=q1;obtain⟨u,rfl,rx⟩:=r1.one;cases rx;refine thn ((Br (Dy Cv ag) CA) pos pins s1 σ H1 (fun zs H2=>zs=[.int (-1)]/\H2=H1) I1 ⟨1,rfl,rfl,rfl⟩) fun ws s2 ⟨zs,H2,I2,rz,ez,eH⟩=>?_;subst ez eH;obtain⟨wv,rfl,rw'⟩:=rz.one;obtain⟨tw,rfl⟩:=rw';obtain⟨its,rv,pl,hz⟩:=I2.tuple hq;have hi:=iz rv;obtain⟨zs,ez⟩:=(hi.allInts).items;have hl:s2.heap.IsTuple l (KP zs):=by rw[<-ez];exact pl
 have hnum:zs.toList.map (·.1)=ns:=by rw[<-nums_intItems,<-ez];exact hi.numsOf
 have hsz:zs.size=ns.length:=by rw[<-hnum];simp
 refine wf _ (I.ok.hd hc) hl (fun hz h' tk hk=>⟨.int (-1),H2,I2.kept hk,⟨_,rfl⟩,h0 (List.eq_nil_of_length_eq_zero (by omega))⟩) fun hpos v h' tk hv hk=>?_;obtain⟨t,rfl⟩:=intItems_at hv;obtain⟨b1,b2⟩:=argBest_gt (numAt zs) (zs.size-1);refine⟨.int _,H2,I2.kept hk,⟨t,rfl⟩,h1 _ ?_ fun a ha=>?_⟩
 ·rw[numAt_eq,hnum]
  exact getD_mem (by omega)
 ·rw[<-hnum]at ha
  obtain⟨j,hj,rfl⟩:=mem_getD ha;rw[EI,E9]at hj;rw[<-numAt_eq];exact b2 j (by omega)
end
end
section
open PySem.Spec
theorem kF(K:Fg)(H:Hp):∀w:List Int,gS K H (w.map V.int) (w.map HY)
 | []=>.nil
 |i::w=>.cons (.int i) (kF K H w)
theorem sW(a b:Int):KA (.int a) (.int b)=decide (a=b):=by
 rw[KA];rfl
theorem qj:∀v w:List Int,J8 (v.map HY) (w.map HY)=decide (v=w)
 | [],[]=>rfl
 | [],_::_=>rfl
 |_::_,[]=>rfl
 |a::v,b::w=>by
  rw[E6,E6,J8,qj v w,sW,HN,Gr,decide_eq_true_iff,decide_eq_true_iff,decide_eq_true_iff,OM]
theorem qk:∀w:List Int,II (w.map HY)=true
 | []=>rfl
 |k::g=>by show(true&&II _)=true;rw[qk g];rfl
theorem ox:∀g:List Int,Jv (g.map HY)=0
 | []=>rfl
 |k::g=>by show max 0 (Jv _)=0;rw[ox g];rfl
noncomputable abbrev prD(v:List Int)(m:Int):PyData:=.tuple [.tuple (v.map HY),.int m]
theorem ql(v:List Int)(m:Int):JI (prD v m)=true:=by
 unfold JI;rw[show PyData.canLay0 (prD v m)=(II (v.map HY)&&(true&&true))from rfl,qk v,decide_eq_true ?_]
 ·rfl
 ·show max (Jv (v.map HY)+1) (max 0 0)+1<=64
  rw[ox v];decide
theorem Du(v w:List Int)(m n:Int):KA (prD v m) (prD w n)=decide (v=w/\m=n):=by
 have e1:KA (.tuple (v.map HY)) (.tuple (w.map HY))=decide (v=w):=by rw[KA];exact qj v w
 rw[KA,J8,e1,J8,sW,J8,Bool.and_true,HN,Gr,decide_eq_true_iff,decide_eq_true_iff,decide_eq_true_iff]
section
variable{X:Cx}
theorem uV(hu:X.A.units+64<cLine):OpR X (GE .Eq) qP:=by
 intro pins s σ H x y v u Q I rx ry h;obtain⟨a,b,vv,ww,m,n,rfl,rfl,⟨p,h1,h2⟩,⟨q',h3,h4⟩,q⟩:=h;have d1:Dat X.K H (.ref a) (prD vv m):=.tup (SqT.of h1) (.cons (.tup (SqT.of h2) (kF _ _ _)) (.cons (.int _) .nil));have d2:Dat X.K H (.ref b) (prD ww n):=.tup (SqT.of h3) (.cons (.tup (SqT.of h4) (kF _ _ _)) (.cons (.int _) .nil));obtain⟨as,ra⟩:=d1.reads I rx;obtain⟨bs,rb⟩:=d2.reads I ry;refine eq_dataH ra rb (ql _ _) (ql _ _) hu ⟨.bl (decide (vv=ww/\m=n)),H,I,?_,q⟩;rw[Du];rfl
end
end
section
open PySem.Spec PySem.W
section
variable{P:Program}{w:World}{K:Frag}{mg:Str->Option Value}{base:Heap}
noncomputable def FnM(P:Program)(w:World)(K:Frag)(mg:Str->Option Value)(base:Heap)(k:Nat)(C:Addr)(m:Str)(ps:List Str)(sp:Sp):Prop:=
 ∃f fd,bU P w K mg base CX0 k f fd ps sp/\Cy K C m f/\fg K fd ps []
structure AC(K:Frag)(C:Addr)(m qual:Str)(st:Stmt)(ps:List Str)(f:Addr)(fd:Fk):Prop where
 fn:Fun K m qual st f fd
 mt:Cy K C m f
 b:fg K fd ps []
theorem AC.ok{C:Addr}{m qual:Str}{st:Stmt}{N ps:List Str}{f:Addr}{fd:Fk}{k:Nat}{sp:Sp}(D:AC K C m qual st ps f fd)(S:aK N ps (am st))(len:∀vs H Q E,sp vs H Q E->vs.length=ps.length)
  (hbody:∀(cdv:Value)(A:Around)(outer:List Env)(s:Shared)(H:Hp)(vs:List V)(Q:VK)(E:XK),b7 k (A.deeper (envOfC qual (am st) s.heap.objs.size f cdv))->sp vs H Q E->
   ∃t,PSs (cq CX0 P w K mg base N qual (am st) f cdv A outer s H E).nox (cz st) t/\t { nx:=fun _ H'=>Q .non H',rt:=Q } (start N vs) H):FnM P w K mg base (k+1) C m ps sp:=
 ⟨f,fd,D.fn.ok S len hbody,D.mt,D.b⟩
noncomputable def FnI(P:Program)(w:World)(K:Frag)(mg:Str->Option Value)(base:Heap)(k:Nat)(C:Addr)(ps:List Str)(sp:Sp):Prop:=
 ∃f fd,bU P w K mg base CX0 k f fd ps sp/\Mk K C f/\fg K fd ps []
structure wg(K:Frag)(C:Addr)(qual:Str)(st:Stmt)(ps:List Str)(f:Addr)(fd:Fk):Prop where
 fn:Fun K "__init__" qual st f fd
 made:Mk K C f
 b:fg K fd ps []
theorem wg.ok{C:Addr}{qual:Str}{st:Stmt}{N ps:List Str}{f:Addr}{fd:Fk}{k:Nat}{sp:Sp}(D:wg K C qual st ps f fd)(S:aK N ps (am st))(len:∀vs H Q E,sp vs H Q E->vs.length=ps.length)
  (hbody:∀(cdv:Value)(A:Around)(outer:List Env)(s:Shared)(H:Hp)(vs:List V)(Q:VK)(E:XK),b7 k (A.deeper (envOfC qual (am st) s.heap.objs.size f cdv))->sp vs H Q E->
   ∃t,PSs (cq CX0 P w K mg base N qual (am st) f cdv A outer s H E).nox (cz st) t/\t { nx:=fun _ H'=>Q .non H',rt:=Q } (start N vs) H):FnI P w K mg base (k+1) C ps sp:=
 ⟨f,fd,D.fn.ok S len hbody,D.made,D.b⟩
theorem wg.fnX{C:Addr}{qual:Str}{st:Stmt}{N ps:List Str}{f:Addr}{fd:Fk}{k:Nat}{sp:Sp}(D:wg K C qual st ps f fd)(S:aK N ps (am st))(len:∀vs H Q E,sp vs H Q E->vs.length=ps.length)
  (hbody:∀(cdv:Value)(A:Around)(outer:List Env)(s:Shared)(H:Hp)(vs:List V)(Q:VK)(E:XK),b7 k (A.deeper (envOfC qual (am st) s.heap.objs.size f cdv))->sp vs H Q E->
   ∃t,PSs (cq (CX1 P w) P w K mg base N qual (am st) f cdv A outer s H E) (cz st) t/\t { nx:=fun _ H'=>Q .non H',rt:=Q } (start N vs) H):bU P w K mg base (CX1 P w) (k+1) f fd ps sp:=by
 obtain⟨oc,od,kV,doc,pm,an,cdv,ct,osl,rfl,lk,hcd⟩:=D.fn.ex;exact vg lk hcd S len fun A outer s H vs Q E hr hsp=>hbody cdv A outer s H vs Q E hr hsp
end
section
variable{X:Cx}{k:Nat}{C:Addr}{m:Str}{ps:List Str}{sp:Sp}{p pos apos:Pos}{o e:Expr}{es:List Expr}{ta:TE}{t:TA}
end
end
end L2
section
namespace L2
open PySem PySem.Spec PySem.W PyProof.Rows
noncomputable def FnA(K:Frag)(x q:Str)(st:Stmt)(f:Addr):Prop:=∃(oc:Value)(od:Option Addr)(kV doc pm:Value)(an:Option Addr)(cd ct:Value)(sl:Array (Option Value)),K.lookup f=some ⟨oc,od,.func (fnOf x q (gH st) (cz st) (am st) .none kV doc pm an cd ct),sl⟩/\codeIn K cd q=true/\keepIn K (.ref f)=true
noncomputable def DfA(K:Frag)(x:Str)(st:Stmt):Prop:=∃f,nsIn K Fj x=some (some (.ref f))/\FnA K x x st f
noncomputable def MtA(K:Frag)(C:Addr)(m q:Str)(st:Stmt):Prop:=∃f,findIn K (.ref C) m=some (some (.ref f))/\isFn K (.ref f)=true/\FnA K m q st f
theorem FnA.fn{K:Frag}{x q:Str}{st:Stmt}{f:Addr}(h:FnA K x q st f):∃fd,Fun K x q st f fd:=let⟨_,_,_,_,_,_,_,_,_,l,c,k⟩:=h;⟨_,xc l c k⟩
noncomputable abbrev BdA(x q:Str)(st:Stmt)(ps:List Str):Prop:=∀(kV doc pm:Value)(an:Option Addr)(cdv ct:Value)(us:List Value),us.length=ps.length->bindArgs (fnOf x q (gH st) (cz st) (am st) .none kV doc pm an cdv ct) ⟨us,[]⟩=pure (ps.zip us)
theorem DfA.df{K:Frag}{mg:Str->Option Value}{h:Heap}{x:Str}{st:Stmt}{ps:List Str}(X:K.In h)(G:h.Ns Fj mg)(q:DfA K x st)(b:BdA x x st ps):∃f fd,Def K mg x st ps f fd:=
 let⟨f,a,l⟩:=q;let⟨fd,F⟩:=l.fn;⟨f,fd,F,mg_of X G a,F.binds b⟩
theorem MtA.df{K:Frag}{C:Addr}{m q:Str}{st:Stmt}{ps:List Str}(h:MtA K C m q st)(b:BdA m q st ps):∃f fd,AC K C m q st ps f fd:=
 let⟨f,a,i,l⟩:=h;let⟨fd,F⟩:=l.fn;⟨f,fd,F,⟨a,i,F.kp⟩,F.binds b⟩
theorem DfA.law{K:Frag}{mg:Str->Option Value}{h:Heap}{x p:Str}{st:Stmt}{fa:Addr}(X:K.In h)(G:h.Ns Fj mg)(q:DfA K x st)(b:BdA x x st [p])(hf:mg x=some (.ref fa))
  (bb:∀(kV doc pm:Value)(an:Option Addr)(cdv ct:Value)(s:Shared)(v:Value),BindsTo s (fnOf x x (gH st) (cz st) (am st) .none kV doc pm an cdv ct) ⟨[v],[]⟩ [(p,v)]):∃fd,Def K mg x st [p] fa fd/\∀(s:Shared)(v:Value),BindsTo s fd ⟨[v],[]⟩ [(p,v)]:=by
 obtain⟨f,a,_,_,kV,doc,pm,an,cdv,ct,_,l,c,k⟩:=q;have e:=hf.symm.trans (mg_of X G a);cases e;have F:=xc l c k;exact⟨_,⟨F,mg_of X G a,F.binds b⟩,bb kV doc pm an cdv ct⟩
end L2
end
namespace Kc_k55
open PySem L2 PyProof.Rows
local macro_rules | `(tactic| walk_at "v")=>`(tactic| exact ⟨rfl,by first | exact MD rfl | exact Ht (MD rfl) | exact Ht (Ht rfl),by decide,by decide⟩)
local macro_rules | `(tactic| walk_at "w")=>`(tactic| exact ⟨rfl,rfl,rfl,by decide +kernel,rfl,by decide +kernel,by decide +kernel⟩)
local macro_rules | `(tactic| walk_at "l")=>`(tactic| (intro _ _ _ _ h; first | (obtain ⟨_,e,_⟩:=h; subst e; rfl) | (obtain ⟨_,_,e,_⟩:=h; subst e; rfl) | (obtain ⟨_,_,_,e,_⟩:=h; subst e; rfl) | (obtain ⟨_,_,_,_,e,_⟩:=h; subst e; rfl) | (obtain ⟨_,_,_,_,_,e,_⟩:=h; subst e; rfl) | (obtain ⟨_,_,_,_,_,_,e,_⟩:=h; subst e; rfl) | (obtain ⟨_,_,_,_,_,_,_,e,_⟩:=h; subst e; rfl) | (obtain ⟨_,_,_,_,_,_,_,_,e,_⟩:=h; subst e; rfl) | (obtain ⟨_,_,_,_,_,_,_,_,_,e,_⟩:=h; subst e; rfl) | (obtain ⟨_,_,_,_,_,_,_,_,_,_,e,_⟩:=h; subst e; rfl) | (obtain ⟨_,_,_,_,_,_,_,_,_,_,_,e,_⟩:=h; subst e; rfl) | (obtain ⟨_,_,_,_,_,_,_,_,_,_,_,_,e,_⟩:=h; subst e; rfl) | (obtain ⟨_,_,_,_,_,_,_,_,_,_,_,_,_,e,_⟩:=h; subst e; rfl) | (obtain ⟨_,_,_,_,_,_,_,_,_,_,_,_,_,_,e,_⟩:=h; subst e; rfl) | (obtain ⟨_,_,_,_,_,_,_,_,_,_,_,_,_,_,_,e,_⟩:=h; subst e; rfl) | (obtain ⟨_,_,_,_,_,_,_,_,_,_,_,_,_,_,_,_,e,_⟩:=h; subst e; rfl)))
local macro_rules | `(tactic| walk_at "c")=>`(tactic| (refine ⟨rfl,?_,?_,?_,?_,rfl,?_⟩ <;> decide +kernel))
local macro_rules | `(tactic| walk_at "e")=>`(tactic| (refine ⟨rfl,?_,?_,?_,?_,rfl,?_⟩ <;> first | decide +kernel | exact yA (by decide +kernel)))
theorem psS{X:Cx}(i:Nat){N ps:List Str}{sc:Scope}{x:Str}{e:Expr}{te:TE}{pos' pos:Pos}(S:aK N ps sc)(he:PE X e te)(hN:X.N=N:=by exact rfl)(hi:X.N[i]?=some x:=by exact rfl)(hx:Loc X.env.scope x:=by exact MD rfl)(hs:Nw e (some (.Name x pos')) pos.line X.env=pure false:=by rfl)(hf:X.fn x=true\/X.env.scope.names.lookup x=some .local:=by first|exact .inl rfl|exact .inr rfl|assumption):PS X (.Assign [.Name x pos'] e pos) (aF te (aj i)):=fT (by rw[hN];exact S.nd) hi hx he hs hf
theorem pgS{X:Cx}(i:Nat){N ps:List Str}{sc:Scope}{x:Str}{pos:Pos}(S:aK N ps sc)(hN:X.N=N:=by exact rfl)(hi:X.N[i]?=some x:=by exact rfl)(hx:Loc X.env.scope x:=by exact MD rfl)(hf:X.fn x=true\/X.env.scope.names.lookup x=some .local:=by first|exact .inl rfl|exact .inr rfl|assumption):PG X (.Name x pos) (aj i):=gG (by rw[hN];exact S.nd) hi hx hf
theorem pgC{X:Cx}(i:Nat)(N:List Str){x:Str}{pos:Pos}(hN:X.N=N:=by exact rfl)(nd:N.Nodup:=by decide+kernel)(hi:X.N[i]?=some x:=by exact rfl)(hx:Loc X.env.scope x:=by exact MD rfl)(hf:X.fn x=true\/X.env.scope.names.lookup x=some .local:=by first|exact .inl rfl|exact .inr rfl|assumption):PG X (.Name x pos) (aj i):=gG (by rw[hN];exact nd) hi hx hf
theorem rmD{n k:Nat}{A:Around}(h:b7 k A)(e:n<=k:=by decide):b7 n A:=h.mono e
noncomputable abbrev mZ:List Str:=["_law_deals_here","_law_lists_here","_law_a","_law_b","_law_e","_law_told_here","_law_numbers","_law_friends","_law_thirds","_law_k","_law_j","_law_alike","_law_card"]
noncomputable abbrev ir:List Str:=["cards","sizes","words","a","b","e"]
noncomputable abbrev cG:List Str:=["cards","sizes"]
noncomputable abbrev sX:List Str:=["_law_cards","_law_sizes","_law_lists_here","_law_hands","_law_due_here"]
noncomputable abbrev sY:List Str:=["_law_deals_here","_law_lists_here","_law_a","_law_b","_law_e"]
noncomputable abbrev AD:List Str:=["_law_script","_law_cell_here","_law_cards","_law_sizes","_law_hands","_law_deals_here","_law_holdings","_law_lists_here","_law_turned"]
noncomputable abbrev sZ:List Str:=["_law_cell_here","_law_holdings","_law_cards"]
noncomputable abbrev m7:List Str:=["_law_lists_here","_law_held_here"]
noncomputable abbrev lm:List Str:=["deal","least","moved","e"]
noncomputable abbrev Dv:List Str:=["_law_cell_here","_law_cards","_law_sizes","_law_holdings","_law_k","_law_longer","_law_held_here","_law_caught","error"]
noncomputable abbrev hV:List Str:=["_law_cell_here"]
noncomputable abbrev kG:List Str:=["_law_deal","_law_who"]
noncomputable abbrev Bb:List Str:=["_law_cards","_law_sizes","_law_lists_here","_law_hands","_law_due_here","_law_handed","_law_found","_law_number"]
noncomputable abbrev oy:List Str:=["_law_cell_here","_law_many"]
noncomputable abbrev lR:List Str:=["thing","least","most"]
noncomputable abbrev Bc:List Str:=["_law_cell_here","_law_holdings","_law_cards","_law_many","_law_made","_law_k","_law_number"]
noncomputable abbrev oz:List Str:=["_law_cell_here","_law_k"]
noncomputable abbrev oA:List Str:=["_law_cards","_law_sizes"]
noncomputable abbrev Bd:List Str:=["_law_cards","_law_sizes","_law_room","_law_rows","_law_card","_law_longer","_law_row"]
noncomputable abbrev oB:List Str:=["deals","words","a"]
noncomputable abbrev oC:List Str:=["view","other_view"]
noncomputable abbrev oD:List Str:=["deals","view","e"]
noncomputable abbrev oE:List Str:=["_law_script","_law_k"]
noncomputable abbrev kH:List Str:=["deals","hand"]
noncomputable abbrev lT:List Str:=["view","values"]
noncomputable abbrev kI:List Str:=["deal","who"]
noncomputable abbrev oF:List Str:=["begun","room"]
noncomputable abbrev Be:List Str:=["deals","view","e","moved","deal","least","card","holder"]
noncomputable abbrev Bf:List Str:=["deals","words","a","numbers","number","word","holding"]
noncomputable abbrev wk:List Str:=["thing","least","other_view","unlike"]
noncomputable abbrev oG:List Str:=["many","taken"]
noncomputable abbrev Bg:List Str:=["_law_k","_law_b","_law_numbers","_law_deals_here"]
noncomputable abbrev Bh:List Str:=["_law_k","_law_e","_law_numbers","_law_deals_here"]
noncomputable abbrev Bi:List Str:=["_law_deal","_law_card","_law_deals_here","_law_k"]
noncomputable abbrev Bj:List Str:=["_law_j","_law_deals_here","_law_thirds","_law_k"]
noncomputable abbrev qS:List Str:=["_law_deal","_law_hands"]
noncomputable abbrev Bk:List Str:=["view","other_view","unlike","thing","least"]
noncomputable abbrev Bl:List Str:=["_law_k","_law_held_here","_law_lists_here"]
noncomputable abbrev lU:List Str:=["_law_script"]
noncomputable abbrev wn:List Str:=["card","holder","who"]
section
variable(P:Program)(w:World)(K:Fg)(mg:Str->Option Value)(base:Heap)
noncomputable abbrev AE(k:Nat):Prop:=FnB P w K mg base k "is_whole" ["thing"] (jF K)
noncomputable abbrev AF(k:Nat):Prop:=FnB P w K mg base k "is_within" lR (d6 K)
noncomputable abbrev AG(k:Nat):Prop:=FnB P w K mg base k "is_pack" cG (kj K)
noncomputable abbrev AH(k:Nat):Prop:=FnB P w K mg base k "choices" oG (km K)
noncomputable abbrev wo(k:Nat):Prop:=FnB P w K mg base k "how_many" cG (gW K)
noncomputable abbrev wp(k:Nat):Prop:=FnB P w K mg base k "with_one_more" oF (fD K)
noncomputable abbrev wq(k:Nat):Prop:=FnB P w K mg base k "deals_of" cG (dM K)
noncomputable abbrev wu(k:Nat):Prop:=FnB P w K mg base k "cards_of" kI (gY K)
noncomputable abbrev wx(k:Nat):Prop:=FnB P w K mg base k "least_with_same" ["marks"] (cS K)
noncomputable abbrev wy(k:Nat):Prop:=FnB P w K mg base k "first_view" kH (dF K)
noncomputable abbrev qT(k:Nat):Prop:=FnB P w K mg base k "split" lT (ko K)
noncomputable abbrev qU(k:Nat):Prop:=FnB P w K mg base k "least_told" oD (io K)
noncomputable abbrev qV(k:Nat):Prop:=FnB P w K mg base k "least_unlike" oC (gk K)
noncomputable abbrev qW(k:Nat):Prop:=FnB P w K mg base k "words_said" oB (im K)
noncomputable abbrev wz(k:Nat):Prop:=FnB P w K mg base k "fails" ir (gO K)
noncomputable abbrev wA(k:Nat):Prop:=FnB P w K mg base k "least_unmoved" lm (fE K)
noncomputable abbrev wB(k:Nat):Prop:=FnB P w K mg base k "_law_cell" oE (cB K)
noncomputable abbrev wC(k:Nat):Prop:=FnB P w K mg base k "_law_mixed" oz (dU K)
noncomputable abbrev wD(k:Nat):Prop:=FnB P w K mg base k "_law_pack" hV (gP K)
noncomputable abbrev wE(k:Nat):Prop:=FnB P w K mg base k "_law_deals" oA (fu K)
noncomputable abbrev qX(k:Nat):Prop:=FnB P w K mg base k "_law_held" kG (cm K)
noncomputable abbrev wF(k:Nat):Prop:=FnB P w K mg base k "_law_lists" sZ (fw K)
noncomputable abbrev wG(k:Nat):Prop:=FnB P w K mg base k "_law_three" oy (ip K)
noncomputable abbrev wH(k:Nat):Prop:=FnB P w K mg base k "_law_spoken" m7 (gQ K)
noncomputable abbrev wI(k:Nat):Prop:=FnB P w K mg base k "_law_due" sY (eY K)
noncomputable abbrev wJ(k:Nat):Prop:=FnB P w K mg base k "_law_told" sX (ee K)
noncomputable abbrev wK(k:Nat):Prop:=FnB P w K mg base k "_law_refused" hV (gu K)
end
seal L2.PE L2.PA L2.PS L2.PSs L2.PT L2.PW L2.PI L2.PG L2.PGs L2.PO L2.PTL L2.OpR L2.UnR L2.cw L2.SlR L2.IxR L2.yI
noncomputable def top(i:Nat):Stmt:=PySem.Challenge.pw_knowcards_k55_the_first_that_fails.main.body.getD i (.Pass ⟨0,0,0,0⟩)
noncomputable abbrev iF:Stmt:=top 1
theorem ud:aK ["thing"] ["thing"] (am iF):=by walk_at "w"
noncomputable abbrev hZ:Stmt:=top 2
theorem tD:aK lR lR (am hZ):=by walk_at "w"
noncomputable abbrev ii:Stmt:=top 14
theorem wL:aK cG cG (am ii):=by walk_at "w"
noncomputable abbrev iG:Stmt:=top 15
theorem dN:aK ["cards","sizes","many","left","size"] cG (am iG):=by walk_at "w"
noncomputable abbrev jA:Stmt:=top 16
theorem iH:aK ["many","taken","ways","step"] oG (am jA):=by walk_at "w"
noncomputable abbrev gx:Stmt:=top 17
theorem bJ:aK ["cards","sizes","room","begun","card"] cG (am gx):=by walk_at "w"
noncomputable abbrev dX:Stmt:=top 18
theorem cH:aK ["begun","room","longer","deal","who","most"] oF (am dX):=by walk_at "w"
noncomputable abbrev gy:Stmt:=top 19
theorem ue:aK kI kI (am gy):=by walk_at "w"
noncomputable abbrev eg:Stmt:=top 21
theorem qz:aK kH kH (am eg):=by walk_at "w"
noncomputable abbrev lV:Stmt:=top 22
theorem AI:aK lT lT (am lV):=by walk_at "w"
noncomputable abbrev cu:Stmt:=top 23
theorem cU:aK ["marks","firsts","thing","mark"] ["marks"] (am cu):=by walk_at "w"
noncomputable abbrev jX:Stmt:=top 25
theorem bQ:aK ["cards","sizes","words","a","b","e","deals","said","others","told","deal"] ir (am jX):=by walk_at "w"
noncomputable abbrev ek:Stmt:=top 26
theorem dH:aK Bf oB (am ek):=by walk_at "w"
noncomputable abbrev dq:Stmt:=top 27
theorem dY:aK Bk oC (am dq):=by walk_at "w"
noncomputable abbrev em:Stmt:=top 28
theorem cQ:aK Be oD (am em):=by walk_at "w"
noncomputable abbrev dZ:Stmt:=top 29
theorem fF:aK ["deal","least","moved","e","card","holder"] lm (am dZ):=by walk_at "w"
noncomputable abbrev h7:Stmt:=top 31
theorem gA:aK ["_law_script","_law_k","_law_number"] oE (am h7):=by walk_at "w"
noncomputable abbrev gB:Stmt:=top 32
theorem iu:aK ["_law_cell_here","_law_k","_law_number"] oz (am gB):=by walk_at "w"
noncomputable abbrev h8:Stmt:=top 33
theorem bK:aK ["_law_cell_here","_law_some","_law_cards","_law_sizes","_law_at"] hV (am h8):=by walk_at "w"
noncomputable abbrev eB:Stmt:=top 34
theorem cr:aK Bd oA (am eB):=by walk_at "w"
noncomputable abbrev eZ:Stmt:=top 35
theorem tE:aK kG kG (am eZ):=by walk_at "w"
noncomputable abbrev eE:Stmt:=top 36
theorem cR:aK Bc sZ (am eE):=by walk_at "w"
noncomputable abbrev gC:Stmt:=top 37
theorem dI:aK ["_law_cell_here","_law_many","_law_left","_law_found","_law_k"] oy (am gC):=by walk_at "w"
noncomputable abbrev dJ:Stmt:=top 38
theorem pF:aK m7 m7 (am dJ):=by walk_at "w"
noncomputable abbrev ci:Stmt:=top 39
theorem cj:aK mZ sY (am ci):=by walk_at "w"
noncomputable abbrev fc:Stmt:=top 40
theorem gD:aK Bb sX (am fc):=by walk_at "w"
noncomputable abbrev dt:Stmt:=top 41
theorem bo:aK Dv hV (am dt):=by walk_at "w"
noncomputable abbrev lW:Stmt:=top 42
theorem cI:aK AD lU (am lW):=by walk_at "w"
section
variable{P:Program}{w:World}{K:Fg}{mg:Str->Option Value}{base:Heap}{f:Addr}{fd:Fk}
theorem uf(D:Def K mg "is_whole" iF ["thing"] f fd)(B:Blt mg):AE P w K mg base 1:=by
 refine D.ok ud (by walk_at "l") fun _ _ _ _ _ _ _ _ hr h=>?_;exact⟨nJ K,(ao (aG (kO (aC fC rfl B.isinstance GV (ad (pv 0) (ad (fG (v:=.ty "int") rfl B.int boot_int rfl) af))) (nh (wP (aC fC rfl B.isinstance GV (ad (pv 0) (ad (fG (v:=.ty "bool") rfl B.bool boot_bool rfl) af)))))))),tU h⟩
theorem tF(D:Def K mg "is_within" hZ lR f fd)(B:Blt mg)(U18:AE P w K mg base 1):AF P w K mg base 2:=by
 refine D.ok tD (by walk_at "l") fun _ _ _ _ _ _ _ _ hr h=>?_;exact⟨mj K,(ao (aG (kO (au U18 (rmD hr) (ad (pv 0) af)) (nh (yM vc vc (pv 1) (pv 0) (pv 2)))))),rR h⟩
theorem wM(D:Def K mg "is_pack" ii cG f fd)(B:Blt mg){t_MOST_CARDS:Tok}(m_MOST_CARDS:mg "MOST_CARDS"=some (.int 12 t_MOST_CARDS)){t_MOST_HANDS:Tok}(m_MOST_HANDS:mg "MOST_HANDS"=some (.int 5 t_MOST_HANDS))(U17:AF P w K mg base 2):AG P w K mg base 3:=by
 refine D.ok wL (by walk_at "l") fun _ _ _ _ _ _ _ _ hr h=>?_;exact⟨p6 K,(ai (bE (d4 (de (au U17 (rmD hr) (ad (pv 0) (ac ag (ad (dc (v:=(.int 12)) rfl m_MOST_CARDS ⟨_,rfl⟩) af)))))) (ao (aG jc)) bc)
  (ai (bE (PW.pt (jZ (d4 (de (aC fC rfl B.isinstance GV (ad (pv 1) (ad (fG (v:=.ty "list") rfl B.list Ms rfl) af))))) (kN (d4 (de (au U17 (rmD hr) (aE (aC aI rfl B.len GL (ad (pv 1) af)) (ac ag (ad (dc (v:=(.int 5)) rfl m_MOST_HANDS ⟨_,rfl⟩) af))))))))) (ao (aG jc)) bc)
  (ao (aG (kO (aC (pP rfl) rfl B.all boot_all (bV (bX (sc:=(am ii)) (NX:=cG) (N:=["size","cards"]) (ix:=[none,some 0]) rfl (by walk_at "c") (cf (pv 1)) (by intros;exact(pgC 0 ["size","cards"])) (by intros;exact bW) (by intros;exact(au U17 (rmD hr) (ad (pv 0) (ac ag (ad (pv 1) af)))))) af)) (nh (iI vc (aC (jd rfl) rfl B.sum L5 (ad (pv 1) af)) (pv 0) (ba _)))))))),vC h⟩
theorem ug(D:Def K mg "how_many" iG cG f fd)(B:Blt mg)(U24:AH P w K mg base 1)(U23:AG P w K mg base 3):wo P w K mg base 4:=by
 refine D.ok dN (by walk_at "l") fun _ _ _ _ _ _ _ _ hr h=>?_;exact⟨nM K,(ai (bE (d4 (de (au U23 (rmD hr) (ad (pv 0) (ad (pv 1) af))))) (ao mB) bc)
  (ai (psS 2 dN ag)
  (ai (psS 3 dN (pv 0))
  (ai (bv Fs rfl (cf (pv 1)) (pgS 4 dN) (ai (psS 2 dN (az cN (pv 2) (au U24 (rmD hr) (ad (pv 3) (ad (pv 4) af)))))
  (ao (psS 3 dN (az kR (pv 3) (pv 4))))))
  (ao (aG (pv 2))))))),tV h⟩
theorem wN(D:Def K mg "choices" jA oG f fd)(B:Blt mg):AH P w K mg base 1:=by
 refine D.ok iH (by walk_at "l") fun _ _ _ _ _ _ _ _ hr h=>?_;exact⟨p7 K,(ai (psS 2 iH ag)
  (ai (bv Fs rfl (bn rfl B.range (ad (pv 1) af)) (pgS 3 iH) (ao (psS 2 iH (az fI (az cN (pv 2) (az kR (pv 0) (pv 3))) (az dD (pv 3) ag)))))
  (ao (aG (pv 2))))),vD h⟩
theorem uh(D:Def K mg "deals_of" gx cG f fd)(B:Blt mg){t_MOST_DEALS:Tok}(m_MOST_DEALS:mg "MOST_DEALS"=some (.int 2000 t_MOST_DEALS))(U20:wo P w K mg base 4)(U2:wp P w K mg base 1):wq P w K mg base 5:=by
 refine D.ok bJ (by walk_at "l") fun _ _ _ _ _ _ _ _ hr h=>?_;exact⟨kn K,(ai (bE (aZ qJ (au U20 (rmD hr) (ad (pv 0) (ad (pv 1) af))) (dc (v:=(.int 2000)) rfl m_MOST_DEALS ⟨_,rfl⟩) (ba _)) (ao mB) bc)
  (ai (psS 2 bJ (az rB (pv 1) (kS (cy (az kR (pv 0) (aC (jd rfl) rfl B.sum L5 (ad (pv 1) af))) af))))
  (ai (psS 3 bJ (kS (aN (rg af) af)))
  (ai (bv Fs rfl (bn rfl B.range (ad (pv 0) af)) (pgS 4 bJ) (ao (psS 3 bJ (au U2 (rmD hr) (ad (pv 3) (ad (pv 2) af))))))
  (ao (aG (pv 3))))))),ml h⟩
theorem tG{f:Addr}{fd:Fk}(D:Def K mg "deals_of" gx cG f fd)(B:Blt mg){G:cM}(T:iM P w K mg G){t_MOST_DEALS:Tok}(m_MOST_DEALS:mg "MOST_DEALS"=some (.int 2000 t_MOST_DEALS))(U20:wo P w K mg base 4)(U2:wp P w K mg base 1):FnX P w K mg base 5 "deals_of" cG (g9 K G):=by
 have Z0:bU P w K mg base CX0 5 f fd cG (dM K):=by
  refine D.fn.ok bJ (fun vs H Q E h=>rS h) (fun cdv A outer s H vs Q E hr h=>?_);have hu:=hr.units0;have hux:=hr.units64;exact⟨kn K,(ai (bE (aZ qJ (au U20 (rmD hr) (ad (pv 0) (ad (pv 1) af))) (dc (v:=(.int 2000)) rfl m_MOST_DEALS ⟨_,rfl⟩) (ba _)) (ao mB) bc)
  (ai (psS 2 bJ (az rB (pv 1) (kS (cy (az kR (pv 0) (aC (jd rfl) rfl B.sum L5 (ad (pv 1) af))) af))))
  (ai (psS 3 bJ (kS (aN (rg af) af)))
  (ai (bv Fs rfl (bn rfl B.range (ad (pv 0) af)) (pgS 4 bJ) (ao (psS 3 bJ (au U2 (rmD hr) (ad (pv 3) (ad (pv 2) af))))))
  (ao (aG (pv 3))))))),ml h⟩
 have Z2:bU P w K mg base (CX1 P w) 5 f fd cG (gw K G):=by
  refine D.fnX bJ (fun vs H Q E h=>qy h) (fun cdv A outer s H vs Q E hr h=>?_);have hu:=hr.units0;have hux:=hr.units64;exact⟨hU K G E,(ai (bE (aZ qJ (au U20 (rmD hr) (ad (pv 0) (ad (pv 1) af))) (dc (v:=(.int 2000)) rfl m_MOST_DEALS ⟨_,rfl⟩) (ba _)) (ao (zN rfl T.ex_TooMany rfl T.m_TooMany Dk (eF (zR (a:="the pack has more than ") (b:=" deals") (dc (v:=(.int 2000)) rfl m_MOST_DEALS ⟨_,rfl⟩) (by decide) (by decide+kernel) (by decide+kernel) (by decide+kernel)) af))) bc)
  pe),t6 h⟩
 exact⟨f,fd,bU.or Z0.up Z2,D.m,D.fn.kp,D.b⟩
theorem m8(D:Def K mg "with_one_more" dX oF f fd)(B:Blt mg):wp P w K mg base 1:=by
 refine D.ok cH (by walk_at "l") fun _ _ _ _ _ _ _ _ hr h=>?_;exact⟨jj K,(ai (psS 2 cH (kS af))
  (ai (bv Fs rfl (cf (pv 0)) (pgS 3 cH) (ao (bv Fs rfl (fL bP rfl B.enumerate (by decide) (ad (pv 1) af)) (cC rfl (aO (pgS 4 cH) (aO (pgS 5 cH) cb))) (ao (bE (aZ va (AM L6 JD L7 pT (pv 3) (ad (pv 4) af)) (pv 5) (ba _)) (ao (fH (lq G0 L8 L9 kU (pv 2) (cy (az uu (pv 3) (rg (ad (pv 4) af))) af)))) bc)))))
  (ao (aG (pv 2))))),mL h⟩
theorem ui(D:Def K mg "cards_of" gy kI f fd)(B:Blt mg):wu P w K mg base 1:=by
 refine D.ok ue (by walk_at "l") fun _ _ _ _ _ _ _ _ hr h=>?_;exact⟨nQ K,(ao (aG (fJ kK rfl B.tuple OT (bV (bX (sc:=(am gy)) (NX:=kI) (N:=wn) (ix:=[none,none,some 1]) rfl (by walk_at "c") (fL ka rfl B.enumerate (by decide) (ad (pv 0) af)) (by intros;exact(cC rfl (aO (pgC 0 wn) (aO (pgC 1 wn) cb)))) (by intros;exact(jN (aZ j5 (pv 1) (pv 2) (ba _)))) (by intros;exact(pv 0))) af)))),tW h⟩
theorem qA(D:Def K mg "first_view" eg kH f fd)(B:Blt mg)(U22:wu P w K mg base 1)(U0:wx P w K mg base 1):wy P w K mg base 2:=by
 refine D.ok qz (by walk_at "l") fun _ _ _ _ _ _ _ _ hr h=>?_;exact⟨fZ K,(ao (aG (au U0 (rmD hr) (bV (bX (sc:=(am eg)) (NX:=kH) (N:=["deal","hand"]) (ix:=[none,some 1]) rfl (by walk_at "c") (cf (pv 0)) (by intros;exact(pgC 0 ["deal","hand"])) (by intros;exact bW) (by intros;exact(au U22 (rmD hr) (ad (pv 0) (ad (pv 1) af))))) af)))),qp h⟩
theorem AJ(D:Def K mg "split" lV lT f fd)(B:Blt mg)(U0:wx P w K mg base 1):qT P w K mg base 2:=by
 refine D.ok AI (by walk_at "l") fun _ _ _ _ _ _ _ _ hr h=>?_;exact⟨lJ K,(ao (aG (au U0 (rmD hr) (aE (Cl bP bP rfl rfl B.list rfl B.zip (ad (pv 0) (ad (pv 1) af))) af)))),zw h⟩
theorem ln(D:Def K mg "least_with_same" cu ["marks"] f fd)(B:Blt mg):wx P w K mg base 1:=by
 refine D.ok cU (by walk_at "l") fun _ _ _ _ _ _ _ _ hr h=>?_;have hux:=hr.units64;exact⟨da K,(ai (fT (i:=1) cU.nd rfl (Ht rfl) kA)
  (ai (bv Fs rfl (fL bP rfl B.enumerate (by decide) (ad (pv 0) af)) (cC rfl (aO (pgS 2 cU) (aO (pgS 3 cU) cb))) (ao (fH (vV IT KQ (jU hux) (pv 1) (ad (pv 3) (ad (pv 2) af))))))
  (ao (aG (bX (sc:=(am cu)) (NX:=["marks","firsts","thing","mark"]) (N:=["mark","firsts"]) (ix:=[none,some 1]) rfl (by walk_at "c") (cf (pv 0)) (by intros;exact(pgC 0 ["mark","firsts"])) (by intros;exact bW) (by intros;exact(uM hux (pv 1) (pv 0) (fun _ _=>rfl)))))))),lb h⟩
theorem AK(D:Def K mg "fails" jX ir f fd)(B:Blt mg)(U19:wq P w K mg base 5)(U10:wy P w K mg base 2)(U9:qU P w K mg base 2)(U4:qV P w K mg base 1)(U25:qT P w K mg base 2)(U12:qW P w K mg base 2):wz P w K mg base 6:=by
 refine D.ok bQ (by walk_at "l") fun _ _ _ _ _ _ _ _ hr h=>?_;exact⟨jT K,(ai (psS 6 bQ (au U19 (rmD hr) (ad (pv 0) (ad (pv 1) af))))
  (ai (psS 7 bQ (au U12 (rmD hr) (ad (pv 6) (ad (pv 2) (ad (pv 3) af)))))
  (ai (psS 8 bQ (au U4 (rmD hr) (aE (au U25 (rmD hr) (aE (au U10 (rmD hr) (ad (pv 6) (ad (pv 4) af))) (ad (pv 7) af))) (aE (au U10 (rmD hr) (ad (pv 6) (ad (pv 3) af))) af))))
  (ai (psS 9 bQ (au U9 (rmD hr) (ad (pv 6) (aE (au U25 (rmD hr) (aE (au U10 (rmD hr) (ad (pv 6) (ad (pv 5) af))) (ad (pv 7) af))) (ad (pv 5) af)))))
  (ai (bv Fs rfl (bn rfl B.range (aE (aC aI rfl B.len GL (ad (pv 6) af)) af)) (pgS 10 bQ) (ai (bE (aZ iE (aD av (pv 8) (pv 10) (fun _ _=>rfl)) db (ba _)) (ao (aG (aR (ac jJ (ad (pv 10) (aw (aD av (pv 8) (pv 10) (fun _ _=>rfl)) af)))))) bc)
  (ao (bE (aZ iE (aD av (pv 9) (pv 10) (fun _ _=>rfl)) db (ba _)) (ao (aG (aR (ac jJ (ad (pv 10) (aw (aD av (pv 9) (pv 10) (fun _ _=>rfl)) af)))))) bc))))
  (ao (aG db))))))),sj h⟩
theorem yF{G:cM}{f:Addr}{fd:Fk}(D:Def K mg "fails" jX ir f fd)(B:Blt mg)(T:iM P w K mg G)(U19:wq P w K mg base 5)(U10:wy P w K mg base 2)(U9:qU P w K mg base 2)(U4:qV P w K mg base 1)(U25:qT P w K mg base 2)(U12:qW P w K mg base 2)(FX_deals_of:FnX P w K mg base 5 "deals_of" cG (g9 K G)):FnX P w K mg base 6 "fails" ir (ku K G):=by
 have Z0:bU P w K mg base CX0 6 f fd ir (gO K):=by
  refine D.fn.ok bQ (fun vs H Q E h=>xR h) (fun cdv A outer s H vs Q E hr h=>?_);have hu:=hr.units0;have hux:=hr.units64;exact⟨jT K,(ai (psS 6 bQ (au U19 (rmD hr) (ad (pv 0) (ad (pv 1) af))))
  (ai (psS 7 bQ (au U12 (rmD hr) (ad (pv 6) (ad (pv 2) (ad (pv 3) af)))))
  (ai (psS 8 bQ (au U4 (rmD hr) (aE (au U25 (rmD hr) (aE (au U10 (rmD hr) (ad (pv 6) (ad (pv 4) af))) (ad (pv 7) af))) (aE (au U10 (rmD hr) (ad (pv 6) (ad (pv 3) af))) af))))
  (ai (psS 9 bQ (au U9 (rmD hr) (ad (pv 6) (aE (au U25 (rmD hr) (aE (au U10 (rmD hr) (ad (pv 6) (ad (pv 5) af))) (ad (pv 7) af))) (ad (pv 5) af)))))
  (ai (bv Fs rfl (bn rfl B.range (aE (aC aI rfl B.len GL (ad (pv 6) af)) af)) (pgS 10 bQ) (ai (bE (aZ iE (aD av (pv 8) (pv 10) (fun _ _=>rfl)) db (ba _)) (ao (aG (aR (ac jJ (ad (pv 10) (aw (aD av (pv 8) (pv 10) (fun _ _=>rfl)) af)))))) bc)
  (ao (bE (aZ iE (aD av (pv 9) (pv 10) (fun _ _=>rfl)) db (ba _)) (ao (aG (aR (ac jJ (ad (pv 10) (aw (aD av (pv 9) (pv 10) (fun _ _=>rfl)) af)))))) bc))))
  (ao (aG db))))))),sj h⟩
 have Z1:bU P w K mg base (CX1 P w) 6 f fd ir (jr K G):=by
  refine D.fnX bQ (fun vs H Q E h=>vT h) (fun cdv A outer s H vs Q E hr h=>?_);have hu:=hr.units0;have hux:=hr.units64;exact⟨ju K G E,(ai (psS 6 bQ (sv FX_deals_of (rmD hr) DV (ad (pv 0) (ad (pv 1) af))))
  pe),yb h⟩
 have Z2:bU P w K mg base (CX1 P w) 6 f fd ir (js K G):=by
  refine D.fnX bQ (fun vs H Q E h=>vU h) (fun cdv A outer s H vs Q E hr h=>?_);have hu:=hr.units0;have hux:=hr.units64;exact⟨sE K G E,pe,zV h⟩
 exact⟨f,fd,bU.or Z0.up (bU.or Z1 Z2),D.m,D.fn.kp,D.b⟩
theorem qB(D:Def K mg "words_said" ek oB f fd)(B:Blt mg)(U22:wu P w K mg base 1):qW P w K mg base 2:=by
 refine D.ok dH (by walk_at "l") fun _ _ _ _ _ _ _ _ hr h=>?_;have hux:=hr.units64;exact⟨gh K,(ai (fT (i:=3) dH.nd rfl (Ht rfl) kA)
  (ai (bv Fs rfl (fL bP rfl B.enumerate (by decide) (ad (pv 1) af)) (cC rfl (aO (pgS 4 dH) (aO (pgS 5 dH) cb))) (ao (bv Fs rfl (cf (pv 5)) (pgS 6 dH) (ao (iQ (pv 4) (wQ (pv 3) (pv 6) (A7 hux)))))))
  (ao (aG (bX (sc:=(am ek)) (NX:=Bf) (N:=["deal","numbers","a"]) (ix:=[none,some 3,some 2]) rfl (by walk_at "c") (cf (pv 0)) (by intros;exact(pgC 0 ["deal","numbers","a"])) (by intros;exact bW) (by intros;exact(uM hux (pv 1) (au U22 (rmD hr) (ad (pv 0) (ad (pv 2) af))) (fun _ _=>rfl)))))))),qq h⟩
theorem oH(D:Def K mg "least_unlike" dq oC f fd)(B:Blt mg):qV P w K mg base 1:=by
 refine D.ok dY (by walk_at "l") fun _ _ _ _ _ _ _ _ hr h=>?_;have hux:=hr.units64;exact⟨eI K,(ai (fT (i:=2) dY.nd rfl (Ht rfl) kA)
  (ai (bv Fs rfl (fL bP rfl B.enumerate (by decide) (ad (pv 0) af)) (cC rfl (aO (pgS 3 dY) (aO (pgS 4 dY) cb))) (ao (bE (aZ ni (aD av (pv 1) (pv 3) (fun _ _=>rfl)) (aD av (pv 1) (pv 4) (fun _ _=>rfl)) (ba _)) (ao (fH (vV IT KQ (jU hux) (pv 2) (ad (pv 4) (ad (pv 3) af))))) bc)))
  (ao (aG (bX (sc:=(am dq)) (NX:=Bk) (N:=wk) (ix:=[none,none,some 1,some 2]) rfl (by walk_at "c") (fL bP rfl B.enumerate (by decide) (ad (pv 0) af)) (by intros;exact(cC rfl (aO (pgC 0 wk) (aO (pgC 1 wk) cb)))) (by intros;exact bW) (by intros;exact(yH (aZ j5 (aD av (pv 2) (pv 0) (fun _ _=>rfl)) (aD av (pv 2) (pv 1) (fun _ _=>rfl)) (ba _)) (vV MT PySem.F.type_dict_get Cj (pv 3) (ad (pv 1) af)) (pv 1)))))))),nV h⟩
theorem qC(D:Def K mg "least_told" em oD f fd)(B:Blt mg)(U1:wA P w K mg base 1):qU P w K mg base 2:=by
 refine D.ok cQ (by walk_at "l") fun _ _ _ _ _ _ _ _ hr h=>?_;have hux:=hr.units64;exact⟨gn K,(ai (fT (i:=3) cQ.nd rfl (Ht rfl) kA)
  (ai (bv Fs rfl (xm bP bP rfl B.zip (ad (pv 0) (ad (pv 1) af))) (cC rfl (aO (pgS 4 cQ) (aO (pgS 5 cQ) cb))) (ao (bv Fs rfl (fL ka rfl B.enumerate (by decide) (ad (pv 4) af)) (cC rfl (aO (pgS 6 cQ) (aO (pgS 7 cQ) cb))) (ao (bE (aZ ni (pv 7) (aD jL (aD av (pv 0) (pv 5) (fun _ _=>rfl)) (pv 6) (fun _ _=>rfl)) (ba _)) (ao (iQ jc (wQ (pv 3) (aR (ad (pv 5) (ad (pv 6) af))) (A7 hux)))) bc)))))
  (ao (aG (bX (sc:=(am em)) (NX:=Be) (N:=lm) (ix:=[none,none,some 3,some 2]) rfl (by walk_at "c") (xm bP bP rfl B.zip (ad (pv 0) (ad (pv 1) af))) (by intros;exact(cC rfl (aO (pgC 0 lm) (aO (pgC 1 lm) cb)))) (by intros;exact bW) (by intros;exact(au U1 (rmD hr) (ad (pv 0) (ad (pv 1) (ad (pv 2) (ad (pv 3) af))))))))))),qr h⟩
theorem ng(D:Def K mg "least_unmoved" dZ lm f fd)(B:Blt mg):wA P w K mg base 1:=by
 refine D.ok fF (by walk_at "l") fun _ _ _ _ _ _ _ _ hr h=>?_;have hux:=hr.units64;exact⟨dS K,(ai (bv Fs rfl (fL ka rfl B.enumerate (by decide) (ad (pv 0) af)) (cC rfl (aO (pgS 4 fF) (aO (pgS 5 fF) cb))) (ao (bE (PW.pt (qZ (aZ ni (pv 5) (pv 3) (ba _)) (oK (aZ (yj hux) (aR (ad (pv 1) (ad (pv 4) af))) (pv 2) rfl)))) (ao (aG (pv 4))) bc)))
  (ao (aG db))),mM h⟩
theorem tH(D:Def K mg "_law_cell" h7 oE f fd)(B:Blt mg):wB P w K mg base 1:=by
 refine D.ok gA (by walk_at "l") fun _ _ _ _ _ _ _ _ hr h=>?_;exact⟨fo K,(ai (bE (aZ va (pv 1) (aC aI rfl B.len GL (ad (pv 0) af)) (ba _)) (ao (aG (aD av (pv 0) (pv 1) (fun _ _=>rfl)))) bc)
  (ai (psS 2 gA (az dD (az cN (pv 1) ag) ag))
  (ai (bE (aZ qJ (aC aI rfl B.len GL (ad (pv 0) af)) ag (ba _)) (ao (psS 2 gA (az dD (az cN (az bG (aD av (pv 0) (az bG (az cN (pv 1) ag) (aC aI rfl B.len GL (ad (pv 0) af))) (fun _ _=>rfl)) ag) ag) (az cN (pv 1) ag)))) bc)
  (ai (psS 2 gA (az bG (az cN (pv 2) (pv 2)) ag))
  (ao (aG (az bG (az cN (pv 2) (az dD (pv 2) ag)) ag))))))),oY h⟩
theorem qD(D:Def K mg "_law_mixed" gB oz f fd)(B:Blt mg):wC P w K mg base 1:=by
 refine D.ok iu (by walk_at "l") fun _ _ _ _ _ _ _ _ hr h=>?_;exact⟨eJ K,(ai (psS 2 iu (az bG (az dD (az dD (az cN (az bG (pv 0) ag) ag) (az cN (pv 1) ag)) ag) ag))
  (ai (psS 2 iu (az bG (az cN (pv 2) (az dD (pv 2) ag)) ag))
  (ao (aG (az bG (az cN (pv 2) (az dD (pv 2) ag)) ag))))),nW h⟩
theorem tI(D:Def K mg "_law_pack" h8 hV f fd)(B:Blt mg):wD P w K mg base 1:=by
 refine D.ok bK (by walk_at "l") fun _ _ _ _ _ _ _ _ hr h=>?_;exact⟨fq K,(ai (psS 1 bK (aM (aN (aR (ac ag (aV (aM (ac ag (ac ag (ac ag af)))) af))) (aN (aR (ac ag (aV (aM (ac ag (ac ag (ac ag af)))) af))) (aN (aR (ac ag (aV (aM (ac ag (ac ag (ac ag af)))) af))) (aN (aR (ac ag (aV (aM (ac ag (ac ag (ac ag af)))) af))) (aN (aR (ac ag (aV (aM (ac ag (ac ag (ac ag af)))) af))) (aN (aR (ac ag (aV (aM (ac ag (ac ag (ac ag af)))) af))) af))))))))
  (ai (psS 1 bK (az n4 (pv 1) (aM (aN (aR (ac ag (aV (aM (ac ag (ac ag (ac ag af)))) af))) (aN (aR (ac ag (aV (aM (ac ag (ac ag (ac ag af)))) af))) (aN (aR (ac ag (aV (aM (ac ag (ac ag (ac ag af)))) af))) (aN (aR (ac ag (aV (aM (ac ag (ac ag (ac ag (ac ag af))))) af))) (aN (aR (ac ag (aV (aM (ac ag (ac ag (ac ag af)))) af))) (aN (aR (ac ag (aV (aM (ac ag (ac ag (ac ag (ac ag af))))) af))) af)))))))))
  (ai (psS 1 bK (az n4 (pv 1) (aM (aN (aR (ac ag (aV (aM (ac ag (ac ag (ac ag af)))) af))) (aN (aR (ac ag (aV (aM (ac ag (ac ag (ac ag af)))) af))) (aN (aR (ac ag (aV (aM (ac ag (ac ag (ac ag (ac ag af))))) af))) (aN (aR (ac ag (aV (aM (ac ag (ac ag (ac ag af)))) af))) af)))))))
  (ai (iQ (aD av (pv 1) (az bG (pv 0) ag) (fun _ _=>rfl)) (cC rfl (aO (pgS 2 bK) (aO (pgS 3 bK) cb))))
  (ai (bE (aZ j5 (az bG (az fI (pv 0) ag) ag) ag (ba _)) (ai (psS 1 bK (aM (aN (aR (ac ag (aV (aM (ac ag (ac ag (ac ag af)))) af))) (aN (aR (ac ag (aV (aM (ac ag (ac ag (ac ag (ac ag af))))) af))) (aN (aR (ac ag (aV (aM (ac ag (ac ag (ac ag (ac ag af))))) af))) (aN (aR (ac ag (aV (aM (ac ag (ac ag (ac ag (ac ag (ac ag af)))))) af))) af))))))
  (ao (iQ (aD av (pv 1) (az bG (az fI (pv 0) ag) ag) (fun _ _=>rfl)) (cC rfl (aO (pgS 2 bK) (aO (pgS 3 bK) cb)))))) bc)
  (ai (psS 4 bK (az bG (az fI (pv 0) ag) (aC aI rfl B.len GL (ad (pv 3) af))))
  (ao (aG (aR (ad (pv 2) (cy (az n4 (mF uI (pv 3) (oP (pv 4)) oO) (mF uI (pv 3) oO (oP (pv 4)))) af))))))))))),o0 h⟩
theorem qE(D:Def K mg "_law_deals" eB oA f fd)(B:Blt mg):wE P w K mg base 1:=by
 refine D.ok cr (by walk_at "l") fun _ _ _ _ _ _ _ _ hr h=>?_;exact⟨gq K,(ai (fT (i:=2) cr.nd rfl (Ht rfl) (az n4 (pv 1) (aM (cy (az kR (pv 0) (aC (jd rfl) rfl B.sum L5 (ad (pv 1) af))) af))))
  (ai (psS 3 cr (aM (aN (aR af) af)))
  (ai (bv Fs rfl (bn rfl B.range (ad (pv 0) af)) (pgS 4 cr) (ai (psS 5 cr (aM af))
  (ai (bv Fs rfl (cf (pv 3)) (gG (i:=6) cr.nd rfl (Ht rfl)) (ao (fH (lq G0 Ma Mb pM (pv 5) (bV (bX (sc:=(am eB)) (NX:=Bd) (N:=["_law_who","_law_row","_law_room"]) (ix:=[none,some 6,some 2]) rfl (by walk_at "c") (bn rfl B.range (aE (aC aI rfl B.len GL (ad (pv 2) af)) af)) (by intros;exact(pgC 0 ["_law_who","_law_row","_law_room"])) (by intros;exact(jN (aZ va (AM L6 JD L7 pT (pv 1) (ad (pv 0) af)) (aD av (pv 2) (pv 0) (fun _ _=>rfl)) (ba _)))) (by intros;exact(az uG (pv 1) (aR (ad (pv 0) af))))) af)))))
  (ao (psS 3 cr (pv 5))))))
  (ao (aG (pv 3)))))),qw h⟩
theorem tJ(D:Def K mg "_law_held" eZ kG f fd)(B:Blt mg):qX P w K mg base 1:=by
 refine D.ok tE (by walk_at "l") fun _ _ _ _ _ _ _ _ hr h=>?_;exact⟨gZ K,(ao (aG (fJ zM rfl B.tuple OT (bV (bX (sc:=(am eZ)) (NX:=kG) (N:=["_law_card","_law_who","_law_deal"]) (ix:=[none,some 1,some 0]) rfl (by walk_at "c") (bn rfl B.range (aE (aC aI rfl B.len GL (ad (pv 0) af)) af)) (by intros;exact(pgC 0 ["_law_card","_law_who","_law_deal"])) (by intros;exact(jN (aZ j5 (aD jL (pv 2) (pv 0) (fun _ _=>rfl)) (pv 1) (ba _)))) (by intros;exact(pv 0))) af)))),sk h⟩
theorem qF(D:Def K mg "_law_lists" eE sZ f fd)(B:Blt mg)(U6:wC P w K mg base 1):wF P w K mg base 2:=by
 refine D.ok cR (by walk_at "l") fun _ _ _ _ _ _ _ _ hr h=>?_;exact⟨gr K,(ai (psS 3 cR (aD av (aM (aE (aC (wW rfl) rfl B.max boot_max (ac ag (ad (pv 2) af))) (cy (az dD ag (az bG (az fI (pv 0) ag) ag)) af))) (az bG (az fI (pv 0) ag) ag) (fun _ _=>rfl)))
  (ai (bE (aZ j5 (az bG (pv 0) ag) ag (ba _)) (ao (psS 3 cR (aC aI rfl B.len GL (ad (pv 1) af)))) bc)
  (ai (fU (i:=4) cR.nd rfl rfl (sc:=(am eE)) (NX:=Bc) (N:=["_law_k"]) (ix:=[none]) rfl (by walk_at "c") (bn rfl B.range (ad (pv 3) af)) (by intros;exact(pgC 0 ["_law_k"])) (by intros;exact bW) (by intros;exact(aM af)))
  (ai (bv Fs rfl (bn rfl B.range (aE (aC aI rfl B.len GL (ad (pv 1) af)) af)) (pgS 5 cR) (ai (psS 6 cR (az bG (aD av (aM (aE (aC (qi rfl) rfl B.sum L5 (aw (aD av (pv 1) (pv 5) (fun _ _=>rfl)) af)) (aE (aC (qi rfl) rfl B.sum L5 (aw (aD av (pv 1) (pv 5) (fun _ _=>rfl)) af)) (ad (pv 5) (aE (au U6 (rmD hr) (ad (pv 0) (ad (pv 5) af))) af))))) (az bG (pv 0) ag) (fun _ _=>rfl)) (pv 3)))
  (ao (fH (lq G0 PySem.F.slot_list_insert PySem.F.type_list_insert yC (aD av (pv 4) (pv 6) (fun _ _=>rfl)) (cy (az bG (au U6 (rmD hr) (ad (pv 0) (cy (az dD (pv 5) ag) af))) (az dD (aC aI rfl B.len GL (aw (aD av (pv 4) (pv 6) (fun _ _=>rfl)) af)) ag)) (aw (aD av (pv 1) (pv 5) (fun _ _=>rfl)) af)))))))
  (ao (aG (pv 4))))))),qx h⟩
theorem qG(D:Def K mg "_law_three" gC oy f fd)(B:Blt mg):wG P w K mg base 1:=by
 refine D.ok dI (by walk_at "l") fun _ _ _ _ _ _ _ _ hr h=>?_;exact⟨gp K,(ai (psS 2 dI (fJ (yz rfl) rfl B.list Ms (aE (fJ yx rfl B.range OE (ad (pv 1) af)) af)))
  (ai (psS 3 dI (aM af))
  (ai (bv Fs rfl (bn rfl B.range (ac ag af)) (pgS 4 dI) (ai (fH (lq G0 L8 L9 kU (pv 3) (aE (lq G0 PySem.F.slot_list_pop PySem.F.type_list_pop yT (pv 2) (cy (az bG (pv 0) (aC aI rfl B.len GL (ad (pv 2) af))) af)) af)))
  (ao (psS 0 dI (az fI (pv 0) ag)))))
  (ao (aG (pv 3)))))),qv h⟩
theorem pG(D:Def K mg "_law_spoken" dJ m7 f fd)(B:Blt mg):wH P w K mg base 1:=by
 refine D.ok pF (by walk_at "l") fun _ _ _ _ _ _ _ _ hr h=>?_;have hux:=hr.units64;exact⟨fz K,(ao (aG (aD av (bX (sc:=(am dJ)) (NX:=m7) (N:=Bl) (ix:=[none,some 1,some 0]) rfl (by walk_at "c") (bn rfl B.range (aE (aC aI rfl B.len GL (ad (pv 0) af)) af)) (by intros;exact(pgC 0 Bl)) (by intros;exact(jN (aZ (Dt hux) (pv 1) (aD av (pv 2) (pv 0) (fun _ _=>rfl)) rfl))) (by intros;exact(pv 0))) ag (fun _ _=>rfl)))),pc h⟩
theorem uj(D:Def K mg "_law_due" ci sY f fd)(B:Blt mg)(U14:qX P w K mg base 1)(U5:wH P w K mg base 1):wI P w K mg base 2:=by
 refine D.ok cj (by walk_at "l") fun _ _ _ _ _ _ _ _ hr h=>?_;have hu:=hr.units0;have hux:=hr.units64;exact⟨iD K,(ai (fU (i:=5) cj.nd rfl rfl (sc:=(am ci)) (NX:=mZ) (N:=["_law_deal","_law_a"]) (ix:=[none,some 2]) rfl (by walk_at "c") (cf (pv 0)) (by intros;exact(pgC 0 ["_law_deal","_law_a"])) (by intros;exact bW) (by intros;exact(au U14 (rmD hr) (ad (pv 0) (ad (pv 1) af)))))
  (ai (fT (i:=6) cj.nd rfl (Ht rfl) (bX (sc:=(am ci)) (NX:=mZ) (N:=["_law_held_here","_law_lists_here"]) (ix:=[none,some 1]) rfl (by walk_at "c") (cf (pv 5)) (by intros;exact(pgC 0 ["_law_held_here","_law_lists_here"])) (by intros;exact bW) (by intros;exact(au U5 (rmD hr) (ad (pv 1) (ad (pv 0) af))))))
  (ai (fU (i:=7) cj.nd rfl rfl (sc:=(am ci)) (NX:=mZ) (N:=Bg) (ix:=[none,some 3,some 6,some 0]) rfl (by walk_at "c") (bn rfl B.range (aE (aC aI rfl B.len GL (ad (pv 0) af)) af)) (by intros;exact(pgC 0 Bg)) (by intros;exact bW) (by intros;exact(aR (aE (au U14 (rmD hr) (aw (aD av (pv 3) (pv 0) (fun _ _=>rfl)) (ad (pv 1) af))) (aw (aD av (pv 2) (pv 0) (fun _ _=>rfl)) af)))))
  (ai (fT (i:=8) cj.nd rfl (Ht rfl) (bX (sc:=(am ci)) (NX:=mZ) (N:=Bh) (ix:=[none,some 4,some 6,some 0]) rfl (by walk_at "c") (bn rfl B.range (aE (aC aI rfl B.len GL (ad (pv 0) af)) af)) (by intros;exact(pgC 0 Bh)) (by intros;exact bW) (by intros;exact(aR (aE (au U14 (rmD hr) (aw (aD av (pv 3) (pv 0) (fun _ _=>rfl)) (ad (pv 1) af))) (aw (aD av (pv 2) (pv 0) (fun _ _=>rfl)) af))))))
  (ai (bv Fs rfl (bn rfl B.range (aE (aC aI rfl B.len GL (ad (pv 0) af)) af)) (gG (i:=9) cj.nd rfl (Ht rfl)) (ai (bv Fs rfl (bn rfl B.range (aE (aC aI rfl B.len GL (ad (pv 0) af)) af)) (pgS 10 cj) (ao (bE (PW.pt (qZ (aZ (uV hux) (aD av (pv 7) (pv 10) (fun _ _=>rfl)) (aD av (pv 7) (pv 9) (fun _ _=>rfl)) (ba _)) (oK (aZ (CJ hu) (aD av (pv 5) (pv 10) (fun _ _=>rfl)) (aD av (pv 5) (pv 9) (fun _ _=>rfl)) (ba _))))) (ao (aG (aR (ac jJ (ad (pv 9) (ad (pv 10) af)))))) bc)))
  (ai (fU (i:=11) cj.nd rfl rfl (sc:=(am ci)) (NX:=mZ) (N:=Bj) (ix:=[none,some 0,some 8,some 9]) rfl (by walk_at "c") (bn rfl B.range (aE (aC aI rfl B.len GL (ad (pv 0) af)) af)) (by intros;exact(pgC 0 Bj)) (by intros;exact(jN (aZ (uV hux) (aD av (pv 2) (pv 0) (fun _ _=>rfl)) (aD av (pv 2) (pv 3) (fun _ _=>rfl)) (ba _)))) (by intros;exact(aD av (pv 1) (pv 0) (fun _ _=>rfl))))
  (ao (bv Fs rfl (bn rfl B.range (aE (aC aI rfl B.len GL (aw (aD av (pv 0) (pv 9) (fun _ _=>rfl)) af)) af)) (gG (i:=12) cj.nd rfl (Ht rfl)) (ao (bE (PW.pt (qZ (aZ ni (aD jL (aD av (pv 0) (pv 9) (fun _ _=>rfl)) (pv 12) (fun _ _=>rfl)) (pv 4) (ba _)) (oK (de (aC (pP rfl) rfl B.all boot_all (bV (bX (sc:=(am ci)) (NX:=mZ) (N:=Bi) (ix:=[none,some 12,some 0,some 9]) rfl (by walk_at "c") (cf (pv 11)) (by intros;exact(pgC 0 Bi)) (by intros;exact bW) (by intros;exact(iI j5 (aD jL (pv 0) (pv 1) (fun _ _=>rfl)) (aD jL (aD av (pv 2) (pv 3) (fun _ _=>rfl)) (pv 1) (fun _ _=>rfl)) (ba _)))) af)))))) (ao (aG (aR (ac jJ (ad (pv 9) (ad (pv 12) af)))))) bc)))))))
  (ao (aG db))))))),tZ h⟩
theorem tK(D:Def K mg "_law_told" fc sX f fd)(B:Blt mg)(U26:wz P w K mg base 6):wJ P w K mg base 7:=by
 refine D.ok gD (by walk_at "l") fun _ _ _ _ _ _ _ _ hr h=>?_;have hux:=hr.units64;exact⟨g0 K,(ai (fU (i:=5) gD.nd rfl rfl (sc:=(am fc)) (NX:=Bb) (N:=["_law_some"]) (ix:=[none]) rfl (by walk_at "c") (cf (pv 2)) (by intros;exact(pgC 0 ["_law_some"])) (by intros;exact bW) (by intros;exact(fJ uH rfl B.list Ms (ad (pv 0) af))))
  (ai (psS 6 gD (au U26 (rmD hr) (ad (pv 0) (aE (fJ uH rfl B.list Ms (ad (pv 1) af)) (ad (pv 5) (aw (aD av (pv 3) ag (fun _ _=>rfl)) (aw (aD av (pv 3) ag (fun _ _=>rfl)) (aw (aD av (pv 3) ag (fun _ _=>rfl)) af))))))))
  (ai (bE (PW.pt (jZ (aZ (Aw hux) (pv 5) (pv 2) (ba _)) (jZ (aZ jz (pv 4) db (ba _)) (kN (aZ jz (pv 6) db (ba _)))))) (ao (aG (kO (iI (sT hux) (pv 5) (pv 2) (ba _)) (kO (iI jz (pv 4) db (ba _)) (nh (iI jz (pv 6) db (ba _))))))) bc)
  (ai (bE (PW.pt (jZ (d4 (de (aC fC rfl B.isinstance GV (ad (pv 6) (ad (fG (v:=.ty "tuple") rfl B.tuple OT rfl) af))))) (jZ (aZ ni (aC aI rfl B.len GL (ad (pv 6) af)) ag (ba _)) (kN (d4 (de (aC fC rfl B.isinstance GV (aw (aD jL (pv 6) ag (fun _ _=>rfl)) (ad (fG (v:=.ty "str") rfl B.str boot_str rfl) af))))))))) (ao (aG jc)) bc)
  (ai (bv Fs rfl (Cs (mF Dj (pv 6) (oP ag) oO)) (pgS 7 gD) (ao (bE (PW.pt (jZ (d4 (de (aC fC rfl B.isinstance GV (ad (pv 7) (ad (fG (v:=.ty "int") rfl B.int boot_int rfl) af))))) (kN (de (aC fC rfl B.isinstance GV (ad (pv 7) (ad (fG (v:=.ty "bool") rfl B.bool boot_bool rfl) af))))))) (ao (aG jc)) bc)))
  (ao (aG (iI (sT hux) (pv 6) (pv 4) (ba _))))))))),so h⟩
theorem oI(D:Def K mg "_law_refused" dt hV f fd)(B:Blt mg){G:cM}(T:iM P w K mg G)(m_ValueError:mg "ValueError"=none)(FX_fails:FnX P w K mg base 6 "fails" ir (ku K G)):wK P w K mg base 7:=by
 refine D.ok bo (by walk_at "l") fun _ _ _ _ _ _ _ _ hr h=>?_;exact⟨eK K G,(ai (iQ (aD av (aM (aN (aR (ac ag (aV (aM (ac ag (ac ag (ac ag (ac ag af))))) af))) (aN (aR (ac ag (aV (aM (ac ag (ac ag (ac ag af)))) af))) (aN (aR (ac ag (aV (aM (ac ag (ac ag (ac ag af)))) af))) (aN (aR (ac ag (aV (aM (ac ag (ac ag (ac ag (ac ag (ac ag af)))))) af))) af))))) (az bG (pv 0) ag) (fun _ _=>rfl)) (cC rfl (aO (pgS 1 bo) (aO (pgS 2 bo) cb))))
  (ai (psS 3 bo (aM (aN (aR af) af)))
  (ai (bv Fs rfl (bn rfl B.range (aw (aD av (pv 2) ag (fun _ _=>rfl)) af)) (pgS 4 bo) (ai (psS 5 bo (aM af))
  (ai (bv Fs rfl (cf (pv 3)) (gG (i:=6) bo.nd rfl (Ht rfl)) (ao (fH (lq G0 Ma Mb pM (pv 5) (bV (bX (sc:=(am dt)) (NX:=Dv) (N:=["_law_card","_law_held_here"]) (ix:=[none,some 6]) rfl (by walk_at "c") (wS rfl B.range (cy (az dD (AB rfl B.max (ad (pv 6) af)) ag) (ad (pv 1) af))) (by intros;exact(pgC 0 ["_law_card","_law_held_here"])) (by intros;exact bW) (by intros;exact(az uG (pv 1) (aR (ad (pv 0) af))))) af)))))
  (ao (psS 3 bo (pv 5))))))
  (ai (psS 7 bo db)
  (zU (D:=G.CardError) rfl rfl rfl (fun _=>rfl) rfl T.m_CardError bo.nd rfl rfl (fun E pn xe hx=>(ao (fH (sv FX_fails (rmD hr) hx (ad (pv 1) (ad (pv 2) (aV (aM (ad (pv 3) af)) (ac ag (ac ag (ac ag af)))))))))) (fun a C oe pn hc hm=>(ao (psS 7 bo (pv 8)))) (fun a C oe pn hc hm=>(ai (bE (PW.pt (jZ (d4 (de (aC (mR hm hc) rfl B.isinstance GV (ad (pv 7) (ad (dc (v:=.ref G.TooMany) rfl T.m_TooMany rfl) af))))) (kN (d4 (de (aC (mR hm hc) rfl B.isinstance GV (ad (pv 7) (ad (fG (v:=.ty "ValueError") rfl m_ValueError n5 rfl) af)))))))) (ao (aG jc)) bc)
  (ao (aG (wP (aC (mR hm hc) rfl B.isinstance GV (ad (pv 7) (aN (aR (ad (dc (v:=.ref G.NoHand) rfl T.m_NoHand rfl) (ad (dc (v:=.ref G.NoPack) rfl T.m_NoPack rfl) (ad (dc (v:=.ref G.NoRow) rfl T.m_NoRow rfl) (ad (dc (v:=.ref G.NoSaying) rfl T.m_NoSaying rfl) af))))) af))))))))))))),n8 T.ok h⟩
theorem Dw(D:Def K mg "law" lW lU f fd)(B:Blt mg)(m_set:mg "set"=none)(U13:wB P w K mg base 1)(U8:wE P w K mg base 1)(U21:wI P w K mg base 2)(U14:qX P w K mg base 1)(U11:wF P w K mg base 2)(U16:wD P w K mg base 1)(U3:wK P w K mg base 7)(U7:wG P w K mg base 1)(U15:wJ P w K mg base 7):bU P w K mg base CX0 8 f fd lU (nB K):=by
 refine D.fn.ok cI (by walk_at "l") fun _ _ _ _ _ _ _ _ hr h=>?_;have hux:=hr.units64;exact⟨qQ K,(ai (psS 1 cI (au U13 (rmD hr) (ad (pv 0) (ac ag af))))
  (ai (iQ (au U16 (rmD hr) (ad (pv 1) af)) (cC rfl (aO (pgS 2 cI) (aO (pgS 3 cI) cb))))
  (ai (fT (i:=4) cI.nd rfl (Ht rfl) (au U7 (rmD hr) (aE (au U13 (rmD hr) (ad (pv 0) (ac ag af))) (aE (aC aI rfl B.len GL (ad (pv 3) af)) af))))
  (ai (psS 5 cI (au U8 (rmD hr) (ad (pv 2) (ad (pv 3) af))))
  (ai (psS 6 cI (mr hux rfl B.sorted m_set (bV (bX (sc:=(am lW)) (NX:=AD) (N:=qS) (ix:=[none,some 4]) rfl (by walk_at "c") (cf (pv 5)) (by intros;exact(pgC 0 qS)) (by intros;exact bW) (by intros;exact(au U14 (rmD hr) (ad (pv 0) (aw (aD av (pv 1) ag (fun _ _=>rfl)) af))))) af)))
  (ai (psS 7 cI (au U11 (rmD hr) (aE (au U13 (rmD hr) (ad (pv 0) (ac ag af))) (ad (pv 6) (ad (pv 2) af)))))
  (ai (bE (aZ j5 (az bG (az fI (pv 1) ag) ag) ag (ba _)) (ai (iQ (aR (ac ag (aV (aM (ac ag (ac ag (ac ag af)))) (aw (aD av (aM (aV (aM (ac ag (ac ag (ac ag af)))) (aV (aM (ac ag (ac ag (ac ag af)))) af))) (az bG (pv 1) ag) (fun _ _=>rfl)) af)))) (cC rfl (aO (pgS 2 cI) (aO (pgS 3 cI) (aO (gG (i:=4) cI.nd rfl (Ht rfl)) cb)))))
  (ai (psS 5 cI (au U8 (rmD hr) (ad (pv 2) (ad (pv 3) af))))
  (ai (psS 6 cI (mr hux rfl B.sorted m_set (bV (bX (sc:=(am lW)) (NX:=AD) (N:=qS) (ix:=[none,some 4]) rfl (by walk_at "c") (cf (pv 5)) (by intros;exact(pgC 0 qS)) (by intros;exact bW) (by intros;exact(au U14 (rmD hr) (ad (pv 0) (aw (aD av (pv 1) ag (fun _ _=>rfl)) af))))) af)))
  (ao (psS 7 cI (au U11 (rmD hr) (ac ag (ad (pv 6) (ac ag af))))))))) bc)
  (ai (bE (d4 (de (au U15 (rmD hr) (ad (pv 2) (ad (pv 3) (ad (pv 7) (ad (pv 4) (aE (au U21 (rmD hr) (ad (pv 5) (ad (pv 7) (aw (aD av (pv 4) ag (fun _ _=>rfl)) (aw (aD av (pv 4) ag (fun _ _=>rfl)) (aw (aD av (pv 4) ag (fun _ _=>rfl)) af)))))) af)))))))) (ao (aG jc)) bc)
  (ai (psS 8 cI (aM (aw (aD av (pv 4) ag (fun _ _=>rfl)) (aw (aD av (pv 4) ag (fun _ _=>rfl)) (aw (aD av (pv 4) ag (fun _ _=>rfl)) af)))))
  (ai (bE (d4 (de (au U15 (rmD hr) (ad (pv 2) (ad (pv 3) (ad (pv 7) (ad (pv 8) (aE (au U21 (rmD hr) (ad (pv 5) (ad (pv 7) (aw (aD av (pv 8) ag (fun _ _=>rfl)) (aw (aD av (pv 8) ag (fun _ _=>rfl)) (aw (aD av (pv 8) ag (fun _ _=>rfl)) af)))))) af)))))))) (ao (aG jc)) bc)
  (ao (aG (au U3 (rmD hr) (aE (au U13 (rmD hr) (ad (pv 0) (ac ag af))) af)))))))))))))),Di h⟩
theorem Ec(B:Blt mg){G:cM}{f1:Addr}{fd1:Fk}(V45:Def K mg "is_whole" iF ["thing"] f1 fd1){f2:Addr}{fd2:Fk}(V44:Def K mg "is_within" hZ lR f2 fd2){f3:Addr}{fd3:Fk}(V50:Def K mg "is_pack" ii cG f3 fd3){f4:Addr}{fd4:Fk}(V47:Def K mg "how_many" iG cG f4 fd4){f5:Addr}{fd5:Fk}(V51:Def K mg "choices" jA oG f5 fd5){f6:Addr}{fd6:Fk}(V46:Def K mg "deals_of" gx cG f6 fd6){f7:Addr}{fd7:Fk}(V29:Def K mg "with_one_more" dX oF f7 fd7){f8:Addr}{fd8:Fk}(V49:Def K mg "cards_of" gy kI f8 fd8){f9:Addr}{fd9:Fk}(V37:Def K mg "first_view" eg kH f9 fd9){f10:Addr}{fd10:Fk}(V52:Def K mg "split" lV lT f10 fd10){f11:Addr}{fd11:Fk}(V27:Def K mg "least_with_same" cu ["marks"] f11 fd11){f12:Addr}{fd12:Fk}(V53:Def K mg "fails" jX ir f12 fd12){f13:Addr}{fd13:Fk}(V39:Def K mg "words_said" ek oB f13 fd13){f14:Addr}{fd14:Fk}(V31:Def K mg "least_unlike" dq oC f14 fd14){f15:Addr}{fd15:Fk}(V36:Def K mg "least_told" em oD f15 fd15){f16:Addr}{fd16:Fk}(V28:Def K mg "least_unmoved" dZ lm f16 fd16){f17:Addr}{fd17:Fk}(V40:Def K mg "_law_cell" h7 oE f17 fd17){f18:Addr}{fd18:Fk}(V33:Def K mg "_law_mixed" gB oz f18 fd18){f19:Addr}{fd19:Fk}(V43:Def K mg "_law_pack" h8 hV f19 fd19){f20:Addr}{fd20:Fk}(V35:Def K mg "_law_deals" eB oA f20 fd20){f21:Addr}{fd21:Fk}(V41:Def K mg "_law_held" eZ kG f21 fd21){f22:Addr}{fd22:Fk}(V38:Def K mg "_law_lists" eE sZ f22 fd22){f23:Addr}{fd23:Fk}(V34:Def K mg "_law_three" gC oy f23 fd23){f24:Addr}{fd24:Fk}(V32:Def K mg "_law_spoken" dJ m7 f24 fd24){f25:Addr}{fd25:Fk}(V48:Def K mg "_law_due" ci sY f25 fd25){f26:Addr}{fd26:Fk}(V42:Def K mg "_law_told" fc sX f26 fd26){f27:Addr}{fd27:Fk}(V30:Def K mg "_law_refused" dt hV f27 fd27){f28:Addr}{fd28:Fk}(V54:Def K mg "law" lW lU f28 fd28)(T:iM P w K mg G){t_MOST_CARDS:Tok}(m_MOST_CARDS:mg "MOST_CARDS"=some (.int 12 t_MOST_CARDS)){t_MOST_HANDS:Tok}(m_MOST_HANDS:mg "MOST_HANDS"=some (.int 5 t_MOST_HANDS)){t_MOST_DEALS:Tok}(m_MOST_DEALS:mg "MOST_DEALS"=some (.int 2000 t_MOST_DEALS))(m_set:mg "set"=none)(m_ValueError:mg "ValueError"=none):bU P w K mg base CX0 8 f28 fd28 lU (nB K):=by
 have U13:wB P w K mg base 1:=tH V40 B;have U8:wE P w K mg base 1:=qE V35 B;have U14:qX P w K mg base 1:=tJ V41 B;have U5:wH P w K mg base 1:=pG V32 B;have U21:wI P w K mg base 2:=uj V48 B U14 U5;have U6:wC P w K mg base 1:=qD V33 B;have U11:wF P w K mg base 2:=qF V38 B U6;have U16:wD P w K mg base 1:=tI V43 B;have U24:AH P w K mg base 1:=wN V51 B;have U18:AE P w K mg base 1:=uf V45 B;have U17:AF P w K mg base 2:=tF V44 B U18;have U23:AG P w K mg base 3:=wM V50 B m_MOST_CARDS m_MOST_HANDS U17;have U20:wo P w K mg base 4:=ug V47 B U24 U23;have U2:wp P w K mg base 1:=m8 V29 B;have U19:wq P w K mg base 5:=uh V46 B m_MOST_DEALS U20 U2;have U22:wu P w K mg base 1:=ui V49 B;have U0:wx P w K mg base 1:=ln V27 B;have U10:wy P w K mg base 2:=qA V37 B U22 U0;have U1:wA P w K mg base 1:=ng V28 B;have U9:qU P w K mg base 2:=qC V36 B U1;have U4:qV P w K mg base 1:=oH V31 B;have U25:qT P w K mg base 2:=AJ V52 B U0;have U12:qW P w K mg base 2:=qB V39 B U22;have U26:wz P w K mg base 6:=AK V53 B U19 U10 U9 U4 U25 U12;have FX_deals_of:FnX P w K mg base 5 "deals_of" cG (g9 K G):=tG V46 B T m_MOST_DEALS U20 U2;have FX_fails:FnX P w K mg base 6 "fails" ir (ku K G):=yF V53 B T U19 U10 U9 U4 U25 U12 FX_deals_of;have U3:wK P w K mg base 7:=oI V30 B T m_ValueError FX_fails;have U7:wG P w K mg base 1:=qG V34 B;have U15:wJ P w K mg base 7:=tK V42 B U26;exact Dw V54 B m_set U13 U8 U21 U14 U11 U16 U3 U7 U15
end
@[elab_as_elim] theorem ofLen1 {α:Type} {P:List α->Prop} (us:List α) (hl:us.length=1) (h:∀a0:α,P [a0]):P us:=match us,hl with | [a0],_=>h a0
@[elab_as_elim] theorem ofLen2 {α:Type} {P:List α->Prop} (us:List α) (hl:us.length=2) (h:∀a0 a1:α,P [a0,a1]):P us:=match us,hl with | [a0,a1],_=>h a0 a1
@[elab_as_elim] theorem ofLen3 {α:Type} {P:List α->Prop} (us:List α) (hl:us.length=3) (h:∀a0 a1 a2:α,P [a0,a1,a2]):P us:=match us,hl with | [a0,a1,a2],_=>h a0 a1 a2
@[elab_as_elim] theorem ofLen4 {α:Type} {P:List α->Prop} (us:List α) (hl:us.length=4) (h:∀a0 a1 a2 a3:α,P [a0,a1,a2,a3]):P us:=match us,hl with | [a0,a1,a2,a3],_=>h a0 a1 a2 a3
@[elab_as_elim] theorem ofLen5 {α:Type} {P:List α->Prop} (us:List α) (hl:us.length=5) (h:∀a0 a1 a2 a3 a4:α,P [a0,a1,a2,a3,a4]):P us:=match us,hl with | [a0,a1,a2,a3,a4],_=>h a0 a1 a2 a3 a4
@[elab_as_elim] theorem ofLen6 {α:Type} {P:List α->Prop} (us:List α) (hl:us.length=6) (h:∀a0 a1 a2 a3 a4 a5:α,P [a0,a1,a2,a3,a4,a5]):P us:=match us,hl with | [a0,a1,a2,a3,a4,a5],_=>h a0 a1 a2 a3 a4 a5
local macro_rules | `(tactic| walk_at "b1")=>`(tactic| exact fun _ _ _ _ _ _ us hl=>ofLen1 us hl fun _=>rfl)
local macro_rules | `(tactic| walk_at "b2")=>`(tactic| exact fun _ _ _ _ _ _ us hl=>ofLen2 us hl fun _ _=>rfl)
local macro_rules | `(tactic| walk_at "b3")=>`(tactic| exact fun _ _ _ _ _ _ us hl=>ofLen3 us hl fun _ _ _=>rfl)
local macro_rules | `(tactic| walk_at "b4")=>`(tactic| exact fun _ _ _ _ _ _ us hl=>ofLen4 us hl fun _ _ _ _=>rfl)
local macro_rules | `(tactic| walk_at "b5")=>`(tactic| exact fun _ _ _ _ _ _ us hl=>ofLen5 us hl fun _ _ _ _ _=>rfl)
local macro_rules | `(tactic| walk_at "b6")=>`(tactic| exact fun _ _ _ _ _ _ us hl=>ofLen6 us hl fun _ _ _ _ _ _=>rfl)
theorem all_mk{l:W.OpenLaw}{w:World}{K:Fg}{h:Heap}{mg:Str->Option Value}{fa:Addr}(X:K.In h)(G:h.Ns Fj mg)(hfa:mg "law"=some (.ref fa))
  {t_MOST_CARDS:Tok}  {t_MOST_HANDS:Tok}  {t_MOST_DEALS:Tok}    {er1 er2 er3 er4 er5 er6:Addr} {erc3:Value} {erd3:Option Addr} {ercd3:ClassData} {ersl3:Array (Option Value)}
  (q1:DfA K "is_whole" iF)
  (q2:DfA K "is_within" hZ)
  (q3:DfA K "is_pack" ii)
  (q4:DfA K "how_many" iG)
  (q5:DfA K "choices" jA)
  (q6:DfA K "deals_of" gx)
  (q7:DfA K "with_one_more" dX)
  (q8:DfA K "cards_of" gy)
  (q9:DfA K "first_view" eg)
  (q10:DfA K "split" lV)
  (q11:DfA K "least_with_same" cu)
  (q12:DfA K "fails" jX)
  (q13:DfA K "words_said" ek)
  (q14:DfA K "least_unlike" dq)
  (q15:DfA K "least_told" em)
  (q16:DfA K "least_unmoved" dZ)
  (q17:DfA K "_law_cell" h7)
  (q18:DfA K "_law_mixed" gB)
  (q19:DfA K "_law_pack" h8)
  (q20:DfA K "_law_deals" eB)
  (q21:DfA K "_law_held" eZ)
  (q22:DfA K "_law_lists" eE)
  (q23:DfA K "_law_three" gC)
  (q24:DfA K "_law_spoken" dJ)
  (q25:DfA K "_law_due" ci)
  (q26:DfA K "_law_told" fc)
  (q27:DfA K "_law_refused" dt)
  (q28:DfA K "law" lW)
  (y1:GP K Fj "MOST_CARDS"=some (some (.int 12 t_MOST_CARDS)))
  (y2:GP K Fj "MOST_HANDS"=some (some (.int 5 t_MOST_HANDS)))
  (y3:GP K Fj "MOST_DEALS"=some (some (.int 2000 t_MOST_DEALS)))
  (y4:GP K Fj "set"=some none)
  (y5:GP K Fj "ValueError"=some none)
  (x1:GP K Fj "CardError"=some (some (.ref er1)))
  (x2:GP K Fj "NoPack"=some (some (.ref er2)))
  (x3:GP K Fj "TooMany"=some (some (.ref er3)))
  (x4:GP K Fj "NoHand"=some (some (.ref er4)))
  (x5:GP K Fj "NoRow"=some (some (.ref er5)))
  (x6:GP K Fj "NoSaying"=some (some (.ref er6)))
  (x7:W.excIn K er3 [.type "ValueError",.type "Exception",.type "BaseException",.type "object"] "ValueError.__new__"=true)
  (x8:W.exmOne K (.ref er3) (.ref er1)=some true)
  (x9:W.findIn K (.ref er3) "__getattribute__"=some (some (.builtin "BaseException.__getattribute__")))
  (x10:W.findIn K (.ref er3) "__getattr__"=some none)
  (x11:W.findIn K (.ref er3) "__class__"=some (some (.builtin "object.__class__")))
  (x12:W.mroIn K er3 (.type "object")=some true)
  (x13:W.mroIn K er3 (.type "BaseException")=some true)
  (x14:K.lookup er3=some ⟨erc3,erd3,.cls ercd3,ersl3⟩)
  (x15:W.kitOne K (.ref er3) (.ref er3)=some true)
  (x16:W.kitOne K (.ref er3) (.type "ValueError")=some true)
  (x17:W.kitAny K (.ref er3) [.ref er4,.ref er2,.ref er5,.ref er6]=some false)
  (z1:GP K Fj "len"=some none) (z2:GP K Fj "range"=some none) (z3:GP K Fj "tuple"=some none) (z4:GP K Fj "list"=some none) (z5:GP K Fj "int"=some none) (z6:GP K Fj "bool"=some none) (z7:GP K Fj "str"=some none) (z8:GP K Fj "dict"=some none) (z9:GP K Fj "sum"=some none) (z10:GP K Fj "all"=some none) (z11:GP K Fj "min"=some none) (z12:GP K Fj "max"=some none) (z13:GP K Fj "sorted"=some none) (z14:GP K Fj "enumerate"=some none) (z15:GP K Fj "zip"=some none) (z16:GP K Fj "isinstance"=some none):
  ∃fd:Fk,(∀(s:Shared)(v:Value),BindsTo s fd ⟨[v],[]⟩ [("_law_script",v)])/\∀base:Heap,K.In base->base.Ns Fj mg->bU l.prog w K mg base CX0 8 fa fd lU (nB K):=by
 have B:Blt mg:=⟨Gj X G z1,Gj X G z2,Gj X G z3,Gj X G z4,Gj X G z5,Gj X G z6,Gj X G z7,Gj X G z8,Gj X G z9,Gj X G z10,Gj X G z11,Gj X G z12,Gj X G z13,Gj X G z14,Gj X G z15,Gj X G z16⟩;obtain⟨_,_,D1⟩:=q1.df (ps:=["thing"]) X G (by walk_at "b1");obtain⟨_,_,D2⟩:=q2.df (ps:=lR) X G (by walk_at "b3");obtain⟨_,_,D3⟩:=q3.df (ps:=cG) X G (by walk_at "b2");obtain⟨_,_,D4⟩:=q4.df (ps:=cG) X G (by walk_at "b2");obtain⟨_,_,D5⟩:=q5.df (ps:=oG) X G (by walk_at "b2");obtain⟨_,_,D6⟩:=q6.df (ps:=cG) X G (by walk_at "b2");obtain⟨_,_,D7⟩:=q7.df (ps:=oF) X G (by walk_at "b2");obtain⟨_,_,D8⟩:=q8.df (ps:=kI) X G (by walk_at "b2");obtain⟨_,_,D9⟩:=q9.df (ps:=kH) X G (by walk_at "b2");obtain⟨_,_,D10⟩:=q10.df (ps:=lT) X G (by walk_at "b2");obtain⟨_,_,D11⟩:=q11.df (ps:=["marks"]) X G (by walk_at "b1");obtain⟨_,_,D12⟩:=q12.df (ps:=ir) X G (by walk_at "b6");obtain⟨_,_,D13⟩:=q13.df (ps:=oB) X G (by walk_at "b3");obtain⟨_,_,D14⟩:=q14.df (ps:=oC) X G (by walk_at "b2");obtain⟨_,_,D15⟩:=q15.df (ps:=oD) X G (by walk_at "b3");obtain⟨_,_,D16⟩:=q16.df (ps:=lm) X G (by walk_at "b4");obtain⟨_,_,D17⟩:=q17.df (ps:=oE) X G (by walk_at "b2");obtain⟨_,_,D18⟩:=q18.df (ps:=oz) X G (by walk_at "b2");obtain⟨_,_,D19⟩:=q19.df (ps:=hV) X G (by walk_at "b1");obtain⟨_,_,D20⟩:=q20.df (ps:=oA) X G (by walk_at "b2");obtain⟨_,_,D21⟩:=q21.df (ps:=kG) X G (by walk_at "b2");obtain⟨_,_,D22⟩:=q22.df (ps:=sZ) X G (by walk_at "b3");obtain⟨_,_,D23⟩:=q23.df (ps:=oy) X G (by walk_at "b2");obtain⟨_,_,D24⟩:=q24.df (ps:=m7) X G (by walk_at "b2");obtain⟨_,_,D25⟩:=q25.df (ps:=sY) X G (by walk_at "b5");obtain⟨_,_,D26⟩:=q26.df (ps:=sX) X G (by walk_at "b5");obtain⟨_,_,D27⟩:=q27.df (ps:=hV) X G (by walk_at "b1");obtain⟨fd,D28,hb⟩:=q28.law X G (by walk_at "b1") hfa fun _ _ _ _ _ _ _ _=>.of_eq rfl;refine⟨fd,hb,fun base _ _=>?_⟩;have T:iM l.prog w K mg _:=zT (Kh X G x1) (Kh X G x2) (Kh X G x3) (Kh X G x4) (Kh X G x5) (Kh X G x6) x7 x8 x9 x10 x11 x12 x13 x14 x15 x16 x17;exact Ec B D1 D2 D3 D4 D5 D6 D7 D8 D9 D10 D11 D12 D13 D14 D15 D16 D17 D18 D19 D20 D21 D22 D23 D24 D25 D26 D27 D28 T (Kh X G y1) (Kh X G y2) (Kh X G y3) (Gj X G y4) (Gj X G y5)
end Kc_k55
local macro_rules | `(tactic| walk_at "q1")=>`(tactic| exact ⟨_,by k_is,_,_,_,_,_,_,_,_,_,by k_is,by k_is,by k_is⟩)
local macro_rules | `(tactic| walk_at "q2")=>`(tactic| exact ⟨_,by k_is,by k_is,_,_,_,_,_,_,_,_,_,by k_is,by k_is,by k_is⟩)
noncomputable def PySem.W.Fast.tw14045434878792977073 : PySem.Program := PySem.Challenge.pw_knowcards_k55_the_first_that_fails
theorem PySem.W.Fast.te14045434878792977073 : PySem.Challenge.pw_knowcards_k55_the_first_that_fails = PySem.W.Fast.tw14045434878792977073 := rfl
noncomputable def PySem.W.Fast.tw1658233341531261890 : PySem.Params → PySem.W.Frag := fun _ => []
theorem PySem.W.Fast.te1658233341531261890 : (fun _ => [] : PySem.Params → PySem.W.Frag) = PySem.W.Fast.tw1658233341531261890 := rfl
namespace PySem.W.Fast
noncomputable def tw16277308454953819239:Program:=PySem.Challenge.pw_knowcards_k55_the_first_that_fails
theorem te16277308454953819239:PySem.Challenge.pw_knowcards_k55_the_first_that_fails=tw16277308454953819239:=rfl
noncomputable def tw7776176020215710953:Params->Obj:=fun _=>default
theorem te7776176020215710953:(fun _=>default:Params->Obj)=tw7776176020215710953:=rfl
noncomputable def tw6896091587098934444:Params->Obj:=fun _=>default
theorem te6896091587098934444:(fun _=>default:Params->Obj)=tw6896091587098934444:=rfl
noncomputable def tw586713904349866862:Params->Obj:=fun _=>default
theorem te586713904349866862:(fun _=>default:Params->Obj)=tw586713904349866862:=rfl
noncomputable def tw6973853156518758771:Params->Obj:=fun _=>default
theorem te6973853156518758771:(fun _=>default:Params->Obj)=tw6973853156518758771:=rfl
noncomputable def tw15265899743827485935:Params->Obj:=fun _=>default
theorem te15265899743827485935:(fun _=>default:Params->Obj)=tw15265899743827485935:=rfl
noncomputable def tw6344510075979718730:Params->Obj:=fun _=>default
theorem te6344510075979718730:(fun _=>default:Params->Obj)=tw6344510075979718730:=rfl
noncomputable def tw10722568136849091083:Params->Obj:=fun _=>default
theorem te10722568136849091083:(fun _=>default:Params->Obj)=tw10722568136849091083:=rfl
noncomputable def tw2106423492505198827:Params->Obj:=fun _=>default
theorem te2106423492505198827:(fun _=>default:Params->Obj)=tw2106423492505198827:=rfl
noncomputable def tw13913541495425947517:Params->Obj:=fun _=>default
theorem te13913541495425947517:(fun _=>default:Params->Obj)=tw13913541495425947517:=rfl
noncomputable def tw14725993931645308504:Params->Obj:=fun _=>default
theorem te14725993931645308504:(fun _=>default:Params->Obj)=tw14725993931645308504:=rfl
noncomputable def tw6307402103948134689:Params->Obj:=fun _=>default
theorem te6307402103948134689:(fun _=>default:Params->Obj)=tw6307402103948134689:=rfl
noncomputable def tw11188093523896185816:Params->Obj:=fun _=>default
theorem te11188093523896185816:(fun _=>default:Params->Obj)=tw11188093523896185816:=rfl
noncomputable def tw2054318629913390953:Params->Obj:=fun _=>default
theorem te2054318629913390953:(fun _=>default:Params->Obj)=tw2054318629913390953:=rfl
noncomputable def tw7126822410873024805:Params->Obj:=fun _=>default
theorem te7126822410873024805:(fun _=>default:Params->Obj)=tw7126822410873024805:=rfl
noncomputable def tw11474403371012986613:Params->Obj:=fun _=>default
theorem te11474403371012986613:(fun _=>default:Params->Obj)=tw11474403371012986613:=rfl
noncomputable def tw7519636559718613376:Params->Obj:=fun _=>default
theorem te7519636559718613376:(fun _=>default:Params->Obj)=tw7519636559718613376:=rfl
noncomputable def tw3587925920458978436:Params->Obj:=fun _=>default
theorem te3587925920458978436:(fun _=>default:Params->Obj)=tw3587925920458978436:=rfl
end PySem.W.Fast
open PySem PySem.W PyProof.Rows
set_option maxRecDepth 100000 in
set_option maxHeartbeats 0 in
theorem PySem.Challenge.cw_knowcards_k55_the_first_that_fails_holds : PySem.Challenge.rw_knowcards_k55_the_first_that_fails.Holds := by
 w_on;o_law;k_head;(case hw=>w_witness2)
 k_fill
 refine L2.yY (l:=PySem.Challenge.rw_knowcards_k55_the_first_that_fails) (k:=8) (x:="_law_script") rfl rfl ⟨rfl,by decide,by decide⟩ (fun w h Y=>PySem.W.kIn_of Y) ?F
 case F=>
  intro w mg fa h KX G hmg;refine' Kc_k55.all_mk KX G hmg ?q1 ?q2 ?q3 ?q4 ?q5 ?q6 ?q7 ?q8 ?q9 ?q10 ?q11 ?q12 ?q13 ?q14 ?q15 ?q16 ?q17 ?q18 ?q19 ?q20 ?q21 ?q22 ?q23 ?q24 ?q25 ?q26 ?q27 ?q28 ?y1 ?y2 ?y3 ?y4 ?y5 ?x1 ?x2 ?x3 ?x4 ?x5 ?x6 ?x7 ?x8 ?x9 ?x10 ?x11 ?x12 ?x13 ?x14 ?x15 ?x16 ?x17 ?z1 ?z2 ?z3 ?z4 ?z5 ?z6 ?z7 ?z8 ?z9 ?z10 ?z11 ?z12 ?z13 ?z14 ?z15 ?z16
  (case q1=>walk_at "q1")
  (case q2=>walk_at "q1")
  (case q3=>walk_at "q1")
  (case q4=>walk_at "q1")
  (case q5=>walk_at "q1")
  (case q6=>walk_at "q1")
  (case q7=>walk_at "q1")
  (case q8=>walk_at "q1")
  (case q9=>walk_at "q1")
  (case q10=>walk_at "q1")
  (case q11=>walk_at "q1")
  (case q12=>walk_at "q1")
  (case q13=>walk_at "q1")
  (case q14=>walk_at "q1")
  (case q15=>walk_at "q1")
  (case q16=>walk_at "q1")
  (case q17=>walk_at "q1")
  (case q18=>walk_at "q1")
  (case q19=>walk_at "q1")
  (case q20=>walk_at "q1")
  (case q21=>walk_at "q1")
  (case q22=>walk_at "q1")
  (case q23=>walk_at "q1")
  (case q24=>walk_at "q1")
  (case q25=>walk_at "q1")
  (case q26=>walk_at "q1")
  (case q27=>walk_at "q1")
  (case q28=>walk_at "q1")
  (case y1=>k_is)
  (case y2=>k_is)
  (case y3=>k_is)
  (case y4=>k_is)
  (case y5=>k_is)
  (case x1=>k_is)
  (case x2=>k_is)
  (case x3=>k_is)
  (case x4=>k_is)
  (case x5=>k_is)
  (case x6=>k_is)
  (case x7=>first|kernel_rfl|rfl|decide+kernel)
  (case x8=>first|kernel_rfl|rfl|decide+kernel)
  (case x9=>k_is)
  (case x10=>k_is)
  (case x11=>k_is)
  (case x12=>k_is)
  (case x13=>k_is)
  (case x14=>k_is)
  (case x15=>first|kernel_rfl|rfl|decide+kernel)
  (case x16=>first|kernel_rfl|rfl|decide+kernel)
  (case x17=>first|kernel_rfl|rfl|decide+kernel)
  (case z1=>k_is);(case z2=>k_is);(case z3=>k_is);(case z4=>k_is);(case z5=>k_is);(case z6=>k_is);(case z7=>k_is);(case z8=>k_is);(case z9=>k_is);(case z10=>k_is);(case z11=>k_is);(case z12=>k_is);(case z13=>k_is);(case z14=>k_is);(case z15=>k_is);(case z16=>k_is)
