import PyProof.Rows.All
import Wide.All
import OpenK.AllK
import Wide.FinOn
import Lean
import PyProof.EqAt
import PyProof.EqKinds
import PyProof.TupleCall
import PyProof.NeKinds
import PyProof.SumWalkG
import PyProof.ConsumeWalk
import KE.IntBitsLaws
import PyProof.ZipIter
import KE.KTryMore
import PyProof.ExcArgsOwn
import KE.KDictLaws
import KE.KEqDict
import PyProof.Rows.EqDataRows
import PyProof.ListMulRoad
import PyProof.Rows.SetFrom
import PyProof.Rows.CallKwBuiltin
import PyProof.Rows.SeqMore
import PyProof.WalkInts
import KE.KMinBuiltin
import PyProof.DictWalks
import PyProof.ListRange
import KE.KItemsList
import PyProof.Rows.Range3
import PyProof.TupleOfGen
import PyProof.TupleOfSeq
import PyProof.SetScanFacts
import PyProof.SetKind
import KE.KDictSum
import KE.KRevSl
import PyProof.Rows.SortShell
import PySem.Challenge.RW_knowcards_k65_whole_cards_exchanged
set_option Elab.async false
set_option linter.all false
set_option maxRecDepth 100000
set_option maxHeartbeats 4000000
set_option compiler.extract_closed false
open Array renaming append_assoc → M4, forIn_toList → Ji, length_toList → Ja
open Bool renaming and_eq_true → G3, and_false → Mh, beq_eq_decide_eq → Kj, eq_iff_iff → Jf, false_and → KL, false_eq_true → GY, false_ne_true → F3, not_true → JB, true_and → Ka
open Classical renaming propDecidable → Ia
open False renaming elim → HN
open ForInStep renaming yield → Jh
open Int renaming emod_lt_of_pos → IG, emod_nonneg → IJ, le_antisymm → Om, natCast_ediv → N0, natCast_mul → L5, toNat_natCast → Ie, zero_add → LD
open List renaming Perm → Ou, all_cons → Je, all_eq_true → NU, all_map → Ks, any_cons → J8, any_eq_true → LJ, append_assoc → Nu, append_nil → II, cons_append → NZ, countP_cons → NY, count_append → Jp, count_cons → Kw, count_eq_zero_of_not_mem → KB, count_singleton_self → Lr, drop_eq_getElem_cons → Ls, ext_getElem? → GW, filterMap_cons → KC, filter_append → K9, filter_congr → Nz, filter_cons → HW, filter_cons_of_neg → JU, filter_cons_of_pos → JT, find?_cons → Gu, findIdx?_eq_some_iff_getElem → IV, flatMap_append → KH, flatMap_cons → J2, flatten_cons → JX, foldl → Oa, foldl_append → NA, foldl_cons → Ob, forIn_cons → JF, forIn_nil → KQ, getD_eq_getElem?_getD → FO, getElem?_append_left → IQ, getElem?_append_right → JA, getElem?_eq_getElem → FN, getElem?_eq_none → Gd, getElem?_eq_some_iff → FS, getElem?_inj → NB, getElem?_map → FZ, getElem?_of_mem → MG, getElem?_range → GO, getElem?_set → IC, getElem?_set_ne → Mv, getElem?_set_self → L6, getElem?_zip_eq_some → IS, getElem_idxOf → Nl, getElem_inj → NP, getElem_mem → Hq, getElem_of_mem → KJ, getElem_range → La, idxOf_append → Nx, idxOf_cons → Og, idxOf_lt_length_of_mem → K5, length_append → Ga, length_cons → Gm, length_drop → Kd, length_eq_zero_iff → JV, length_filter_le → Mn, length_map → FQ, length_nil → Oh, length_pos_iff → KG, length_range → G5, length_set → Hj, length_singleton → Mg, length_take → Hb, length_zip → Iw, lookup → Jk, lookup_cons → GU, map_append → Gj, map_congr_left → Hy, map_cons → F6, map_map → I0, map_nil → Jr, mem_append → Gv, mem_append_left → G8, mem_append_right → GB, mem_cons → FW, mem_cons_of_mem → FX, mem_cons_self → F2, mem_erase_of_ne → MH, mem_filter → Ip, mem_filterMap → KY, mem_flatMap → Kg, mem_iff_getElem? → Mp, mem_map → Gh, mem_map_of_mem → KI, mem_of_getElem? → F0, mem_range → Gr, mem_singleton → FR, nodup_append → NC, nodup_cons → Hi, nodup_nil → Mq, nodup_range → LH, not_mem_nil → GL, of_mem_zip → LV, pairwise_append → MF, pairwise_cons → K7, pairwise_lt_range → J7, pairwise_singleton → LP, range → F5, range_succ → Iv, range_succ_eq_map → Mb, replicate → GC, replicate_succ → Jb, replicate_succ' → Ky, set_cons_succ → HV, set_cons_zero → HU, size_toArray → F8, sum_append → GZ, sum_cons → Gk, sum_nil → Jt, take_add_one → Hx, take_append_drop → Js, take_length → GG, take_of_length_le → Jm, zipIdx_cons → NV, zipIdx_nil → Od, zip_cons_cons → Ha, zip_nil_left → Ih
open List.Pairwise renaming nil → Nw
open List.cons renaming injEq → LY
open Nat renaming add_assoc → Lj, add_le_add_right → ME, add_mul → NM, eq_of_mul_eq_mul_right → JC, eq_zero_or_pos → K8, le_add_right → HS, le_of_ble_eq_true → Im, le_of_eq → Ko, le_of_lt → He, le_of_not_lt → NT, le_refl → FU, le_succ → L7, le_trans → Gs, lt_irrefl → Hr, lt_of_le_of_lt → K1, lt_of_lt_of_le → Gg, lt_or_eq_of_le → Nk, lt_succ_of_lt → JY, lt_succ_self → IW, min_self → Ju, mul_assoc → Hs, mul_comm → HR, mul_left_comm → Ig, mul_pos → NK, ne_of_gt → Iq, ne_of_lt → GK, not_le → Kz, not_lt_zero → JH, one_mul → NL, sub_self → LG, succ_le_succ → LI, succ_pos → Nj, zero_le → GH, zero_lt_succ → Kh
open Ne renaming symm → Hn
open Option renaming isSome_iff_exists → Lx, map_some → JG
open Option.some renaming inj → F1, injEq → Lq
open Or renaming inl → Mi, inr → K2
open PyProof.Rows renaming Subscript_ → N8, boot_isinstance → Iz, boot_list → Jj, boot_max → N3, boot_range → N6, boot_sum → MM, boot_tuple → Jy, callWith_type1 → Hl, firstMet → MJ, slot_tuple_getitem → Jd, subscriptTail → MQ, subscriptTail_builtinR → Ma
open PySem renaming DictEntry → M6, FuncData → Gc, GenState → Mu, IntMulOk → ID, IsTupleKey → Oj, NameKind → Gy, PassesOwn → Gx, SetTable → LM, Within → Lw, assignEach → Km, atKey_none_of_get → J3, attributeBase → Jz, backToKw → Kc, behindInMarks → Le, beq_builtin_none → LF, binaryOp → IL, bootBuiltins → JJ, boot_len → GV, builtinLookup_eq_fast → Mr, builtinsNs → N4, callSpecialIfBoundUnlessNone? → Jo, callType_new → Nh, callWith → NS, call_meets → JO, cellsFrom → Os, closureFor → MA, codeAny_builtin → JI, codeAny_mono → Kq, compEnvC → MB, compareOp → HP, concat_meets → Nc, dictSetDefault → KR, eqBool → Ni, eqIsQuiet → LZ, eqIsQuiet_byValue → Ny, fastBuiltinMro → Mj, foldedSetIterable → Ln, getMethod → KZ, intBits_le_64 → Ld, intBits_le_64 → MY, intBits_mul_le → Mo, isInstance → Ol, isSubtype_stop → Mm, isSubtype_tuple_tuple → Kk, keywordEach → Jl, letOwnedTupleGo → Kn, mainGlobals → Gn, mem_of_lookup → GT, noFill_tuple_add → Ly, plainId_quiet → Lk, rangeSize_one → MO, reduceHash → Oi, seqIndex_neg → Nf, seqIndex_of → NI, seq_tuple_add → MP, sizeLine → FY, sizeLine_eq → FV, small_one → Oo, starEach → Gf, storedH_new → NN, subscripted → L9, swapsWith → LS, sysModules → HH, typeIs_int → N9, typeLookup → Mw, typeLookup_type → On, updateSeq → Nm, wpAny_Call_Name_kw → Jg, wpAny_Call_method_late → J5, wpAny_Dict_empty → N2, wpAny_List_spliced → Nb, wpAny_Name → N5, wpAny_Tuple_spliced → MT, wpAny_assign_Name → Nn, wpAny_attempt → Li, wpAny_bind → FM, wpAny_callSpecial?_slot → Ho, wpAny_callSpecialIfBoundUnlessNone?_slot → Iu, wpAny_call_entry → G0, wpAny_comprehension_free → Lz, wpAny_execs_cons → NQ, wpAny_execs_nil → Kl, wpAny_field → GM, wpAny_forIn_list → Kf, wpAny_getItem_of → N1, wpAny_holding → HX, wpAny_isInstance → IZ, wpAny_letGo → Mc, wpAny_mono → Hd, wpAny_newObj_type → Hv, wpAny_onRaise → Lh, wpAny_passesOwn → IH, wpAny_pure → FT, wpAny_pyHash_int → NO, wpAny_pyIter_enum → Nv, wpAny_pyIter_list → JW, wpAny_pyIter_tuple → M5, wpAny_pyIter_zip → LB, wpAny_ret_mkInt → Ku, wpAny_rule → Jw, wpAny_seqItems → G7, wpAny_setField_rec → Il, wpAny_specialOf → Hk, wpAny_standAt → MN, wpAny_truthy_bool → Ic, wpAny_tupleItemsOf → K6, wpAny_typeOf → Nd, wpAny_updateSeq → KA, wpAny_updateSeq_pair → Kt
open PySem.Around renaming under → M8, under_plainId → IT
open PySem.Builtin.Int renaming intBits → GD
open PySem.Builtin.List renaming listExtendWith → Ij, listItems → Md, listLengthHint → Lb, listSameRef → LK, listTooLong → IY, listUpdate → LQ
open PySem.Builtin.Range renaming rangeSize → JR, small → MZ
open PySem.Builtin.Slice renaming sliceAdjust → JE, sliceApplied → Lf, slicePlaces → IR
open PySem.Builtin.SmallTypes renaming nextOf → Gw, ownedTupleHandOut → JM, ownedTupleIsFree → Gz
open PySem.Builtin.Tuple renaming tupleExact → HQ, tupleHashOf → Hc, tupleItemsOf → Lg
open PySem.Calls renaming Name_function_global → Lc, callWith_builtin → J6, evalArgs_plain → Kr, spliced_cons → Na, spliced_nil → Nt
open PySem.Code renaming isFrame → M9
open PySem.F renaming args_object_init_2 → MC, args_object_init_3 → MD, args_tuple_add_2 → JL, args_tuple_iterator_next_1 → KP, args_zip_next_1 → J0, called_tuple → Ms, entry_extend_loop → Lv, entry_tuple_add → JS, entry_tuple_iterator_next → K3, entry_zip_new → Of, entry_zip_next → Ke, newCall_zip_2 → Oe, plainAttrs_list → GN, plain_extend_loop → IU, plain_list_iadd → ND, plain_tuple_new → NF, slot_NoneType_hash → IP, slot_bool_hash → Jn, slot_dict_getitem → Lu, slot_dict_setdefault → KS, slot_int_rmul → Oc, slot_list_append → Hf, slot_list_index → LO, slot_tuple_add → J4, slot_tuple_count → LC, slot_tuple_eq → Kv, slot_tuple_hash → J1, slot_tuple_iterator_next → IM, slot_zip_next → Ir, typeCall_zip_2 → NW, type_list_append → Hg
open PySem.Heap renaming ExtBut → KW, SameBut → Gp, get?_push_of_some → FP, get?_push_size → F9, get?_update_other → Ik, get?_update_self → GS, lt_size → F4, size_push → GR, size_update → LL
open PySem.Heap.SameBut renaming update → Jc
open PySem.NameKind renaming cell → J9, free → G6
open PySem.Obj renaming cls_mapFields → Lp, data_mapDictKeys → MI, data_mapFields → IF, isFreed_of_fields → Ki, mapSeq → G9, putSet → ML
open PySem.Paired renaming length → GJ
open PySem.PassesOwn renaming never → Ge
open PySem.PyData renaming canLayAll0 → Ii, depthAll → Iy, eqv → JP, eqvAll → Ll, int → JQ, keyHash → GP
open PySem.SeqAt renaming EqAt → Gq, shaped → JN
open PySem.SeqAt.EqAt renaming bool_bool → Mz, bool_int → MV, bool_none → My, int_bool → MX, int_int → Ng, int_none → MW, int_str → M0, none_bool → Mx, none_int → MU, same → LW, str_int → M1
open PySem.Shared renaming TypeIs → MS, heap → NJ
open PySem.Str renaming empty → Oq, ofString → IX
open PySem.Value renaming bool → G4, builtin → MR, float → NH, int → Jv, none → Hz, ref → Gi, str → LR, type → HY
open PySem.W renaming callWith_K → K0, cellsFrom_some → L8, codeIn → Mf, emptyDict → Hu, findIn → HZ, findIn → KU, fnOf → JK, handedIn → NR, hasDictIn → Lo, instObj → Io, isFn → M7, keepIn → Jq, kia_one → Hh, kitMeta → LX, kitOne → GI, kitx_dict → Nr, kitx_list → Nq, lookIn → KO, makesIn → N7, methodCall_KW → Me, methodObj → Lm, mg_none_of → GX, mg_of → Mt, nsIn → Ib, plainGet → Kb, plainGet_of → KD, plainOver → Np, takerIn → LU
open PySem.W.WData renaming int → JZ, layable → Ml, layableAll → LA, list → K4, weight → Jx, weightAll → LN
open Sum renaming inl → IB, inr → Ht
open Sum.inl renaming inj → NG
open Sum.inr renaming inj → JD
open True renaming intro → IE
noncomputable abbrev Fg:=PySem.W.Frag
section
namespace L2
open PySem PySem.Spec PyProof.Rows
noncomputable abbrev Key:=Sum Int Str
noncomputable def nw:Key->Value->Bool
 | .inl k,v=>Value.isInt k v
 | .inr x,v=>Value.isStrOf x v
noncomputable def Fv(w:World):Key->Int
 | .inl k=>hashInt k
 | .inr x=>hashStr w x
theorem cF:∀{k:Key} {v:Value},nw k v=true->(∃i t,k=IB i/\v=Jv i t)\/(∃x t,k=Ht x/\v=LR x t)
 | .inl i,v,h=>by
  obtain⟨t,e⟩:=Value.isInt_shape (k:=i) (v:=v) h;exact .inl ⟨i,t,rfl,e⟩
 | .inr x,v,h=>by
  obtain⟨t,e⟩:=Value.isStrOf_shape (x:=x) (v:=v) h;exact .inr ⟨x,t,rfl,e⟩
theorem zF(i:Int)(t:Tok):nw (.inl i) (.int i t)=true:=by simp[nw,Value.isInt]
theorem zG(x:Str)(t:Tok):nw (.inr x) (.str x t)=true:=by simp[nw,Value.isStrOf]
theorem DR(a b:Int):decide ((IB a:Key)=IB b)=(a==b):=by
 by_cases e:a=b
 ·subst e;simp
 ·have h:¬(IB a:Key)=IB b:=fun q=>e (NG q)
  rw[decide_eq_false h];exact(beq_eq_false_iff_ne.mpr e).symm
theorem DS(a b:Str):decide ((Ht a:Key)=Ht b)=decide (a=b):=by
 by_cases e:a=b
 ·subst e;simp
 ·have h:¬(Ht a:Key)=Ht b:=fun q=>e (JD q)
  rw[decide_eq_false h,decide_eq_false e]
theorem DT(a:Int)(b:Str):decide ((IB a:Key)=Ht b)=false:=decide_eq_false (fun q=>nomatch q)
theorem DU(a:Str)(b:Int):decide ((Ht a:Key)=IB b)=false:=decide_eq_false (fun q=>nomatch q)
noncomputable def gr(prog:Program)(w:World):PySem.KeyKind prog w Key where
 is:=nw
 hash:=Fv w
 inj:=fun v a b ha hb=>by
  rcases cF ha with⟨i,t,rfl,rfl⟩|⟨x,t,rfl,rfl⟩
  ·rcases cF hb with⟨j,u,rfl,e⟩|⟨y,u,rfl,e⟩
   ·injection e with e1 _;rw[e1]
   ·exact nomatch e
  ·rcases cF hb with⟨j,u,rfl,e⟩|⟨y,u,rfl,e⟩
   ·exact nomatch e
   ·injection e with e1 _;rw[e1]
 byValue:=fun k v h=>by
  rcases cF h with⟨i,t,rfl,rfl⟩|⟨x,t,rfl,rfl⟩<;>rfl
 pyHash:=fun hv h=>by
  rcases cF hv with⟨i,t,rfl,rfl⟩|⟨x,t,rfl,rfl⟩
  ·exact NO h
  ·exact wpAny_pyHash_str h
 eqBool:=fun hu hv h=>by
  rcases cF hu with⟨i,t,rfl,rfl⟩|⟨x,t,rfl,rfl⟩
  ·rcases cF hv with⟨j,u,rfl,rfl⟩|⟨y,u,rfl,rfl⟩
   ·rw[DR]at h;exact wpAny_eqBool_int h
   ·rw[DT]at h;exact M0 i t y u _ _ _ _ h
  ·rcases cF hv with⟨j,u,rfl,rfl⟩|⟨y,u,rfl,rfl⟩
   ·rw[DU]at h;exact M1 x t j u _ _ _ _ h
   ·rw[DS]at h;exact wpAny_eqBool_str h
 «strs»:=fun k x t v h=>by
  rcases cF h with⟨i,u,rfl,e⟩|⟨y,u,rfl,e⟩
  ·exact nomatch e
  ·injection e with e1 _
   subst e1;cases v<;>rfl
theorem wS(prog:Program)(w:World)(i:Int)(t:Tok):(gr prog w).is (.inl i) (.int i t)=true:=zF i t
theorem bf(prog:Program)(w:World)(x:Str)(t:Tok):(gr prog w).is (.inr x) (.str x t)=true:=zG x t
end L2
namespace L2
open PySem PySem.Spec PyProof.Rows
inductive V where
 |non|bl (b:Bool)|int (i:Int)|str (x:Str)|byt (b:Array UInt8)|flt (b:UInt64)|ref (a:Addr)|ty (n:String)
 deriving DecidableEq
noncomputable def aB:V->Value->Prop
 | .non,u=>u=Hz
 | .bl b,u=>u=G4 b
 | .int i,u=>∃t,u=Jv i t
 | .str x,u=>∃t,u=LR x t
 | .byt b,u=>∃t,u=Value.bytes b t
 | .flt b,u=>∃t,u=NH b t
 | .ref a,u=>u=Gi a
 | .ty n,u=>u=HY n
noncomputable abbrev aA:List V->List Value->Prop:=Paired aB
theorem aA.length{xs:List V}{us:List Value}(r:aA xs us):xs.length=us.length:=GJ r
theorem aA.get:∀{xs:List V} {us:List Value} {i:Nat} {x:V},aA xs us->xs[i]?=some x->∃u,us[i]?=some u/\aB x u
 |_,_,_,_,.nil,e=>by simp at e
 |_,_,0,_,.cons r _,e=>by simp at e;subst e;exact⟨_,rfl,r⟩
 |_,_,i+1,x,.cons _ t,e=>by
  obtain⟨u,h1,h2⟩:=aA.get (i:=i) (x:=x) t (by simpa using e);exact⟨u,by simpa using h1,h2⟩
theorem aA.set{x:V}{u:Value}(r:aB x u):∀{xs:List V} {us:List Value} (i:Nat),aA xs us->aA (xs.set i x) (us.set i u)
 |_,_,_,.nil=>.nil
 |_,_,0,.cons _ t=>.cons r t
 |_,_,i+1,.cons q t=>.cons q (aA.set r i t)
theorem aA.append:∀{xs ys:List V} {us ws:List Value},aA xs us->aA ys ws->aA (xs++ys) (us++ws)
 |_,_,_,_,.nil,s=>s
 |_,_,_,_,.cons r t,s=>.cons r (aA.append t s)
theorem aA.take:∀{xs:List V} {us:List Value} (n:Nat),aA xs us->aA (xs.take n) (us.take n)
 |_,_,0,_=>.nil
 |_,_,_+1,.nil=>.nil
 |_,_,n+1,.cons r t=>.cons r (aA.take n t)
theorem aA.drop:∀{xs:List V} {us:List Value} (n:Nat),aA xs us->aA (xs.drop n) (us.drop n)
 |_,_,0,r=>r
 |_,_,_+1,.nil=>.nil
 |_,_,n+1,.cons _ t=>aA.drop n t
noncomputable def eG:Option V->Option Value->Prop
 |some v,some u=>aB v u
 |none,none=>True
 |_,_=>False
noncomputable def KV{κ:Type}:List (κ×V)->List (κ×Value)->Prop:=Paired fun(p:κ×V)(q:κ×Value)=>p.1=q.1/\aB p.2 q.2
noncomputable def kV:Key->V
 | .inl i=>.int i
 | .inr x=>.str x
inductive HO where
 |lst (xs:List V)
 |tup (xs:List V)
 |dK (kvs:List (Key×V))|dT (kvs:List (List Key×V))
 |set (S:Int->Bool) (n:Nat)
 |ins (C dx:Addr) (fs:List (Str×V))
 |own (x:Addr)
 |xd (fs:List (Str×V))
 |met (f x:Addr)
 |rng (lo hi:Int)
 |frz (o:Obj) (u:HO)
 |tbl (ps:Array Value)
 |ext (φ:Heap->Prop)
noncomputable abbrev Hp:=Addr->Option HO
noncomputable def upd(H:Hp)(a:Addr)(o:HO):Hp:=fun b=>if b=a then some o else H b
theorem av{H:Hp}{a:Addr}{o:HO}:upd H a o a=some o:=by unfold upd;rw[if_pos rfl]
theorem aO{H:Hp}{a b:Addr}{o:HO}(h:b≠a):upd H a o b=H b:=by unfold upd;rw[if_neg h]
theorem yd{H:Hp}{a b:Addr}{o u:HO}(h:H a=some o)(h':H b=some u)(d:o≠u):a≠b:=by
 intro e;subst e;rw[h]at h';exact d (F1 h')
theorem aP{H:Hp}{a b:Addr}{o:HO}(h:H a=some o)(h':H b=none):a≠b:=by
 intro e;subst e;rw[h]at h';cases h'
noncomputable def dH(h:Heap)(a:Addr)(items:Array Value):Prop:=∃o,h.get? a=some o/\o.cls=.type "tuple"/\(∃n,o.data=.seq items n)/\o.dict=none
theorem dH.lt{h:Heap}{a:Addr}{items:Array Value}(x:dH h a items):a<h.objs.size:=let⟨_,e,_⟩:=x;F4 e
theorem dH.tup{h:Heap}{a:Addr}{items:Array Value}(x:dH h a items):IsTup h a items:=let⟨o,e,c,d,_⟩:=x;⟨o,e,c,d⟩
theorem dH.new(h:Heap)(items:Array Value):dH (h.push { cls:=.type "tuple",data:=.seq items }) h.objs.size items:=⟨_,F9 _ rfl,rfl,⟨_,rfl⟩,rfl⟩
section
variable(P:Program)(w:World)
noncomputable def br(H:Hp)(h:Heap)(a:Addr):HO->Prop
 | .lst xs=>xs.length<=FY/\∃(its:List Value)(n:Nat),aA xs its/\h.get? a=some { cls:=.type "list",data:=.seq its.toArray n }
 | .tup xs=>xs.length<=FY/\∃its:List Value,aA xs its/\dH h a its.toArray
 | .dK kvs=>kvs.length<=FY/\(a==HH)=false/\∃vs,KV kvs vs/\h.DictOf (gr P w) a vs
 | .dT kvs=>kvs.length<=FY/\(a==HH)=false/\∃xs:List (List Key×Addr×Value),
   Paired (fun(p:List Key×V)(q:List Key×Addr×Value)=>p.1=q.1/\H q.2.1=some (.tup (p.1.map kV))/\aB p.2 q.2.2) kvs xs/\
   ∃o es ep,h.get? a=some o/\o.ExactDict/\o.data=.dict es ep/\es.toList=xs.map (entryOfKey (tupleKind (gr P w)))/\(xs.map (·.1)).Nodup
 | .set S n=>h.SetOf (intKind P w) a S n
 | .ins C dx fs=>H dx=some (.own a)/\fs.length<=1000/\dx≠a/\h.get? a=some (Io C dx)/\
   ∃mA,h.Ns1 dx mA/\(∀f,eG (fs.lookup f) (mA f))/\Lw mA (fs.map (·.1))
 | .own _=>∃o,h.get? a=some o
 | .xd fs=>∃mA,h.Ns1 a mA/\∀f,eG (fs.lookup f) (mA f)
 | .rng lo hi=>∃t u v,h.get? a=some { cls:=.type "range",data:=.fields #[.int lo t,.int hi u,.int 1 v] }
 | .frz o u=>h.get? a=some o/\br H h a u
 | .tbl ps=>h.get? a=some { cls:=.none,data:=.fields ps }
 | .met f x=>h.get? a=some (Lm (.ref f) (.ref x))
 | .ext φ=>φ h/\(∃o,h.get? a=some o)/\∀h1 h2:Heap,φ h1->(∀o,h1.get? a=some o->h2.get? a=some o)->φ h2
noncomputable def HOk(H:Hp)(h:Heap):Prop:=∀a o,H a=some o->br P w H h a o
end
section
variable{P:Program}{w:World}{H H':Hp}{h h':Heap}{a:Addr}{o:HO}
theorem br.lt(x:br P w H h a o):a<h.objs.size:=by
 cases o with
 |lst xs=>obtain⟨_,_,_,_,e⟩:=x;exact F4 e
 |tup xs=>obtain⟨_,_,_,p⟩:=x;exact p.lt
 |dK kvs=>obtain⟨_,_,_,_,o,_,_,e,_⟩:=x;exact F4 e
 |dT kvs=>obtain⟨_,_,_,_,o,_,_,e,_⟩:=x;exact F4 e
 |set S n=>obtain⟨o,_,_,_,e,_⟩:=x;exact F4 e
 |ins C dx fs=>obtain⟨_,_,_,e,_⟩:=x;exact F4 e
 |own y=>obtain⟨_,e⟩:=x;exact F4 e
 |xd fs=>obtain⟨_,⟨_,_,_,e,_⟩,_⟩:=x;exact F4 e
 |rng lo hi=>obtain⟨_,_,_,e⟩:=x;exact F4 e
 |frz ob u=>obtain⟨e,_⟩:=x;exact F4 e
 |tbl ps=>exact F4 (show h.get? a=some _ from x)
 |met f y=>exact F4 (show h.get? a=some _ from x)
 |ext φ=>obtain⟨_,⟨_,e⟩,_⟩:=x;exact F4 e
theorem Paired.mapP{α β:Type}{F G:α->β->Prop}:∀{l₁:List α} {l₂:List β},Paired F l₁ l₂->(∀a b,F a b->G a b)->Paired G l₁ l₂
 |_,_,.nil,_=>.nil
 |_,_,.cons r t,f=>.cons (f _ _ r) (Paired.mapP t f)
theorem br.stay(x:br P w H h a o)(k:∀b u,(b=a\/H b=some (.own a))->h.get? b=some u->h'.get? b=some u)
  (ho:∀b,H b=some (.own a)->H' b=some (.own a)) (ht:∀b xs,H b=some (.tup xs)->H' b=some (.tup xs)):br P w H' h' a o:=by
 induction o with
 |lst xs=>obtain⟨z,its,n,r,e⟩:=x;exact⟨z,its,n,r,k _ _ (.inl rfl) e⟩
 |tup xs=>obtain⟨z,its,r,ob,e,c⟩:=x;exact⟨z,its,r,ob,k _ _ (.inl rfl) e,c⟩
 |dK kvs=>obtain⟨z,y,vs,r,ob,es,ep,e,c⟩:=x;exact⟨z,y,vs,r,ob,es,ep,k _ _ (.inl rfl) e,c⟩
 |dT kvs=>
  obtain⟨z,y,xs,r,ob,es,ep,e,c⟩:=x;exact⟨z,y,xs,Paired.mapP r fun p q z=>⟨z.1,ht _ _ z.2.1,z.2.2⟩,ob,es,ep,k _ _ (.inl rfl) e,c⟩
 |set S n=>obtain⟨ob,es,ep,t,e,c⟩:=x;exact⟨ob,es,ep,t,k _ _ (.inl rfl) e,c⟩
 |ins C dx fs=>
  obtain⟨d,z,ne,e,mA,⟨od,es,ep,e2,c⟩,r⟩:=x;exact⟨ho _ d,z,ne,k _ _ (.inl rfl) e,mA,⟨od,es,ep,k _ _ (.inr d) e2,c⟩,r⟩
 |own y=>obtain⟨ob,e⟩:=x;exact⟨ob,k _ _ (.inl rfl) e⟩
 |xd fs=>obtain⟨mA,⟨od,es,ep,e,c⟩,r⟩:=x;exact⟨mA,⟨od,es,ep,k _ _ (.inl rfl) e,c⟩,r⟩
 |rng lo hi=>obtain⟨t,u,v,e⟩:=x;exact⟨t,u,v,k _ _ (.inl rfl) e⟩
 |frz ob u ih=>obtain⟨e,q⟩:=x;exact⟨k _ _ (.inl rfl) e,ih q⟩
 |tbl ps=>
  have e:h.get? a=some { cls:=.none,data:=.fields ps }:=x;show h'.get? a=some { cls:=.none,data:=.fields ps };exact k a _ (.inl rfl) e
 |met f y=>
  have e:h.get? a=some (Lm (.ref f) (.ref y)):=x;show h'.get? a=some (Lm (.ref f) (.ref y));exact k a _ (.inl rfl) e
 |ext φ=>obtain⟨p,⟨o,e⟩,st⟩:=x;exact⟨st _ _ p fun o q=>k _ _ (.inl rfl) q,⟨o,k _ _ (.inl rfl) e⟩,st⟩
theorem HOk.lt(x:HOk P w H h)(e:H a=some o):a<h.objs.size:=(x a o e).lt
theorem HOk.fresh(x:HOk P w H h)(e:h.objs.size<=a):H a=none:=by
 cases q:H a with
 |none=>rfl
 |some u=>exact absurd (Gg (x.lt q) e) (Hr _)
theorem HOk.kept(x:HOk P w H h)(k:∀b u,h.get? b=some u->h'.get? b=some u):HOk P w H h':=fun a o e=>
 (x a o e).stay (fun b u _ q=>k b u q) (fun _ q=>q) fun _ _ q=>q
theorem HOk.laid(x:HOk P w H h)(k:∀b u,h.get? b=some u->h'.get? b=some u)(hp:h.objs.size<=a)(new:br P w (upd H a o) h' a o):HOk P w (upd H a o) h':=fun b u e=>by
 have hn:=x.fresh hp;by_cases hb:b=a
 ·subst hb;rw[av]at e;cases e;exact new
 ·rw[aO hb]at e
  exact(x b u e).stay (fun c v _ q=>k c v q) (fun c q=>by rw[aO (aP q hn)];exact q) fun c xs q=>by rw[aO (aP q hn)];exact q
end
noncomputable def Rd(H:Hp)(a:Addr)(u:HO):Prop:=H a=some u\/∃o,H a=some (.frz o u)
theorem Rd.of{H:Hp}{a:Addr}{u:HO}(h:H a=some u):Rd H a u:=.inl h
theorem Rd.ok{P:Program}{w:World}{H:Hp}{h:Heap}{a:Addr}{u:HO}(r:Rd H a u)(x:HOk P w H h):br P w H h a u:=by
 rcases r with r|⟨o,r⟩
 ·exact x a u r
 ·obtain⟨_,q⟩:=x a _ r
  exact q
noncomputable def Mut:Option HO->Prop
 |some (.lst _)=>True
 |some (.dK _)=>True
 |some (.dT _)=>True
 |some (.set _ _)=>True
 |some (.ins _ _ _)=>True
 |some (.ext _)=>True
 |_=>False
section
variable{P:Program}{w:World}{H:Hp}{h h':Heap}{x e:Addr}{o':HO}
theorem HOk.write(ok:HOk P w H h)(mu:Mut (H x))(he:e=x\/H e=some (.own x))(k:∀b u,b≠e->h.get? b=some u->h'.get? b=some u)(heo:∃u,h'.get? e=some u)
  (new:br P w (upd H x o') h' x o'):HOk P w (upd H x o') h':=fun b u q=>by
 have nown:∀c y,H c=some (.own y)->c≠x:=fun c y r z=>by subst z;rw[r]at mu;exact mu
 have ntup:∀c xs,H c=some (.tup xs)->c≠x:=fun c xs r z=>by subst z;rw[r]at mu;exact mu
 by_cases hb:b=x
 ·subst hb;rw[av]at q;cases q;exact new
 ·rw[aO hb]at q
  by_cases hbe:b=e
  ·have q':H b=some (.own x):=by
    rcases he with z|z
    ·exact absurd (hbe.trans z) hb
    ·rw[hbe];exact z
   rw[q]at q';cases q';obtain⟨v,hv⟩:=heo;exact⟨v,by rw[hbe];exact hv⟩
  ·refine(ok b u q).stay (fun c v hc r=>k c v ?_ r) (fun c r=>by rw[aO (nown c b r)];exact r) fun c xs r=>by rw[aO (ntup c xs r)];exact r
   rcases hc with rfl|hc
   ·exact hbe
   ·rintro rfl
    rcases he with z|z
    ·exact nown c b hc z
    ·rw[hc]at z;cases z;exact hb rfl
end
structure Un(fs ex:List Addr)(H H':Hp)(h h':Heap):Prop where
 keep:∀b o,h.get? b=some o->H b=none->b∉fs->b∉ex->h'.get? b=some o
 slot:∀b o,h.get? b=some o->H b=none->b∈fs->b∉ex->∃sl,h'.get? b=some { o with slots:=sl }
 free:∀b o,h.get? b=some o->H b=none->b∉ex->H' b=none
 there:∀b o,h.get? b=some o->b∉ex->∃o',h'.get? b=some o'
 tups:∀b xs,H b=some (.tup xs)->H' b=some (.tup xs)
 frzs:∀b o u,H b=some (.frz o u)->H' b=some (.frz o u)
 tbls:∀b ps,H b=some (.tbl ps)->∃more,H' b=some (.tbl (ps++more))
section
variable{fs fs' ex ex':List Addr}{H H1 H2:Hp}{h h1 h2 h':Heap}{a x e:Addr}{o:HO}
theorem Un.any(u:Un fs ex H H1 h h1){b:Addr}{ob:Obj}(q:h.get? b=some ob)(n:H b=none)(hx:b∉ex):∃sl,h1.get? b=some { ob with slots:=sl }:=by
 by_cases hb:b∈fs
 ·exact u.slot b ob q n hb hx
 ·exact⟨ob.slots,u.keep b ob q n hb hx⟩
theorem Un.trans(a:Un fs ex H H1 h h1)(b:Un fs ex H1 H2 h1 h2):Un fs ex H H2 h h2 where
 keep:=fun c ob q n hc hx=>b.keep c ob (a.keep c ob q n hc hx) (a.free c ob q n hx) hc hx
 slot:=fun c ob q n hc hx=>by
  obtain⟨sl,e1⟩:=a.slot c ob q n hc hx;obtain⟨sl',e2⟩:=b.slot c _ e1 (a.free c ob q n hx) hc hx;exact⟨sl',e2⟩
 free:=fun c ob q n hx=>by
  obtain⟨o',e1⟩:=a.there c ob q hx;exact b.free c o' e1 (a.free c ob q n hx) hx
 there:=fun c ob q hx=>by
  obtain⟨o',e1⟩:=a.there c ob q hx;exact b.there c o' e1 hx
 tups:=fun c xs q=>b.tups c xs (a.tups c xs q)
 frzs:=fun c ob xs q=>b.frzs c ob xs (a.frzs c ob xs q)
 tbls:=fun c ps q=>by
  obtain⟨m1,e1⟩:=a.tbls c ps q;obtain⟨m2,e2⟩:=b.tbls c _ e1;exact⟨m1++m2,by rw[e2,M4]⟩
theorem Un.kept(k:∀b u,h.get? b=some u->h'.get? b=some u):Un fs ex H H h h':=
 ⟨fun b ob q _ _ _=>k b ob q,fun b ob q _ _ _=>⟨ob.slots,k b ob q⟩,fun _ _ _ n _=>n,fun b ob q _=>⟨ob,k b ob q⟩,fun _ _ q=>q,fun _ _ _ q=>q,fun _ ps q=>⟨#[],by rw[q];simp⟩⟩
theorem Un.refl:Un fs ex H H h h:=Un.kept fun _ _ q=>q
theorem Un.laid(k:∀b u,h.get? b=some u->h'.get? b=some u)(hp:h.objs.size<=a)(hn:H a=none):Un fs ex H (upd H a o) h h' where
 keep:=fun b u q _ _ _=>k b u q
 slot:=fun b u q _ _ _=>⟨u.slots,k b u q⟩
 free:=fun b u q n _=>by rw[aO (GK (Gg (F4 q) hp))];exact n
 there:=fun b u q _=>⟨u,k b u q⟩
 tups:=fun b xs q=>by rw[aO (aP q hn)];exact q
 frzs:=fun b u xs q=>by rw[aO (aP q hn)];exact q
 tbls:=fun b ps q=>⟨#[],by rw[aO (aP q hn),q];simp⟩
theorem Un.write(mu:Mut (H x))(he:e=x\/H e=some (.own x))(k:∀b u,b≠e->h.get? b=some u->h'.get? b=some u)(heo:∃u,h'.get? e=some u):Un fs ex H (upd H x o) h h':=by
 have hx:∀b,H b=none->b≠x:=fun b n z=>by subst z;rw[n]at mu;exact mu
 have hb:∀b,H b=none->b≠e:=fun b n z=>by
  subst z;rcases he with r|r
  ·exact hx b n r
  ·rw[n]at r;cases r
 have hm:∀b u,H b=some u->¬Mut (some u)->b≠x:=fun b u q nm z=>by subst z;rw[q]at mu;exact nm mu
 refine⟨fun b u q n _ _=>k b u (hb b n) q,fun b u q n _ _=>⟨u.slots,k b u (hb b n) q⟩,fun b u q n _=>by rw[aO (hx b n)];exact n,fun b u q _=>?_,
  fun b xs q=>by rw[aO (hm b _ q fun z=>z)];exact q,fun b u xs q=>by rw[aO (hm b _ q fun z=>z)];exact q,fun b ps q=>⟨#[],by rw[aO (hm b _ q fun z=>z),q];simp⟩⟩
 by_cases hbe:b=e
 ·subst hbe;exact heo
 ·exact⟨u,k b u hbe q⟩
end
noncomputable def trk(h:Heap)(H:Hp):List Addr:=(F5 h.objs.size).filter fun a=>(H a).isSome
noncomputable def k9(h:Heap)(H:Hp):Heap:=PySem.W.hideAll h (trk h H)
theorem zH(h:Heap)(H:Hp):(k9 h H).objs.size=h.objs.size:=PySem.W.hideAll_size _ _
theorem Bf{h:Heap}{H:Hp}{b:Addr}{o:Obj}(e:h.get? b=some o)(n:H b=none):(k9 h H).get? b=some o:=
 PySem.W.hideAll_get _ e fun hm=>by
  have q:(H b).isSome=true:=(Ip.mp hm).2;rw[n]at q;simp at q
theorem CU{h:Heap}{H:Hp}{b:Addr}{o:Obj}(e:(k9 h H).get? b=some o):h.get? b=some o/\H b=none:=by
 have e':h.get? b=some o:=PySem.W.of_hideAll (trk h H) e;refine⟨e',?_⟩;cases q:H b with
 |none=>rfl
 |some x=>
  have hm:b∈trk h H:=Ip.mpr ⟨Gr.mpr (F4 e'),by simp[q]⟩;have z:(k9 h H).get? b=none:=PySem.W.hideAll_none (trk h H) hm;rw[z]at e;cases e
noncomputable def CV(g h:Heap)(L:Addr):List (Addr×Obj):=(F5 h.objs.size).filterMap fun a=>if a=L\/(g.get? a).isSome=true then none else(h.get? a).map fun o=>(a,o)
noncomputable def cB(g h:Heap)(L d:Addr):List (Addr×Obj):=(CV g h L).filter fun p=>decide (p.1≠d)
end L2
namespace L2
open PySem PySem.Spec PyProof.Rows
structure Mod(K:Fg)(mg:Str->Option Value)(base:Heap):Prop where
 kin:K.In base
 glob:base.Ns Gn mg
 blt:∃mb,base.Ns N4 mb/\∀x:Str,x≠"__name__"->mb x=JJ x
 nolimit:base.NoLimit
set_option genInjectivity false in
structure Cx where
 prog:Program
 w:World
 K:Fg
 mg:Str->Option Value
 base:Heap
 A:Around
 N:List Str
 s₀:Shared
 H₀:Hp
 env:Env
 outer:List Env
 stack:List Env
 ex:List Addr
 fn:Str->Bool
 calm:Bool
 pn:List (Addr×Obj)
 xe:Value->Shared->Prop
noncomputable def frs(l:List Env):List Addr:=l.filterMap (·.frame)
noncomputable abbrev Cx.fs(X:Cx):List Addr:=frs X.outer
noncomputable def Vis(sc:Scope)(x:Str):Prop:=sc.names.lookup x=some .local\/sc.names.lookup x=some .cell\/sc.names.lookup x=some .free
noncomputable def Loc(sc:Scope)(x:Str):Prop:=sc.names.lookup x=some .local\/sc.names.lookup x=some .cell
noncomputable def DV(env:Env)(h:Heap)(m:Str->Option Value)(x:Str)(u:Value):Prop:=
 (env.kindOf x=some .local/\m x=some u)\/((env.kindOf x=some .cell\/env.kindOf x=some .free)/\∃c,env.cells.lookup x=some c/\h.IsCell c (some u))
structure Cx.Ok(X:Cx):Prop where
 mod:Mod X.K X.mg X.base
 kind:X.env.scope.kind=.function
 glob:X.env.globals=Gn
 blt:X.env.builtins=N4
 above:X.s₀.heap.objs.size<=X.env.locals
 inj:∀x y c,X.env.cells.lookup x=some c->X.env.cells.lookup y=some c->x=y
 has:∀x,(X.env.kindOf x=some .cell\/X.env.kindOf x=some .free)->∃c,X.env.cells.lookup x=some c
 cab:∀x c,X.fn x=true->X.env.cells.lookup x=some c->X.s₀.heap.objs.size<=c
 hd:X.calm=true->X.A.handled=none
 frames:X.A.frames=some X.stack
 stk:X.stack=X.outer\/(X.stack=X.env::X.outer/\X.env.frame=some X.env.locals)
 exf:∀b∈X.ex,b≠X.env.locals/\∀x c,X.env.cells.lookup x=some c->c≠b
 bs:∀b o,X.base.get? b=some o->X.s₀.heap.get? b=some o/\X.H₀ b=none
 bsz:X.base.objs.size<=X.s₀.heap.objs.size
 noex:∀b o,X.base.get? b=some o->b∉X.ex
 exfs:∀b∈X.ex,b∉X.fs
 funs:X.s₀.heap.FunFrames X.base X.outer
 frf:∀b∈X.fs,X.H₀ b=none
structure Inv(X:Cx)(pins:List (Addr×Obj))(σ:List (Option V))(H:Hp)(s:Shared):Prop where
 ok:X.Ok
 os:s.os=X.s₀.os
 bare:AllBare s.gens
 base:Un X.fs X.ex X.H₀ H X.s₀.heap s.heap
 loc:∃m,s.heap.Ns X.env.locals m/\∀(i:Nat)(x:Str)(v:V),X.N[i]?=some x->σ[i]?=some (some v)->Vis X.env.scope x->∃u,aB v u/\DV X.env s.heap m x u
 cell:∀x c,X.env.cells.lookup x=some c->∃v,s.heap.IsCell c v
 free:H X.env.locals=none
 freeC:∀x c,X.env.cells.lookup x=some c->H c=none
 pin:∀p∈X.pn++pins,s.heap.get? p.1=some p.2/\H p.1=none/\p.1≠X.env.locals/\p.1∉X.fs/\∀v,p.2.data≠.cell v
 hok:HOk X.prog X.w H s.heap
 len:σ.length=X.N.length
section
variable{X:Cx}{pins:List (Addr×Obj)}{σ:List (Option V)}{H H':Hp}{s:Shared}{h':Heap}
theorem Cx.Ok.nofr(ok:X.Ok){b:Addr}{o:Obj}(e:X.base.get? b=some o):b∉X.fs:=fun hb=>by
 have:=(ok.funs.mem hb).1;rw[e]at this;cases this
theorem Inv.bs(I:Inv X pins σ H s):∀b o,X.base.get? b=some o->s.heap.get? b=some o/\H b=none:=fun b o e=>
 ⟨I.base.keep b o (I.ok.bs b o e).1 (I.ok.bs b o e).2 (I.ok.nofr e) (I.ok.noex b o e),I.base.free b o (I.ok.bs b o e).1 (I.ok.bs b o e).2 (I.ok.noex b o e)⟩
theorem Inv.bk(I:Inv X pins σ H s):∀b o,X.base.get? b=some o->s.heap.get? b=some o:=fun b o e=>(I.bs b o e).1
theorem Inv.mod(I:Inv X pins σ H s):Mod X.K X.mg X.base:=I.ok.mod
theorem Inv.kIn(I:Inv X pins σ H s):X.K.In s.heap:=I.ok.mod.kin.keeps I.bk
theorem Inv.nolimit(I:Inv X pins σ H s):s.heap.NoLimit:=I.ok.mod.nolimit.keeps I.bk
theorem Inv.lt(I:Inv X pins σ H s):X.env.locals<s.heap.objs.size:=let⟨_,hn,_⟩:=I.loc;hn.lt
theorem Inv.sz(I:Inv X pins σ H s):X.s₀.heap.objs.size<=s.heap.objs.size:=Gs I.ok.above (He I.lt)
theorem Inv.nofs(I:Inv X pins σ H s){a:Addr}(h:s.heap.objs.size<=a):a∉X.fs:=fun hb=>by
 obtain⟨_,o,ho,_⟩:=I.ok.funs.mem hb;exact absurd (Gg (F4 ho) (Gs I.sz h)) (Hr _)
theorem Inv.cne(I:Inv X pins σ H s):∀x c,X.env.cells.lookup x=some c->c≠X.env.locals:=fun x c e z=>by
 obtain⟨v,o,ho,hd⟩:=I.cell x c e;obtain⟨m,⟨o',es,ep,ho',hd',_⟩,_⟩:=I.loc;rw[z,ho']at ho;cases ho;rw[hd']at hd;cases hd
theorem Inv.funs(I:Inv X pins σ H s):s.heap.FunFrames X.base X.outer:=by
 have all:∀(l:List Env),(∀b∈frs l,b∈X.fs)->X.s₀.heap.FunFrames X.base l->s.heap.FunFrames X.base l:=by
  intro l
  induction l with
  |nil=>intro _ _;trivial
  |cons env r ih=>
   intro hs hl;obtain⟨hk,⟨L,o,hf,hn,ho,hd⟩,hr⟩:=hl;have hL:L∈X.fs:=hs L (by unfold frs;rw[KC,hf];exact F2);obtain⟨sl,e⟩:=I.base.slot L o ho (I.ok.frf L hL) hL fun z=>I.ok.exfs L z hL;exact⟨hk,⟨L,_,hf,hn,e,hd⟩,ih (fun b hb=>hs b (by unfold frs;rw[KC,hf];exact FX _ hb)) hr⟩
 exact all X.outer (fun _ hb=>hb) I.ok.funs
theorem Inv.stack(I:Inv X pins σ H s):s.heap.FunFrames X.base X.stack:=by
 rcases I.ok.stk with e|⟨e,hf⟩
 ·rw[e];exact I.funs
 ·rw[e]
  obtain⟨m,hn,_⟩:=I.loc;refine .cons (by rw[I.ok.kind];decide) hf hn ?_ I.funs;exact Heap.get?_none_of_le (Gs I.ok.bsz I.ok.above)
theorem Inv.stkSub(I:Inv X pins σ H s):∀b∈frs X.stack,b∈X.env.locals::X.fs:=fun b hb=>by
 rcases I.ok.stk with e|⟨e,hf⟩
 ·rw[e]at hb;exact FX _ hb
 ·rw[e]at hb
  unfold frs at hb;rw[KC,hf]at hb;exact hb
theorem Inv.stkFree(I:Inv X pins σ H s):∀b∈frs X.stack,H b=none:=fun b hb=>by
 rcases FW.mp (I.stkSub b hb)with e|hb
 ·rw[e];exact I.free
 ·obtain⟨_,o,ho,_⟩:=I.ok.funs.mem hb
  exact I.base.free b o ho (I.ok.frf b hb) fun z=>I.ok.exfs b z hb
theorem Inv.step{g':Array Mu}{t':Nat}{d':Drawn}{ch:List Addr}(I:Inv X pins σ H s)
  (hch:∀b∈ch,(b∈X.ex\/X.s₀.heap.objs.size<=b)/\b≠X.env.locals/\(∀x c,X.env.cells.lookup x=some c->c≠b)/\∀p∈X.pn++pins,p.1≠b)
  (keep:∀b o,b≠X.env.locals->b∉X.fs->b∉ch->s.heap.get? b=some o->H b=none->h'.get? b=some o)
  (slot:∀b o,b≠X.env.locals->b∈X.fs->b∉ch->s.heap.get? b=some o->H b=none->∃sl,h'.get? b=some { o with slots:=sl }) (free:∀b o,b∉ch->s.heap.get? b=some o->H b=none->H' b=none)
  (there:∀b o,b∉ch->s.heap.get? b=some o->∃o',h'.get? b=some o')
  (tups:∀b xs,H b=some (.tup xs)->H' b=some (.tup xs)) (frzs:∀b o u,H b=some (.frz o u)->H' b=some (.frz o u)) (tbls:∀b ps,H b=some (.tbl ps)->∃more,H' b=some (.tbl (ps++more)))
  (ns:∀m,s.heap.Ns X.env.locals m->h'.Ns X.env.locals m) (hok:HOk X.prog X.w H' h') (hg:AllBare g'):
  Inv X pins σ H' { s with heap:=h',gens:=g',drawn:=d',toks:=t' }:=by
 have neL:∀b o,X.s₀.heap.get? b=some o->b≠X.env.locals:=fun b o e=>GK (Gg (F4 e) I.ok.above);have neC:∀b o,X.s₀.heap.get? b=some o->b∉X.ex->b∉ch:=fun b o e hx hb=>by
  rcases(hch b hb).1 with z|z
  ·exact hx z
  ·exact absurd (Gg (F4 e) z) (Hr _)
 have cellK:∀x c,X.env.cells.lookup x=some c->∀v,s.heap.IsCell c v->h'.IsCell c v:=fun x c e v ⟨o,ho,hd⟩=>by
  have nch:c∉ch:=fun z=>(hch c z).2.2.1 x c e rfl;by_cases hc:c∈X.fs
  ·obtain⟨sl,q⟩:=slot c o (I.cne x c e) hc nch ho (I.freeC x c e)
   exact⟨_,q,hd⟩
  ·exact⟨o,keep c o (I.cne x c e) hc nch ho (I.freeC x c e),hd⟩
 refine⟨I.ok,I.os,hg,⟨fun b o e n hb hx=>?_,fun b o e n hb hx=>?_,fun b o e n hx=>?_,fun b o e hx=>?_,fun b xs e=>tups b xs (I.base.tups b xs e),fun b o xs e=>frzs b o xs (I.base.frzs b o xs e),fun b ps e=>?_⟩,?_,fun x c e=>?_,?_,fun x c e=>?_,fun p hp=>?_,hok,I.len⟩
 ·exact keep b o (neL b o e) hb (neC b o e hx) (I.base.keep b o e n hb hx) (I.base.free b o e n hx)
 ·obtain⟨sl,e1⟩:=I.base.slot b o e n hb hx
  obtain⟨sl',e2⟩:=slot b _ (neL b o e) hb (neC b o e hx) e1 (I.base.free b o e n hx);exact⟨sl',e2⟩
 ·obtain⟨o',e1⟩:=I.base.there b o e hx
  exact free b o' (neC b o e hx) e1 (I.base.free b o e n hx)
 ·obtain⟨o',e1⟩:=I.base.there b o e hx
  exact there b o' (neC b o e hx) e1
 ·obtain⟨m1,e1⟩:=I.base.tbls b ps e
  obtain⟨m2,e2⟩:=tbls b _ e1;exact⟨m1++m2,by rw[e2,M4]⟩
 ·obtain⟨m,hn,hl⟩:=I.loc
  refine⟨m,ns m hn,fun i x v e1 e2 e3=>?_⟩;obtain⟨u,r,l⟩:=hl i x v e1 e2 e3;refine⟨u,r,?_⟩;rcases l with l|⟨k,c,e,z⟩
  ·exact .inl l
  ·exact .inr ⟨k,c,e,cellK x c e _ z⟩
 ·obtain⟨v,z⟩:=I.cell x c e
  exact⟨v,cellK x c e v z⟩
 ·obtain⟨m,⟨o,_,_,ho,_⟩,_⟩:=I.loc
  exact free _ o (fun z=>(hch _ z).2.1 rfl) ho I.free
 ·obtain⟨v,o,ho,hd⟩:=I.cell x c e
  exact free c o (fun z=>(hch c z).2.2.1 x c e rfl) ho (I.freeC x c e)
 ·obtain⟨e,n,ne,nf,d⟩:=I.pin p hp
  have nch:p.1∉ch:=fun z=>(hch p.1 z).2.2.2 p hp rfl;exact⟨keep p.1 p.2 ne nf nch e n,free p.1 p.2 nch e n,ne,nf,d⟩
theorem Inv.un{t':Nat}(I:Inv X pins σ H s)(u:Un X.fs [] H H' s.heap h')(hok:HOk X.prog X.w H' h'):Inv X pins σ H' { s with heap:=h',toks:=t' }:=by
 obtain⟨m,⟨o,es,ep,ho,r⟩,_⟩:=id I.loc;obtain⟨sl,hL⟩:=u.any ho I.free (by simp);exact I.step (g':=s.gens) (d':=s.drawn) (ch:=[]) (fun _ z=>nomatch z) (fun b o _ hb _ e n=>u.keep b o e n hb (by simp)) (fun b o _ hb _ e n=>u.slot b o e n hb (by simp)) (fun b o _ e n=>u.free b o e n (by simp)) (fun b o _ e=>u.there b o e (by simp)) u.tups u.frzs u.tbls (fun m' hm=>by
  obtain⟨o',es',ep',ho',r'⟩:=hm;rw[ho]at ho';cases ho';exact⟨_,es',ep',hL,r'⟩) hok I.bare
theorem Inv.call{g':Array Mu}{t':Nat}{d':Drawn}{ch:List Addr}(I:Inv X pins σ H s)(u:Un (frs X.stack) ch H H' s.heap h')(hok:HOk X.prog X.w H' h')(hg:AllBare g')
  (hch:∀b∈ch,(b∈X.ex\/X.s₀.heap.objs.size<=b)/\b≠X.env.locals/\(∀x c,X.env.cells.lookup x=some c->c≠b)/\∀p∈X.pn++pins,p.1≠b):
  Inv X pins σ H' { s with heap:=h',gens:=g',drawn:=d',toks:=t' }:=by
 obtain⟨m,⟨o,es,ep,ho,r⟩,_⟩:=id I.loc;obtain⟨sl,hL⟩:=u.any ho I.free fun z=>(hch _ z).2.1 rfl;exact I.step (ch:=ch) hch (fun b o hL hb hc e n=>u.keep b o e n (fun z=>(FW.mp (I.stkSub b z)).elim hL hb) hc) (fun b o _ _ hc e n=>u.any e n hc) (fun b o hc e n=>u.free b o e n hc) (fun b o hc e=>u.there b o e hc) u.tups u.frzs u.tbls (fun m' hm=>by
  obtain⟨o',es',ep',ho',r'⟩:=hm;rw[ho]at ho';cases ho';exact⟨_,es',ep',hL,r'⟩) hok hg
theorem Inv.turned{t':Nat}{it:Addr}(I:Inv X pins σ H s)(k:∀b o,b≠it->s.heap.get? b=some o->h'.get? b=some o)(hn:H it=none)(hL:it≠X.env.locals)
  (h1:it∈X.ex\/X.s₀.heap.objs.size<=it) (h2:∀x c,X.env.cells.lookup x=some c->c≠it) (h3:∀p∈X.pn++pins,p.1≠it):Inv X pins σ H { s with heap:=h',toks:=t' }:=by
 have nit:∀b u,H b=some u->b≠it:=fun b u e z=>by rw[z,hn]at e;cases e
 refine I.step (g':=s.gens) (d':=s.drawn) (ch:=[it]) (fun b hb=>?_) (fun b o _ _ hc e _=>k b o (fun z=>hc (by simp[z])) e) (fun b o _ _ hc e _=>⟨o.slots,k b o (fun z=>hc (by simp[z])) e⟩) (fun _ _ _ _ n=>n)
  (fun b o hc e=>⟨o,k b o (fun z=>hc (by simp[z])) e⟩) (fun _ _ e=>e) (fun _ _ _ e=>e) (fun b ps e=>⟨#[],by rw[e];simp⟩) (fun m hm=>?_) (fun b u e=>?_) I.bare
 ·have e:b=it:=by simpa using hb
  subst e;exact⟨h1,hL,h2,h3⟩
 ·obtain⟨o,es,ep,ho,r⟩:=hm
  exact⟨o,es,ep,k _ o (Hn hL) ho,r⟩
 ·refine(I.hok b u e).stay (fun c v hc q=>k c v ?_ q) (fun _ q=>q) fun _ _ q=>q
  rcases hc with z|z
  ·rw[z];exact nit b u e
  ·exact nit c _ z
theorem Inv.tok(I:Inv X pins σ H s)(t:Nat):Inv X pins σ H { s with toks:=t }:=I.un (h':=s.heap) (t':=t) Un.refl I.hok
theorem Inv.kept{t':Nat}(I:Inv X pins σ H s)(k:∀b u,s.heap.get? b=some u->h'.get? b=some u):Inv X pins σ H { s with heap:=h',toks:=t' }:=I.un (Un.kept k) (I.hok.kept k)
theorem Inv.laid{a:Addr}{o:HO}{t':Nat}(I:Inv X pins σ H s)(k:∀b u,s.heap.get? b=some u->h'.get? b=some u)(hp:s.heap.objs.size<=a)(new:br X.prog X.w (upd H a o) h' a o):
  Inv X pins σ (upd H a o) { s with heap:=h',toks:=t' }:=I.un (Un.laid k hp (I.hok.fresh hp)) (I.hok.laid k hp new)
theorem Inv.write{x e:Addr}{o:HO}{t':Nat}(I:Inv X pins σ H s)(mu:Mut (H x))(he:e=x\/H e=some (.own x))(k:∀b u,b≠e->s.heap.get? b=some u->h'.get? b=some u)(heo:∃u,h'.get? e=some u)
  (new:br X.prog X.w (upd H x o) h' x o):Inv X pins σ (upd H x o) { s with heap:=h',toks:=t' }:=I.un (Un.write mu he k heo) (I.hok.write mu he k heo new)
theorem Inv.pins_of{pins':List (Addr×Obj)}(I:Inv X pins σ H s)(h:∀p∈pins',s.heap.get? p.1=some p.2/\H p.1=none/\p.1≠X.env.locals/\p.1∉X.fs/\∀v,p.2.data≠.cell v):Inv X pins' σ H s:=
 ⟨I.ok,I.os,I.bare,I.base,I.loc,I.cell,I.free,I.freeC,fun p hp=>(Gv.mp hp).elim (fun z=>I.pin p (G8 _ z)) (h p),I.hok,I.len⟩
theorem uW{N:List Str}(hN:N.Nodup){i j:Nat}{x:Str}(a:N[i]?=some x)(b:N[j]?=some x):i=j:=by
 obtain⟨h1,e1⟩:=FS.mp a;obtain⟨h2,e2⟩:=FS.mp b;exact(NP hN).mp (e1.trans e2.symm)
theorem sQ{M:Model}{A:Around}{E:Value->Shared->Prop}{i:Nat}{x:Str}{v:V}{u:Value}{Q:Unit->Shared->Prop}(I:Inv X pins σ H s)(hN:X.N.Nodup)(hi:X.N[i]?=some x)(hx:Loc X.env.scope x)(r:aB v u)
  (h:∀s',Inv X pins (σ.set i (some v)) H s'->(∃a,Gp a s.heap s'.heap/\(a=X.env.locals\/X.env.cells.lookup x=some a))->Q () s') (hf:X.fn x=true\/X.env.scope.names.lookup x=some .local:=by first|exact .inl rfl|exact .inr rfl|assumption):wpAny M A (storeName X.env x u) Q E s:=by
 obtain⟨m,hn,hl⟩:=id I.loc;have hcls:(X.env.scope.kind== .class||(X.env.scope.kind== .module&&X.env.locals != X.env.globals))=false:=by rw[I.ok.kind];rfl
 have hiσ:i<σ.length:=by rw[I.len];exact(FS.mp hi).1
 have cne:=I.cne;have tracked:∀{a:Addr} {h':Heap},(∃o,s.heap.get? a=some o/\H a=none)->Gp a s.heap h'->HOk X.prog X.w H h':=fun{a h'} ha hs b ob e=>by
  obtain⟨_,_,hfree⟩:=ha;refine(I.hok b ob e).stay (fun c w' hc q=>(hs.2 c ?_).trans q) (fun _ q=>q) fun _ _ q=>q;rintro rfl;rcases hc with rfl|hc
  ·rw[hfree]at e;cases e
  ·rw[hfree]at hc;cases hc
 rcases hx with hk|hk
 ·refine wpAny_storeName_local hk hn (fun h' hn' hs=>?_) hcls
  obtain⟨oL,_,_,hoL,_⟩:=id hn;refine h _ ⟨I.ok,I.os,I.bare,⟨fun b o e n hb hx=>?_,fun b o e n hb hx=>?_,I.base.free,fun b o e hx=>?_,I.base.tups,I.base.frzs,I.base.tbls⟩,⟨_,hn',fun j y v' e1 e2 e3=>?_⟩,fun y c e=>?_,I.free,I.freeC,fun p hp=>?_,tracked ⟨oL,hoL,I.free⟩ hs,by simpa using I.len⟩ ⟨_,hs,.inl rfl⟩
  ·exact(hs.2 b (GK (Gg (F4 e) I.ok.above))).trans (I.base.keep b o e n hb hx)
  ·obtain⟨sl,e1⟩:=I.base.slot b o e n hb hx
   exact⟨sl,(hs.2 b (GK (Gg (F4 e) I.ok.above))).trans e1⟩
  ·obtain⟨o',e1⟩:=I.base.there b o e hx
   exact⟨o',(hs.2 b (GK (Gg (F4 e) I.ok.above))).trans e1⟩
  ·by_cases hj:j=i
   ·subst hj
    rw[hi]at e1;cases e1;rw[L6 hiσ]at e2;cases e2;exact⟨u,r,.inl ⟨hk,by simp⟩⟩
   ·rw[Mv (Hn hj)]at e2
    obtain⟨u',r',q⟩:=hl j y v' e1 e2 e3;refine⟨u',r',?_⟩;rcases q with⟨k,e⟩|⟨k,c,e,z⟩
    ·refine .inl ⟨k,?_⟩
     have:y≠x:=fun e=>hj (uW hN e1 (e▸hi));simp[this,e]
    ·exact .inr ⟨k,c,e,z.sameBut hs (cne y c e)⟩
  ·obtain⟨w',z⟩:=I.cell y c e
   exact⟨w',z.sameBut hs (cne y c e)⟩
  ·obtain⟨e,n,ne,nf,d⟩:=I.pin p hp
   exact⟨(hs.2 p.1 ne).trans e,n,ne,nf,d⟩
 ·have hfn:X.fn x=true:=by
   rcases hf with z|z
   ·exact z
   ·rw[z]at hk;cases hk
  obtain⟨c,hc⟩:=I.ok.has x (.inl hk);obtain⟨w',z⟩:=I.cell x c hc;refine wpAny_storeName_cell I.ok.kind hk hc z (fun h' hc' hs=>?_);obtain⟨oc,hoc,hocd⟩:=id z;refine h { s with heap:=h' } ⟨I.ok,I.os,I.bare,⟨fun b o e n hb hx=>?_,fun b o e n hb hx=>?_,I.base.free,fun b o e hx=>?_,I.base.tups,I.base.frzs,I.base.tbls⟩,⟨m,hn.sameBut hs (Hn (cne x c hc)),fun j y v' e1 e2 e3=>?_⟩,fun y c' e=>?_,I.free,I.freeC,fun p hp=>?_,tracked ⟨oc,hoc,I.freeC x c hc⟩ hs,by simpa using I.len⟩ ⟨c,hs,.inr hc⟩
  ·exact(hs.2 b (GK (Gg (F4 e) (I.ok.cab x c hfn hc)))).trans (I.base.keep b o e n hb hx)
  ·obtain⟨sl,e1⟩:=I.base.slot b o e n hb hx
   exact⟨sl,(hs.2 b (GK (Gg (F4 e) (I.ok.cab x c hfn hc)))).trans e1⟩
  ·obtain⟨o',e1⟩:=I.base.there b o e hx
   exact⟨o',(hs.2 b (GK (Gg (F4 e) (I.ok.cab x c hfn hc)))).trans e1⟩
  ·by_cases hj:j=i
   ·subst hj
    rw[hi]at e1;cases e1;rw[L6 hiσ]at e2;cases e2;exact⟨u,r,.inr ⟨.inl hk,c,hc,hc'⟩⟩
   ·rw[Mv (Hn hj)]at e2
    obtain⟨u',r',q⟩:=hl j y v' e1 e2 e3;refine⟨u',r',?_⟩;rcases q with q|⟨k,c',e,z'⟩
    ·exact .inl q
    ·refine .inr ⟨k,c',e,z'.sameBut hs ?_⟩
     rintro rfl;exact hj (uW hN e1 (I.ok.inj _ _ _ e hc▸hi))
  ·by_cases hcc:c'=c
   ·subst hcc;exact⟨_,hc'⟩
   ·obtain⟨w2,z2⟩:=I.cell y c' e
    exact⟨w2,z2.sameBut hs hcc⟩
  ·obtain⟨e,n,ne,nf,d⟩:=I.pin p hp
   refine⟨(hs.2 p.1 ?_).trans e,n,ne,nf,d⟩;intro q;rw[q,hoc]at e;have q':oc=p.2:=F1 e;exact d w' (by rw[<-q'];exact hocd)
theorem uX{M:Model}{A:Around}{E:Value->Shared->Prop}{i:Nat}{x:Str}{v:V}{u:Value}{Q:Unit->Shared->Prop}(I:Inv X pins σ H s)(hN:X.N.Nodup)(hi:X.N[i]?=some x)(hx:Loc X.env.scope x)(r:aB v u)
  (h:∀s',Inv X pins (σ.set i (some v)) H s'->Q () s') (hf:X.fn x=true\/X.env.scope.names.lookup x=some .local:=by first|exact .inl rfl|exact .inr rfl|assumption):wpAny M A (storeName X.env x u) Q E s:=
 sQ I hN hi hx r (fun s' I' _=>h s' I') hf
theorem Inv.call'{s':Shared}{ch:List Addr}(I:Inv X pins σ H s)(ho:s'.os=s.os)(u:Un (frs X.stack) ch H H' s.heap s'.heap)(hok:HOk X.prog X.w H' s'.heap)(hg:AllBare s'.gens)
  (hch:∀b∈ch,(b∈X.ex\/X.s₀.heap.objs.size<=b)/\b≠X.env.locals/\(∀x c,X.env.cells.lookup x=some c->c≠b)/\∀p∈X.pn++pins,p.1≠b):Inv X pins σ H' s':=by
 obtain⟨h',g',d',t',o'⟩:=s';have e:o'=s.os:=ho;subst e;exact I.call (g':=g') (t':=t') (d':=d') u hok hg hch
end
noncomputable abbrev XK:=Value->Option Addr->Hp->Prop
noncomputable abbrev St:=List (Option V)
noncomputable abbrev VK:=V->Hp->Prop
noncomputable abbrev TE:=St->Hp->VK->Prop
noncomputable abbrev TT:=St->Hp->(Bool->Hp->Prop)->Prop
noncomputable abbrev TA:=St->Hp->(List V->Hp->Prop)->Prop
set_option genInjectivity false in
structure ic where
 nx:St->Hp->Prop
 rt:VK
 bk:St->Hp->Prop:=fun _ _=>False
 ct:St->Hp->Prop:=fun _ _=>False
noncomputable abbrev TS:=ic->St->Hp->Prop
noncomputable def EP(X:Cx)(pins:List (Addr×Obj))(σ:St)(Q:VK)(u:Value)(s':Shared):Prop:=∃v H',Inv X pins σ H' s'/\aB v u/\Q v H'
noncomputable def TP(X:Cx)(pins:List (Addr×Obj))(σ:St)(Q:Bool->Hp->Prop)(b:Bool)(s':Shared):Prop:=∃H',Inv X pins σ H' s'/\Q b H'
noncomputable def AP(X:Cx)(pins:List (Addr×Obj))(σ:St)(Q:List V->Hp->Prop)(us:List Value)(s':Shared):Prop:=∃vs H',Inv X pins σ H' s'/\aA vs us/\Q vs H'
noncomputable def SP(X:Cx)(pins:List (Addr×Obj))(D:ic)(f:Flow)(s':Shared):Prop:=
 match f with
 | .next=>∃σ' H',Inv X pins σ' H' s'/\D.nx σ' H'
 | .brk=>∃σ' H',Inv X pins σ' H' s'/\D.bk σ' H'
 | .cont=>∃σ' H',Inv X pins σ' H' s'/\D.ct σ' H'
 | .ret u=>∃v σ' H',Inv X pins σ' H' s'/\aB v u/\D.rt v H'
noncomputable def PE(X:Cx)(e:Expr)(t:TE):Prop:=
 ∀(pins:List (Addr×Obj))(s:Shared)(σ:St)(H:Hp)(Q:VK),Inv X pins σ H s->t σ H Q->wpAny (model X.prog X.w) X.A (eval e X.env) (EP X pins σ Q) X.xe s
noncomputable def PT(X:Cx)(e:Expr)(t:TT):Prop:=
 ∀(pins:List (Addr×Obj))(s:Shared)(σ:St)(H:Hp)(Q:Bool->Hp->Prop),Inv X pins σ H s->t σ H Q->wpAny (model X.prog X.w) X.A (isTrue e X.env (eval e X.env)) (TP X pins σ Q) X.xe s
noncomputable def PW(X:Cx)(e:Expr)(t:TT):Prop:=
 ∀(whole:Sem Value)(pins:List (Addr×Obj))(s:Shared)(σ:St)(H:Hp)(Q:Bool->Hp->Prop),Inv X pins σ H s->t σ H Q->wpAny (model X.prog X.w) X.A (isTrue e X.env whole) (TP X pins σ Q) X.xe s
theorem PW.pt{X:Cx}{e:Expr}{t:TT}(h:PW X e t):PT X e t:=h _
noncomputable def PA(X:Cx)(es:List Expr)(t:TA):Prop:=
 ∀(pos:Pos)(pins:List (Addr×Obj))(s:Shared)(σ:St)(H:Hp)(Q:List V->Hp->Prop),Inv X pins σ H s->t σ H Q->wpAny (model X.prog X.w) X.A (spliced (backTo pos (Gf es X.env))) (AP X pins σ Q) X.xe s
noncomputable def PS(X:Cx)(st:Stmt)(t:TS):Prop:=
 ∀(pins:List (Addr×Obj))(s:Shared)(σ:St)(H:Hp)(D:ic),Inv X pins σ H s->t D σ H->wpAny (model X.prog X.w) X.A (exec st X.env) (SP X pins D) X.xe s
noncomputable def PSs(X:Cx)(st:List Stmt)(t:TS):Prop:=
 ∀(pins:List (Addr×Obj))(s:Shared)(σ:St)(H:Hp)(D:ic),Inv X pins σ H s->t D σ H->wpAny (model X.prog X.w) X.A (execs st X.env) (SP X pins D) X.xe s
theorem thn{α:Type}{t:Sem α}{Q Q':α->Shared->Prop}{M:Model}{A:Around}{E:Value->Shared->Prop}{s:Shared}(h:wpAny M A t Q E s)(hQ:∀a s,Q a s->Q' a s):wpAny M A t Q' E s:=Hd h hQ fun _ _ x=>x
end L2
namespace L2
open PySem PySem.Spec PyProof.Rows
section
variable{X:Cx}
noncomputable def ab(i:Nat):TE:=fun σ H Q=>∃v,σ[i]?=some (some v)/\Q v H
noncomputable def tC(v:V):TE:=fun _ H Q=>Q v H
theorem DW{i:Nat}{x:Str}{pos:Pos}(hN:X.N[i]?=some x)(hv:Vis X.env.scope x)(hd:(x==("__debug__":Str))=false:=by decide)(hcd:(x==("__classdict__":Str))=false:=by decide):PE X (.Name x pos) (ab i):=by
 intro pins s σ H Q I h;obtain⟨v,e,h⟩:=h;obtain⟨m,hn,hl⟩:=I.loc;obtain⟨u,r,l⟩:=hl i x v hN e hv;have fin:EP X pins σ Q u s:=⟨v,H,I,r,h⟩;rcases l with⟨hk,hm⟩|⟨hk,c,hc,hcell⟩
 ·exact N5 (wpAny_loadName_local I.ok.kind hk hn hm fin) hd
 ·rcases hk with hk|hk
  ·exact N5 (wpAny_loadName_cell I.ok.kind hk hc hcell fin) hd
  ·exact N5 (wpAny_loadName_free I.ok.kind hk hc hcell fin hcd) hd
theorem aj{i j pos}:PE X (.Constant (.int i) j pos) (tC (.int i)):=fun _ _ _ H _ I h=>wpAny_Constant_int ⟨.int i,H,I.tok _,⟨_,rfl⟩,h⟩
theorem cr{b j pos}:PE X (.Constant (.bool b) j pos) (tC (.bl b)):=fun _ _ _ H _ I h=>Constant_bool ⟨.bl b,H,I,rfl,h⟩
theorem aY{x j pos}:PE X (.Constant (.str x) j pos) (tC (.str x)):=fun _ _ _ H _ I h=>Calls.Constant_str ⟨.str x,H,I.tok _,⟨_,rfl⟩,h⟩
noncomputable def Gl(X:Cx)(x:Str):Prop:=X.env.kindOf x=some .globalImplicit
theorem rD{E:Value->Shared->Prop}{pins:List (Addr×Obj)}{s:Shared}{σ:St}{H:Hp}{x:Str}{u:Value}{pos:Pos}{Q:Value->Shared->Prop}(I:Inv X pins σ H s)(hg:Gl X x)(hm:X.mg x=some u)(h:Q u s)
  (hd:(x==("__debug__":Str))=false:=by decide):wpAny (model X.prog X.w) X.A (eval (.Name x pos) X.env) Q E s:=
 Lc I.ok.kind hg (Calls.loadGlobal_global (by rw[I.ok.glob];exact I.mod.glob.keeps I.bk) hm h) hd
theorem i5{E:Value->Shared->Prop}{pins:List (Addr×Obj)}{s:Shared}{σ:St}{H:Hp}{x:Str}{u:Value}{pos:Pos}{Q:Value->Shared->Prop}(I:Inv X pins σ H s)(hg:Gl X x)(hm:X.mg x=none)(hv:JJ x=some u)(h:Q u s)
  (hn:x≠"__name__":=by decide) (hd:(x==("__debug__":Str))=false:=by decide):wpAny (model X.prog X.w) X.A (eval (.Name x pos) X.env) Q E s:=by
 obtain⟨mb,h1,h2⟩:=I.mod.blt;exact Lc I.ok.kind hg (Calls.loadGlobal_builtin (by rw[I.ok.glob];exact I.mod.glob.keeps I.bk) hm (by rw[I.ok.blt];exact h1.keeps I.bk) ((h2 x hn).trans hv) h) hd
theorem ie{x:Str}{v:V}{u:Value}{pos:Pos}(hg:Gl X x)(hm:X.mg x=some u)(r:aB v u)(hd:(x==("__debug__":Str))=false:=by decide):PE X (.Name x pos) (tC v):=
 fun _ _ _ H _ I h=>rD I hg hm ⟨v,H,I,r,h⟩ hd
theorem gu{x:Str}{v:V}{u:Value}{pos:Pos}(hg:Gl X x)(hm:X.mg x=none)(hv:JJ x=some u)(r:aB v u)(hn:x≠"__name__":=by decide)(hd:(x==("__debug__":Str))=false:=by decide):PE X (.Name x pos) (tC v):=
 fun _ _ _ H _ I h=>i5 I hg hm hv ⟨v,H,I,r,h⟩ hn hd
variable{a b:Expr}{ta tb:TE}{pos:Pos}
noncomputable def tB(t:TE):TT:=fun σ H Q=>t σ H fun x H1=>∃c,x=.bl c/\Q c H1
theorem cb{e:Expr}{t:TE}(h:PE X e t)(he:∀whole,isTrue e X.env whole=(do let v <-whole;standAt e.pos;holding [v] (truthy v)):=by intro _;rfl):PT X e (tB t):=by
 intro pins s σ H Q I hw;refine isTrue_plain (thn (h pins s σ H _ I hw) fun v s1 ⟨x,H1,I1,r1,q1⟩=>?_) (he _);obtain⟨d,rfl,q⟩:=q1;cases r1;exact Ic ⟨H1,I1,q⟩
variable{tA tB':TT}{cB:List Expr}
noncomputable def uY(t u:TT):TT:=fun σ H Q=>t σ H fun c H1=>if c=true then u σ H1 Q else Q false H1
noncomputable def tOr(t u:TT):TT:=fun σ H Q=>t σ H fun c H1=>if c=true then Q true H1 else u σ H1 Q
noncomputable def dX(t:TT):TT:=fun σ H Q=>t σ H fun c H1=>Q (!c) H1
theorem xy(ha:PT X a tA):PW X (.BoolOp .And [a] pos) tA:=by
 intro wh pins s σ H Q I h;refine isTrue_and (thn (ha pins s σ H Q I h) fun c s1 e=>?_);cases c with
 |true=>exact isTrue_and_nil e
 |false=>exact e
theorem mq(ha:PT X a tA):PW X (.BoolOp .Or [a] pos) tA:=by
 intro wh pins s σ H Q I h;refine isTrue_or (thn (ha pins s σ H Q I h) fun c s1 e=>?_);cases c with
 |false=>exact isTrue_or_nil e
 |true=>exact e
theorem uZ(ha:PT X a tA)(hb:PW X (.BoolOp .And (b::cB) pos) tB'):PW X (.BoolOp .And (a::b::cB) pos) (uY tA tB'):=by
 intro wh pins s σ H Q I h;refine isTrue_and (thn (ha pins s σ H _ I h) fun c s1 ⟨H1,I1,q1⟩=>?_);cases c with
 |true=>exact hb wh pins s1 σ H1 Q I1 q1
 |false=>exact⟨H1,I1,q1⟩
theorem pH(ha:PT X a tA)(hb:PW X (.BoolOp .Or (b::cB) pos) tB'):PW X (.BoolOp .Or (a::b::cB) pos) (tOr tA tB'):=by
 intro wh pins s σ H Q I h;refine isTrue_or (thn (ha pins s σ H _ I h) fun c s1 ⟨H1,I1,q1⟩=>?_);cases c with
 |true=>exact⟨H1,I1,q1⟩
 |false=>exact hb wh pins s1 σ H1 Q I1 q1
theorem cG(ha:PT X a tA):PT X (.UnaryOp .Not a pos) (dX tA):=by
 intro pins s σ H Q I h;exact isTrue_not (ha pins s σ H (fun c H1=>Q (!c) H1) I h)
noncomputable def ny(ta tb:TE):TE:=fun σ H Q=>ta σ H fun x H1=>∃c,x=.bl c/\if c=true then tb σ H1 Q else Q (.bl false) H1
noncomputable def Bg(ta tb:TE):TE:=fun σ H Q=>ta σ H fun x H1=>∃c,x=.bl c/\if c=true then Q (.bl true) H1 else tb σ H1 Q
noncomputable def uA(ta:TE):TE:=fun σ H Q=>ta σ H fun x H1=>∃c,x=.bl c/\Q (.bl (!c)) H1
theorem mr{op}{t:TE}(h:PE X a t):PE X (.BoolOp op [a] pos) t:=fun pins s σ H Q I hw=>BoolOp_one (h pins s σ H Q I hw)
theorem pI(ha:PE X a ta)(hb:PE X (.BoolOp .And (b::cB) pos) tb):PE X (.BoolOp .And (a::b::cB) pos) (ny ta tb):=by
 intro pins s σ H Q I h;refine BoolOp_and (thn (ha pins s σ H _ I h) fun v s1 ⟨x,H1,I1,r1,q1⟩=>?_);obtain⟨c,rfl,q1⟩:=q1;cases r1;refine Ic ?_;cases c with
 |true=>exact hb pins s1 σ H1 Q I1 q1
 |false=>exact⟨.bl false,H1,I1,rfl,q1⟩
theorem E4(ha:PE X a ta)(hb:PE X (.BoolOp .Or (b::cB) pos) tb):PE X (.BoolOp .Or (a::b::cB) pos) (Bg ta tb):=by
 intro pins s σ H Q I h;refine BoolOp_or (thn (ha pins s σ H _ I h) fun v s1 ⟨x,H1,I1,r1,q1⟩=>?_);obtain⟨c,rfl,q1⟩:=q1;cases r1;refine Ic ?_;cases c with
 |false=>exact hb pins s1 σ H1 Q I1 q1
 |true=>exact⟨.bl true,H1,I1,rfl,q1⟩
theorem zI(ha:PE X a ta):PE X (.UnaryOp .Not a pos) (uA ta):=by
 intro pins s σ H Q I h;refine UnaryOp_ (thn (ha pins s σ H _ I h) fun v s1 ⟨x,H1,I1,r1,q1⟩=>?_);obtain⟨c,rfl,q1⟩:=q1;cases r1;exact not_of (Ic ⟨.bl (!c),H1,I1,rfl,q1⟩)
noncomputable def tIf(t:TT)(ta tb:TE):TE:=fun σ H Q=>t σ H fun c H1=>if c=true then ta σ H1 Q else tb σ H1 Q
theorem Bh{c:Expr}(hc:PT X c tA)(ha:PE X a ta)(hb:PE X b tb):PE X (.IfExp c a b pos) (tIf tA ta tb):=by
 intro pins s σ H Q I h;refine wpAny_IfExp (thn (hc pins s σ H _ I h) fun d s1 ⟨H1,I1,q1⟩=>?_);cases d with
 |true=>exact ha pins s1 σ H1 Q I1 q1
 |false=>exact hb pins s1 σ H1 Q I1 q1
end
end L2
namespace L2
open PySem PySem.Spec PyProof.Rows
noncomputable def SqL(K:Fg)(H:Hp)(a:Addr)(xs:List V):Prop:=
 Rd H a (.lst xs)\/
  ∃(o:Obj)(its:Array Value)(n:Nat),K.lookup a=some o/\o.cls=.type "list"/\o.dict=none/\o.data=.seq its n/\its.size<=FY/\aA xs its.toList
noncomputable def SqT(K:Fg)(H:Hp)(a:Addr)(xs:List V):Prop:=
 Rd H a (.tup xs)\/
  ∃(o:Obj)(its:Array Value)(n:Nat),K.lookup a=some o/\o.cls=.type "tuple"/\o.data=.seq its n/\its.size<=FY/\aA xs its.toList
noncomputable def Fw:Value->Option V
 | .none=>some .non
 | .bool b=>some (.bl b)
 | .int i _=>some (.int i)
 | .str x _=>some (.str x)
 | .bytes b _=>some (.byt b)
 | .float b _=>some (.flt b)
 | .ref a=>some (.ref a)
 | .type n=>some (.ty n)
 |_=>none
theorem aB.abs{x:V}{u:Value}(r:aB x u):Fw u=some x:=by
 cases x with
 |non=>cases r;rfl
 |bl _=>cases r;rfl
 |int _=>obtain⟨t,rfl⟩:=r;rfl
 |str _=>obtain⟨t,rfl⟩:=r;rfl
 |byt _=>obtain⟨t,rfl⟩:=r;rfl
 |flt _=>obtain⟨t,rfl⟩:=r;rfl
 |ref _=>cases r;rfl
 |ty _=>cases r;rfl
theorem aB.inj{x y:V}{u:Value}(r:aB x u)(q:aB y u):x=y:=F1 (r.abs.symm.trans q.abs)
theorem aA.inj{xs ys:List V}{us:List Value}(h:aA xs us):aA ys us->xs=ys:=by
 induction h generalizing ys with
 |nil=>intro h;cases h;rfl
 |cons r t ih=>intro h;cases h with
  |cons r' t'=>rw[r.inj r',ih t']
section
variable{X:Cx}{pins:List (Addr×Obj)}{σ:St}{H:Hp}{s:Shared}{a:Addr}{xs ys:List V}
theorem SqL.of{K:Fg}(h:H a=some (.lst xs)):SqL K H a xs:=.inl (.inl h)
theorem SqT.of{K:Fg}(h:H a=some (.tup xs)):SqT K H a xs:=.inl (.inl h)
theorem Inv.list(I:Inv X pins σ H s)(h:SqL X.K H a xs):∃its:List Value,aA xs its/\PlainL s.heap a its.toArray/\xs.length<=FY:=by
 rcases h with h|⟨o,its,n,hk,hc,hd,hs,hz,r⟩
 ·obtain⟨z,its,n,r,e⟩:=h.ok I.hok
  exact⟨its,r,⟨_,n,e,rfl,rfl,rfl⟩,z⟩
 ·refine⟨its.toList,r,⟨o,n,I.kIn a o hk,hc,hd,by simpa using hs⟩,?_⟩
  have e:=r.length;simp only[Ja]at e;omega
theorem Inv.tuple(I:Inv X pins σ H s)(h:SqT X.K H a xs):∃its:List Value,aA xs its/\IsTup s.heap a its.toArray/\xs.length<=FY:=by
 rcases h with h|⟨o,its,n,hk,hc,hs,hz,r⟩
 ·obtain⟨z,its,r,p⟩:=h.ok I.hok
  exact⟨its,r,p.tup,z⟩
 ·refine⟨its.toList,r,⟨o,I.kIn a o hk,hc,n,by simpa using hs⟩,?_⟩
  have e:=r.length;simp only[Ja]at e;omega
theorem Inv.list_inj(I:Inv X pins σ H s)(h:SqL X.K H a xs)(h':SqL X.K H a ys):xs=ys:=by
 obtain⟨its,r,⟨o,n,e,_,_,d⟩,_⟩:=I.list h;obtain⟨its',r',⟨o',n',e',_,_,d'⟩,_⟩:=I.list h';rw[e]at e';cases e';rw[d]at d';injection d' with d1 _
 have:its=its':=by simpa using congrArg Array.toList d1
 subst this;exact r.inj r'
theorem Inv.tuple_inj(I:Inv X pins σ H s)(h:SqT X.K H a xs)(h':SqT X.K H a ys):xs=ys:=by
 obtain⟨its,r,⟨o,e,_,n,d⟩,_⟩:=I.tuple h;obtain⟨its',r',⟨o',e',_,n',d'⟩,_⟩:=I.tuple h';rw[e]at e';cases e';rw[d]at d';injection d' with d1 _
 have:its=its':=by simpa using congrArg Array.toList d1
 subst this;exact r.inj r'
end
noncomputable abbrev Cx.wish(X:Cx)(E:Value->Shared->Prop):Cx:={ X with xe:=E }
noncomputable abbrev Cx.nox(X:Cx):Cx:=X.wish fun _ _=>False
theorem Cx.Ok.wish{X:Cx}(ok:X.Ok)(E:Value->Shared->Prop):(X.wish E).Ok:=
 ⟨ok.mod,ok.kind,ok.glob,ok.blt,ok.above,ok.inj,ok.has,ok.cab,ok.hd,ok.frames,ok.stk,ok.exf,ok.bs,ok.bsz,ok.noex,ok.exfs,ok.funs,ok.frf⟩
theorem Cx.Ok.unwish{X:Cx}{E:Value->Shared->Prop}(ok:(X.wish E).Ok):X.Ok:=
 ⟨ok.mod,ok.kind,ok.glob,ok.blt,ok.above,ok.inj,ok.has,ok.cab,ok.hd,ok.frames,ok.stk,ok.exf,ok.bs,ok.bsz,ok.noex,ok.exfs,ok.funs,ok.frf⟩
section
variable{X:Cx}{pins:List (Addr×Obj)}{σ:St}{H:Hp}{s:Shared}{E:Value->Shared->Prop}
theorem Inv.wish(I:Inv X pins σ H s)(E:Value->Shared->Prop):Inv (X.wish E) pins σ H s:=⟨I.ok.wish E,I.os,I.bare,I.base,I.loc,I.cell,I.free,I.freeC,I.pin,I.hok,I.len⟩
theorem Inv.unwish(I:Inv (X.wish E) pins σ H s):Inv X pins σ H s:=⟨I.ok.unwish,I.os,I.bare,I.base,I.loc,I.cell,I.free,I.freeC,I.pin,I.hok,I.len⟩
theorem SP.unwish{D:ic}{f:Flow}{s':Shared}(h:SP (X.wish E) pins D f s'):SP X pins D f s':=by
 cases f with
 |next=>obtain⟨σ',H',I,q⟩:=h;exact⟨σ',H',I.unwish,q⟩
 |brk=>obtain⟨σ',H',I,q⟩:=h;exact⟨σ',H',I.unwish,q⟩
 |cont=>obtain⟨σ',H',I,q⟩:=h;exact⟨σ',H',I.unwish,q⟩
 |ret u=>obtain⟨v,σ',H',I,r,q⟩:=h;exact⟨v,σ',H',I.unwish,r,q⟩
theorem PE.nox{e:Expr}{t:TE}(h:PE X.nox e t):PE X e t:=fun pins s σ H Q I hw=>
 Hd (h pins s σ H Q (I.wish _) hw) (fun _ _ ⟨v,H',I',r,q⟩=>⟨v,H',I'.unwish,r,q⟩) fun _ _ z=>HN z
theorem PT.nox{e:Expr}{t:TT}(h:PT X.nox e t):PT X e t:=fun pins s σ H Q I hw=>
 Hd (h pins s σ H Q (I.wish _) hw) (fun _ _ ⟨H',I',q⟩=>⟨H',I'.unwish,q⟩) fun _ _ z=>HN z
theorem PSs.nox{st:List Stmt}{t:TS}(h:PSs X.nox st t):PSs X st t:=fun pins s σ H D I hw=>
 Hd (h pins s σ H D (I.wish _) hw) (fun _ _ q=>q.unwish) fun _ _ z=>HN z
end
section
variable{X:Cx}{st:Stmt}{cB:List Stmt}{t u:TS}{e:Expr}{te:TE}{pos:Pos}
noncomputable def aZ:TS:=fun D σ H=>D.nx σ H
noncomputable def ap(t u:TS):TS:=fun D σ H=>t { D with nx:=u D } σ H
theorem aK:PSs X [] aZ:=fun _ _ σ H _ I h=>Kl ⟨σ,H,I,h⟩
theorem ae(h1:PS X st t)(h2:PSs X cB u):PSs X (st::cB) (ap t u):=by
 intro pins s σ H D I h;refine NQ (thn (h1 pins s σ H { D with nx:=u D } I h) fun f s1 q=>?_);cases f with
 |next=>
  obtain⟨σ',H',I',q⟩:=q;exact h2 pins s1 σ' H' D I' q
 |ret v=>exact q
 |brk=>exact q
 |cont=>exact q
theorem ag(h1:PS X st t):PSs X [st] t:=by
 intro pins s σ H D I h;refine NQ (thn (h1 pins s σ H D I h) fun f s1 q=>?_);cases f with
 |next=>exact Kl q
 |ret v=>exact q
 |brk=>exact q
 |cont=>exact q
theorem Inv.quiet{pins:List (Addr×Obj)}{σ:St}{H:Hp}{s:Shared}(I:Inv X pins σ H s):interactive X.env=false:=by simp[interactive,I.ok.kind]
noncomputable def dY(te:TE):TS:=fun D σ H=>te σ H fun _ H1=>D.nx σ H1
theorem cR(he:PE X e te)(hs:LS e none pos.line X.env=pure false:=by rfl):PS X (.Expr e pos) (dY te):=by
 intro pins s σ H D I h;exact wpAny_Expr_any (thn (he pins s σ H _ I h) fun v s1 ⟨x,H1,I1,r1,q1⟩=>⟨σ,H1,I1,q1⟩) I.quiet hs
noncomputable def aG(te:TE):TS:=fun D σ H=>te σ H D.rt
theorem aw(he:PE X e te):PS X (.Return (some e) pos) (aG te):=by
 intro pins s σ H D I h;exact wpAny_Return_some (thn (he pins s σ H _ I h) fun v s1 ⟨x,H1,I1,r1,q1⟩=>⟨x,σ,H1,I1,r1,q1⟩)
noncomputable def bo(c:TT)(t u:TS):TS:=fun D σ H=>c σ H fun b H1=>if b=true then t D σ H1 else u D σ H1
theorem bd{c:Expr}{a b:List Stmt}{tc:TT}(hc:PT X c tc)(ha:PSs X a t)(hb:PSs X b u):PS X (.If c a b pos) (bo tc t u):=by
 intro pins s σ H D I h;refine wpAny_If (thn (hc pins s σ H _ I h) fun d s1 ⟨H1,I1,q1⟩=>?_);cases d with
 |true=>exact ha pins s1 σ H1 D I1 q1
 |false=>exact hb pins s1 σ H1 D I1 q1
noncomputable def mw:TS:=fun _ _ _=>False
theorem lc:PS X st mw:=fun _ _ _ _ _ _ h=>h.elim
end
noncomputable abbrev TG:=V->St->Hp->(St->Hp->Prop)->Prop
noncomputable abbrev TGs:=List V->St->Hp->(St->Hp->Prop)->Prop
noncomputable def PG(X:Cx)(target:Expr)(t:TG):Prop:=
 ∀(pins:List (Addr×Obj))(s:Shared)(σ:St)(H:Hp)(v:V)(u:Value)(Q:St->Hp->Prop),Inv X pins σ H s->aB v u->t v σ H Q->
  wpAny (model X.prog X.w) X.A (assign target X.env u) (fun _ s'=>∃σ' H',Inv X pins σ' H' s'/\Q σ' H') X.xe s
noncomputable def PGs(X:Cx)(ts:List Expr)(t:TGs):Prop:=
 ∀(pins:List (Addr×Obj))(s:Shared)(σ:St)(H:Hp)(vs:List V)(us:List Value)(Q:St->Hp->Prop),Inv X pins σ H s->aA vs us->t vs σ H Q->
  wpAny (model X.prog X.w) X.A (assignInOrder ((Km ts X.env).map (·.2)) us) (fun _ s'=>∃σ' H',Inv X pins σ' H' s'/\Q σ' H') X.xe s
noncomputable abbrev va:=V->V->V->Hp->(Hp->Prop)->Prop
noncomputable def ye(X:Cx)(t:va):Prop:=
 ∀(pins:List (Addr×Obj))(s:Shared)(σ:St)(H:Hp)(o i v:V)(ov iv u:Value)(Q:Hp->Prop),Inv X pins σ H s->aB o ov->aB i iv->aB v u->t o i v H Q->
  wpAny (model X.prog X.w) X.A (setItem ov iv u) (fun _ s'=>∃H',Inv X pins σ H' s'/\Q H') X.xe s
section
variable{X:Cx}{pos:Pos}
noncomputable def ai(i:Nat):TG:=fun v σ H Q=>Q (σ.set i (some v)) H
theorem xz{i:Nat}{x:Str}(hN:X.N.Nodup)(hi:X.N[i]?=some x)(hx:Loc X.env.scope x)(hf:X.fn x=true\/X.env.scope.names.lookup x=some .local:=by first|exact .inl rfl|exact .inr rfl|assumption):PG X (.Name x pos) (ai i):=by
 intro pins s σ H v u Q I r h;exact Nn (uX I hN hi hx r (fun s' I'=>⟨_,H,I',h⟩) hf)
noncomputable def gi:TGs:=fun vs σ H Q=>vs=[]/\Q σ H
noncomputable def bF(t:TG)(u:TGs):TGs:=fun vs σ H Q=>∃v r,vs=v::r/\t v σ H fun σ' H'=>u r σ' H' Q
theorem cS:PGs X [] gi:=by
 intro pins s σ H vs us Q I r h;obtain⟨e,h⟩:=h;subst e;cases r;exact assignInOrder_nil ⟨σ,H,I,h⟩
theorem bc{e:Expr}{es:List Expr}{t:TG}{u:TGs}(h1:PG X e t)(h2:PGs X es u)
  (hs:(Km (e::es) X.env).map (·.2)=assign e X.env::(Km es X.env).map (·.2):=by rfl):PGs X (e::es) (bF t u):=by
 intro pins s σ H vs us Q I r h;obtain⟨v,vr,e1,h⟩:=h;subst e1;cases r with
 |cons r rr=>
  rw[hs];refine assignInOrder_cons (thn (h1 pins s σ H _ _ _ I r h) fun _ s1 ⟨σ1,H1,I1,q1⟩=>?_);exact h2 pins s1 σ1 H1 _ _ Q I1 rr q1
noncomputable def gj(K:Fg)(n:Nat)(t:TGs):TG:=fun v σ H Q=>∃a xs,v=.ref a/\SqT K H a xs/\xs.length=n/\t xs σ H Q
theorem dI{es:List Expr}{k:Nat}{t:TGs}{n:Nat}(hc:X.calm=true)(h:PGs X es t)
  (hn:(Km es X.env).length=n:=by rfl) (hst:(Km es X.env).findIdx? (·.1)=none:=by rfl):PG X (.Tuple es k pos) (gj X.K n t):=by
 intro pins s σ H v u Q I r hw;obtain⟨a,xs,e1,hq,hl,hw⟩:=hw;subst e1;cases r;obtain⟨its,rv,ht,hz⟩:=I.tuple hq;refine assign_Tuple_tuple (I.ok.hd hc) ht (by simp[hn,<-hl,rv.length]) hst fun h' hx=>?_;have I1:Inv X pins σ H { s with heap:=h' }:=I.kept (t':=s.toks) fun b o e=>hx b o (GK (F4 e)) e;exact h pins _ σ H xs _ Q I1 (by simpa using rv) hw
noncomputable def km(to ti:TE)(t:va):TG:=fun v σ H Q=>to σ H fun o H1=>ti σ H1 fun i H2=>t o i v H2 fun H3=>Q σ H3
theorem jM{o i:Expr}{to ti:TE}{t:va}(ho:PE X o to)(hi:PE X i ti)(hs:ye X t)
  (ha:∀v,assign (.Subscript o i pos) X.env v=(do
   let ov <-holding [v] (eval o X.env)
   let iv <-holding [v,ov] (eval i X.env)
   standAt pos
   holding [v,ov,iv] (setItem ov iv v)
   release [v,ov,iv] []):=by intro _;rfl):PG X (.Subscript o i pos) (km to ti t):=by
 intro pins s σ H v u Q I r h;rw[ha];refine FM (HX (thn (ho pins s σ H _ I h) fun ov s1 ⟨x,H1,I1,r1,q1⟩=>?_));refine FM (HX (thn (hi pins s1 σ H1 _ I1 q1) fun iv s2 ⟨y,H2,I2,r2,q2⟩=>?_));refine FM (MN (FM (HX (thn (hs pins s2 σ H2 x y v ov iv u _ I2 r1 r2 r q2) fun _ s3 ⟨H3,I3,q3⟩=>?_))));exact wpAny_release ⟨σ,H3,I3,q3⟩
noncomputable def az(te:TE)(g:TG):TS:=fun D σ H=>te σ H fun x H1=>g x σ H1 D.nx
theorem i6{tg e:Expr}{te:TE}{g:TG}(he:PE X e te)(hg:PG X tg g)(hs:swapsWithSole [tg] e pos.line X.env=pure false:=by rfl)(hw:swappedStores [tg] e X.env=pure none:=by rfl)
  (h1:(Km [tg] X.env).map (·.2)=[assign tg X.env]:=by rfl):PS X (.Assign [tg] e pos) (az te g):=by
 intro pins s σ H D I h;refine wpAny_Assign_stores (thn (he pins s σ H _ I h) fun v s1 ⟨x,H1,I1,r1,q1⟩=>?_) hs hw;rw[h1];exact thn (hg pins s1 σ H1 x v _ I1 r1 q1) fun _ s2 q=>q
theorem pJ{i:Nat}{x:Str}{e:Expr}{te:TE}{pos':Pos}(hN:X.N.Nodup)(hi:X.N[i]?=some x)(hx:Loc X.env.scope x)(he:PE X e te)(hs:LS e (some (.Name x pos')) pos.line X.env=pure false:=by rfl)(hf:X.fn x=true\/X.env.scope.names.lookup x=some .local:=by first|exact .inl rfl|exact .inr rfl|assumption):
  PS X (.Assign [.Name x pos'] e pos) (az te (ai i)):=by
 intro pins s σ H D I h;refine wpAny_Assign_Name (thn (he pins s σ H _ I h) fun v s1 ⟨y,H1,I1,r1,q1⟩=>?_) hs;exact uX I1 hN hi hx r1 (fun s2 I2=>⟨_,H1,I2,q1⟩) hf
end
section
variable{X:Cx}{pos:Pos}
noncomputable def jN(c:TT)(tb:TS):TS:=fun D σ H=>∃W:Nat->St->Hp->Prop,(∃m,W m σ H)/\∀m σ H,W m σ H->
 c σ H fun b H1=>if b=true then∃N:St->Hp->Prop,(∀σ' H',N σ' H'->∃m',m'<m/\W m' σ' H')/\tb { D with nx:=N,ct:=N,bk:=D.nx } σ H1 else D.nx σ H1
theorem lf{c:Expr}{body:List Stmt}{tc:TT}{tb:TS}(hp:Gx (model X.prog X.w) X.A X.env X.xe)(hc:PT X c tc)(hb:PSs X body tb):PS X (.While c body [] pos) (jN tc tb):=by
 intro pins s σ H D I h;obtain⟨W,⟨m0,w0⟩,turn⟩:=h;refine wpAny_While (codeAny_whileLoop (fun n s'=>∃σ' H',Inv X pins σ' H' s'/\W n σ' H') ?_ m0 ⟨σ,H,I,w0⟩);rintro n s1 ⟨σ1,H1,I1,w1⟩;refine IH hp (thn (hc pins s1 σ1 H1 _ I1 (turn n σ1 H1 w1)) fun b s2 ⟨H2,I2,q2⟩=>?_);cases b with
 |true=>
  obtain⟨N,hN,q2⟩:=q2;rw[if_pos rfl];refine IH hp (thn (hb pins s2 σ1 H2 _ I2 q2) fun f s3 q3=>?_);cases f with
  |next=>
   obtain⟨σ3,H3,I3,n3⟩:=q3;obtain⟨m',hm,w3⟩:=hN σ3 H3 n3;exact⟨m',hm,σ3,H3,I3,w3⟩
  |cont=>
   obtain⟨σ3,H3,I3,n3⟩:=q3;obtain⟨m',hm,w3⟩:=hN σ3 H3 n3;exact⟨m',hm,σ3,H3,I3,w3⟩
  |brk=>exact q3
  |ret v=>exact q3
 |false=>
  rw[if_neg F3];exact Kl ⟨σ1,H2,I2,q2⟩
end
set_option genInjectivity false in
structure It where
 go:Nat->Hp->Prop
 yld:Nat->Hp->V->Hp->Prop
 stop:Nat->Hp->Prop
noncomputable def jl(X:Cx)(pins:List (Addr×Obj))(H:Hp)(b:Addr):Prop:=
 H b=none/\b≠X.env.locals/\b∉X.fs/\(b∈X.ex\/X.s₀.heap.objs.size<=b)/\(∀x c,X.env.cells.lookup x=some c->c≠b)/\∀p∈X.pn++pins,p.1≠b
theorem Inv.fpOk{X:Cx}{pins:List (Addr×Obj)}{σ:St}{H H':Hp}{s:Shared}{b:Addr}(I:Inv X pins σ H s)(hb:s.heap.objs.size<=b)(hn:H' b=none):jl X pins H' b:=by
 refine⟨hn,Iq (Gg I.lt hb),I.nofs hb,.inr (Gs I.sz hb),fun x c e z=>?_,fun p hp z=>?_⟩
 ·obtain⟨v,q⟩:=I.cell x c e
  exact absurd (Gg q.lt (by rw[z];exact hb)) (Hr _)
 ·exact absurd (Gg (F4 (I.pin p hp).1) (by rw[z];exact hb)) (Hr _)
structure cp(P:Program)(w:World)(K:Fg)(tg:Expr)(J:It)(fp:List Addr)(it:Addr)(tn:Nat->Heap->Prop):Prop where
 mem:it∈fp
 obj:∀i h,tn i h->∀b∈fp,∃o,h.get? b=some o/\∀v,o.data≠.cell v
 keep:∀i h h',tn i h->(∀b∈fp,∀o,h.get? b=some o->h'.get? b=some o)->tn i h'
 item:∀(X:Cx),X.prog=P->X.w=w->X.K=K->X.calm=true->∀(i:Nat)(pins:List (Addr×Obj))(s:Shared)(σ:St)(H:Hp)(E:Value->Shared->Prop),Inv X pins σ H s->(∀b∈fp,jl X pins H b)->tn i s.heap->J.go i H->
  wpAny (model P w) X.A (pyNext (.ref it)) (fun r s1=>∃u,r=some u/\
   wpAny (model P w) X.A (Kn tg (.ref it) u) (fun _ s2=>∃x H',Inv X pins σ H' s2/\aB x u/\J.yld i H x H'/\tn (i+1) s2.heap/\∀b∈fp,H' b=none) E s1) E s
 done:∀(X:Cx),X.prog=P->X.w=w->X.K=K->X.calm=true->∀(i:Nat)(pins:List (Addr×Obj))(s:Shared)(σ:St)(H:Hp)(E:Value->Shared->Prop),Inv X pins σ H s->(∀b∈fp,jl X pins H b)->tn i s.heap->J.stop i H->
  wpAny (model P w) X.A (pyNext (.ref it)) (fun r s1=>r=none/\Inv X pins σ H s1) E s
 self:∀(A:Around)(i:Nat)(s:Shared)(Q:Value->Shared->Prop)(E:Value->Shared->Prop),tn i s.heap->Q (.ref it) s->wpAny (model P w) A (pyIter (.ref it)) Q E s
noncomputable abbrev TI:=St->Hp->(It->Hp->Prop)->Prop
noncomputable def PIE(X:Cx)(pins:List (Addr×Obj))(σ:St)(tg:Expr)(R:It->Hp->Prop)(itv:Value)(s2:Shared):Prop:=
 ∃(it:Addr)(fp:List Addr)(tn:Nat->Heap->Prop)(J:It)(H':Hp),itv=.ref it/\Inv X pins σ H' s2/\cp X.prog X.w X.K tg J fp it tn/\tn 0 s2.heap/\(∀b∈fp,jl X pins H' b)/\R J H'
noncomputable def PI(X:Cx)(tg iter:Expr)(wi:TI):Prop:=
 ∀(pins:List (Addr×Obj))(s:Shared)(σ:St)(H:Hp)(R:It->Hp->Prop),Inv X pins σ H s->wi σ H R->
  wpAny (model X.prog X.w) X.A (eval iter X.env) (fun v s1=>wpAny (model X.prog X.w) X.A (pyIter v) (PIE X pins σ tg R) X.xe s1) X.xe s
theorem yf{M: Model}{A: Around}{E: Value → Shared → Prop}{s: Shared}{tg: Expr}{it: Addr}{u: Value}{o: Obj}{n: String}{vs: Array Value}{Q: Unit → Shared → Prop}(ho: s.heap.get? it= some o)(hc: o.cls= .type n)(hd: o.data= .fields vs)
    (hn: ["enumerate", "zip", "dict_itemiterator", "dict_reverseitemiterator", "odict_iterator", "itertools.zip_longest", "itertools.pairwise"].contains n= false) (hQ: Q () s): wpAny M A (Kn tg (.ref it) u) Q E s:= by
  unfold Kn;cases tg<;>first
    |exact FT hQ
    | (cases u<;>first
        |exact FT hQ
        | (refine FM (wpAny_load ho ?_)
           rw[hc, hd];show wpAny M A (if(["enumerate", "zip", "dict_itemiterator", "dict_reverseitemiterator", "odict_iterator", "itertools.zip_longest", "itertools.pairwise"].contains n&&vs[0]? ==some (rawInt _))= true then _ else _) Q E s;rw[if_neg (by intro h;rw[hn, KL]at h;cases h)];exact FT hQ))
noncomputable def Itl(K:Fg)(a:Addr):It:=
 ⟨fun i H=>∃xs x,SqL K H a xs/\xs[i]?=some x,fun i H x H'=>H'=H/\∀xs,SqL K H a xs->xs[i]?=some x,fun i H=>∃xs,SqL K H a xs/\xs.length<=i⟩
noncomputable def Itt(K:Fg)(a:Addr):It:=
 ⟨fun i H=>∃xs x,SqT K H a xs/\xs[i]?=some x,fun i H x H'=>H'=H/\∀xs,SqT K H a xs->xs[i]?=some x,fun i H=>∃xs,SqT K H a xs/\xs.length<=i⟩
noncomputable def Itr(lo:Int)(n:Nat):It:=⟨fun i _=>i<n,fun i H x H'=>H'=H/\x=.int (lo+i),fun i _=>n<=i⟩
theorem zJ{P:Program}{w:World}{K:Fg}{tg:Expr}(a it:Addr):cp P w K tg (Itl K a) [it] it (fun i h=>h.IsListIter it a i) where
 mem:=by simp
 obj:=fun i h st b hb=>by
  have e:b=it:=by simpa using hb
  subst e;obtain⟨o,e,c,d⟩:=st;exact⟨o,e,fun v z=>by rw[d]at z;cases z⟩
 keep:=fun i h h' st k=>st.at fun o e=>k it (by simp) o e
 item:=by
  intro X hP hw hK hc i pins s σ H E I hf st hg;subst hP hw hK;obtain⟨xs,x,hq,hx⟩:=hg;obtain⟨its,rv,p,hz⟩:=I.list hq;obtain⟨u,hu,ru⟩:=rv.get hx;obtain⟨f0,f1,f2,f3,f4,f5⟩:=hf it (by simp);refine wpAny_pyNext_list_item st p.isList (x:=u) (by simpa using hu) fun h' st' sb=>?_;have I1:Inv X pins σ H { s with heap:=h' }:=I.turned (t':=s.toks) (fun b o hb e=>(sb.2 b hb).trans e) f0 f1 f3 f4 f5;obtain⟨o,e,c,d⟩:=id st';exact⟨u,rfl,yf (s:={ s with heap:=h' }) e c d (by decide) ⟨x,H,I1,ru,⟨rfl,fun ys hy=>by rw[I.list_inj hy hq];exact hx⟩,st',fun b hb=>(hf b hb).1⟩⟩
 done:=by
  intro X hP hw hK hc i pins s σ H E I hf st hg;subst hP hw hK;obtain⟨xs,hq,hx⟩:=hg;obtain⟨its,rv,p,hz⟩:=I.list hq;obtain⟨f0,f1,f2,f3,f4,f5⟩:=hf it (by simp);have hl:=rv.length;exact wpAny_pyNext_list_end (I.ok.hd hc) st p.isList (by simp;omega) fun h' eb=>⟨rfl,I.turned (t':=s.toks) (fun b o hb e=>eb b o hb e) f0 f1 f3 f4 f5⟩
 self:=fun _ _ _ _ _ st h=>wpAny_pyIter_listiter st h
theorem yg{P:Program}{w:World}{K:Fg}{tg:Expr}(a it:Addr):cp P w K tg (Itt K a) [it] it (fun i h=>h.IsTupleIter it a i) where
 mem:=by simp
 obj:=fun i h st b hb=>by
  have e:b=it:=by simpa using hb
  subst e;obtain⟨o,e,c,d⟩:=st;exact⟨o,e,fun v z=>by rw[d]at z;cases z⟩
 keep:=fun i h h' st k=>st.at fun o e=>k it (by simp) o e
 item:=by
  intro X hP hw hK hc i pins s σ H E I hf st hg;subst hP hw hK;obtain⟨xs,x,hq,hx⟩:=hg;obtain⟨its,rv,p,hz⟩:=I.tuple hq;obtain⟨u,hu,ru⟩:=rv.get hx;obtain⟨f0,f1,f2,f3,f4,f5⟩:=hf it (by simp);refine wpAny_pyNext_tuple_item st (show s.heap.IsTuple a its.toArray from p) (x:=u) (by simpa using hu) fun h' st' sb=>?_;have I1:Inv X pins σ H { s with heap:=h' }:=I.turned (t':=s.toks) (fun b o hb e=>(sb.2 b hb).trans e) f0 f1 f3 f4 f5;obtain⟨o,e,c,d⟩:=id st';exact⟨u,rfl,yf (s:={ s with heap:=h' }) e c d (by decide) ⟨x,H,I1,ru,⟨rfl,fun ys hy=>by rw[I.tuple_inj hy hq];exact hx⟩,st',fun b hb=>(hf b hb).1⟩⟩
 done:=by
  intro X hP hw hK hc i pins s σ H E I hf st hg;subst hP hw hK;obtain⟨xs,hq,hx⟩:=hg;obtain⟨its,rv,p,hz⟩:=I.tuple hq;obtain⟨f0,f1,f2,f3,f4,f5⟩:=hf it (by simp);have hl:=rv.length;exact wpAny_pyNext_tuple_end (I.ok.hd hc) st (show s.heap.IsTuple a its.toArray from p) (by simp;omega) fun h' eb=>⟨rfl,I.turned (t':=s.toks) (fun b o hb e=>eb b o hb e) f0 f1 f3 f4 f5⟩
 self:=fun _ _ _ _ _ st h=>wpAny_pyIter_tupleiter st h
theorem yh{P:Program}{w:World}{K:Fg}{tg:Expr}(it:Addr)(lo:Int)(n:Nat):cp P w K tg (Itr lo n) [it] it (fun i h=>IsRangeIter h it (lo+(i:Nat)*1) ((n:Int)-(i:Nat)) 1) where
 mem:=by simp
 obj:=fun i h st b hb=>by
  have e:b=it:=by simpa using hb
  subst e;exact⟨_,st,fun v z=>by
   have z':Data.fields _=Data.cell v:=z;cases z'⟩
 keep:=fun i h h' st k=>k it (by simp) _ st
 item:=by
  intro X hP hw hK hc i pins s σ H E I hf st hg;subst hP hw hK;obtain⟨f0,f1,f2,f3,f4,f5⟩:=hf it (by simp);have W:=Walks.range (prog:=X.prog) (w:=X.w) (I.ok.hd hc) it lo 1 n;refine W.item i s _ _ hg st fun v h' tk hv st' kk=>?_;obtain⟨t,rfl⟩:=hv;have I1:Inv X pins σ H { s with heap:=h',toks:=tk }:=I.turned (fun b o hb e=>kk b o (by simpa using hb) e) f0 f1 f3 f4 f5;refine⟨_,rfl,yf (s:={ s with heap:=h',toks:=tk }) (n:="range_iterator") st' rfl rfl (by decide) ⟨.int (lo+i),H,I1,⟨t,?_⟩,⟨rfl,rfl⟩,st',fun b hb=>(hf b hb).1⟩⟩;rw[Int.mul_one]
 done:=by
  intro X hP hw hK hc i pins s σ H E I hf st hg;subst hP hw hK;obtain⟨f0,f1,f2,f3,f4,f5⟩:=hf it (by simp);exact wpAny_pyNext_range_end (I.ok.hd hc) st (by have:n<=i:=hg;omega) fun h' eb=>⟨rfl,I.turned (t':=s.toks) (fun b o hb e=>eb b o hb e) f0 f1 f3 f4 f5⟩
 self:=fun _ _ _ _ _ st h=>wpAny_pyIter_rangeiter st h
end L2
namespace L2
open PySem PySem.Spec PyProof.Rows
section
variable{X:Cx}{tg:Expr}
noncomputable def dc(K:Fg)(tl:TE):TI:=fun σ H R=>tl σ H fun x H1=>∃a,x=.ref a/\(∃xs,SqL K H1 a xs)/\R (Itl K a) H1
noncomputable def mz(K:Fg)(tl:TE):TI:=fun σ H R=>tl σ H fun x H1=>∃a,x=.ref a/\(∃xs,SqT K H1 a xs)/\R (Itt K a) H1
theorem ci{l:Expr}{tl:TE}(hl:PE X l tl):PI X tg l (dc X.K tl):=by
 intro pins s σ H R I h;refine thn (hl pins s σ H _ I h) fun v s1 ⟨x,H1,I1,r1,q1⟩=>?_;obtain⟨a,e,⟨xs,hq⟩,q⟩:=q1;subst e;cases r1;obtain⟨its,rv,p,hz⟩:=I1.list hq;refine JW p.isList ?_;refine⟨s1.heap.objs.size,[s1.heap.objs.size],_,_,H1,rfl,I1.kept (t':=s1.toks) fun b o e=>FP _ e,zJ a _,⟨_,F9 _ rfl,rfl,rfl⟩,fun b hb=>?_,q⟩;have e:b=s1.heap.objs.size:=by simpa using hb
 subst e;exact I1.fpOk (FU _) (I1.hok.fresh (FU _))
theorem mB{l:Expr}{tl:TE}(hl:PE X l tl):PI X tg l (mz X.K tl):=by
 intro pins s σ H R I h;refine thn (hl pins s σ H _ I h) fun v s1 ⟨x,H1,I1,r1,q1⟩=>?_;obtain⟨a,e,⟨xs,hq⟩,q⟩:=q1;subst e;cases r1;obtain⟨its,rv,p,hz⟩:=I1.tuple hq;refine M5 (show s1.heap.IsTuple a its.toArray from p) ?_;refine⟨s1.heap.objs.size,[s1.heap.objs.size],_,_,H1,rfl,I1.kept (t':=s1.toks) fun b o e=>FP _ e,yg a _,⟨_,F9 _ rfl,rfl,rfl⟩,fun b hb=>?_,q⟩;have e:b=s1.heap.objs.size:=by simpa using hb
 subst e;exact I1.fpOk (FU _) (I1.hok.fresh (FU _))
theorem Bi{pins:List (Addr×Obj)}{σ:St}{H:Hp}{s:Shared}{R:It->Hp->Prop}{E:Value->Shared->Prop}{lo hi:Int}{t u v:Tok}{tk:Nat}(I:Inv X pins σ H s)(h1:-(2^62)<=lo)(h2:lo<2^62)(h3:-(2^62)<=hi)(h4:hi<2^62)
  (q:R (Itr lo (hi-lo).toNat) H):wpAny (model X.prog X.w) X.A (pyIter (.ref s.heap.objs.size)) (PIE X pins σ tg R) E { s with heap:=s.heap.push { cls:=.type "range",data:=.fields #[.int lo t,.int hi u,.int 1 v] },toks:=tk }:=by
 refine wpAny_pyIter_range (IsRange.new ..) (Oo h1 h2 h3 h4) ?_;have I1:Inv X pins σ H { s with heap:=s.heap.push { cls:=.type "range",data:=.fields #[.int lo t,.int hi u,.int 1 v] },toks:=tk }:=I.kept fun b o e=>FP _ e;refine⟨(s.heap.push { cls:=.type "range",data:=.fields #[.int lo t,.int hi u,.int 1 v] }).objs.size,[(s.heap.push { cls:=.type "range",data:=.fields #[.int lo t,.int hi u,.int 1 v] }).objs.size],_,_,H,rfl,
  I1.kept (t':=tk) fun b o e=>FP _ e,yh _ lo (hi-lo).toNat,?_,fun b hb=>?_,q⟩
 ·have e1:lo+((0:Nat):Int)*1=lo:=by simp
  have e2:(((hi-lo).toNat:Nat):Int)-((0:Nat):Int)=JR lo hi 1:=by rw[MO];split<;>omega
  show IsRangeIter _ _ (lo+((0:Nat):Int)*1) ((((hi-lo).toNat:Nat):Int)-((0:Nat):Int)) 1;rw[e1,e2];exact F9 _ rfl
 ·have e:b=(s.heap.push { cls:=.type "range",data:=.fields #[.int lo t,.int hi u,.int 1 v] }).objs.size:=by simpa using hb
  subst e;exact I1.fpOk (FU _) (I1.hok.fresh (FU _))
noncomputable def dD(ta:TA):TI:=fun σ H R=>ta σ H fun vs H1=>∃j:Int,vs=[.int j]/\-(2^62)<=j/\j<2^62/\R (Itr 0 j.toNat) H1
theorem bS{a:Expr}{ta:TA}{p pos:Pos}(hg:Gl X "range")(hm:X.mg "range"=none)(ha:PA X [a] ta)(hs:Gf [a] X.env=[(false,eval a X.env)]:=by rfl):PI X tg (.Call (.Name "range" p) [a] [] pos) (dD ta):=by
 intro pins s σ H R I h;refine Call_ (i5 I hg hm N6 (Hl (thn (ha pos pins s σ H _ I h) fun us s1 ⟨vs,H1,I1,r1,q1⟩=>?_) hs rfl));obtain⟨j,e,q1,q2,q⟩:=q1;subst e;cases r1 with
 |cons r rr=>
  cases rr;obtain⟨t,rfl⟩:=r;exact call_range_1 (Bi I1 (by omega) (by omega) q1 q2 (by simpa using q))
noncomputable def cc(wi:TI)(g:TG)(tb:TS):TS:=fun D σ H=>wi σ H fun J H1=>∃W:Nat->Nat->St->Hp->Prop,(∃m,W 0 m σ H1)/\∀i m σ H,W i m σ H->
 (J.stop i H/\D.nx σ H)\/(J.go i H/\∃N:St->Hp->Prop,(∀σ' H',N σ' H'->∃m',m'<m/\W (i+1) m' σ' H')/\∀x H',J.yld i H x H'->g x σ H' fun σ2 H2=>tb { D with nx:=N,ct:=N,bk:=D.nx } σ2 H2)
noncomputable def mC(fp:List Addr)(h:Heap):List (Addr×Obj):=fp.filterMap fun b=>(h.get? b).map fun o=>(b,o)
theorem jv{fp:List Addr}{h:Heap}{b:Addr}{o:Obj}(hb:b∈fp)(e:h.get? b=some o):(b,o)∈mC fp h:=KY.mpr ⟨b,hb,by rw[e];rfl⟩
theorem zK{fp:List Addr}{h:Heap}{p:Addr×Obj}(hp:p∈mC fp h):p.1∈fp/\h.get? p.1=some p.2:=by
 obtain⟨b,hb,e⟩:=KY.mp hp;cases q:h.get? b with
 |none=>rw[q]at e;cases e
 |some o=>
  rw[q]at e;have e':(b,o)=p:=F1 e;subst e';exact⟨hb,q⟩
theorem Inv.pinned{pins:List (Addr×Obj)}{σ:St}{H:Hp}{s:Shared}{fp:List Addr}(I:Inv X pins σ H s)(hf:∀b∈fp,jl X pins H b)(ho:∀b∈fp,∃o,s.heap.get? b=some o/\∀v,o.data≠.cell v):Inv X (pins++mC fp s.heap) σ H s:=
 I.pins_of fun p hp=>(Gv.mp hp).elim (fun z=>I.pin p (GB _ z)) fun z=>by
  obtain⟨hb,e⟩:=zK z;obtain⟨f0,f1,f2,_⟩:=hf p.1 hb;obtain⟨o,e',d⟩:=ho p.1 hb;rw[e]at e';cases e';exact⟨e,f0,f1,f2,d⟩
theorem Inv.unpinned{pins pl:List (Addr×Obj)}{σ:St}{H:Hp}{s:Shared}(I:Inv X (pins++pl) σ H s):Inv X pins σ H s:=I.pins_of fun p hp=>I.pin p (GB _ (G8 _ hp))
theorem bz{iter:Expr}{body:List Stmt}{wi:TI}{g:TG}{tb:TS}{pos:Pos}(hp:Gx (model X.prog X.w) X.A X.env X.xe)(hc:X.calm=true)(hi:PI X tg iter wi)(hg:PG X tg g)(hb:PSs X body tb)
  (hs:∀x,Ln iter X.env x=pure x:=by intro _;rfl):PS X (.For tg iter body [] pos) (cc wi g tb):=by
 intro pins s σ H D I h;refine wpAny_For (thn (hi pins s σ H _ I h) fun v s1 h1=>thn h1 fun itv s2 h2=>?_) hs;obtain⟨it,fp,tn,J,H2,e,I2,T,st2,f2,W,⟨m0,w0⟩,turn⟩:=h2;subst e;have stat:∀{H':Hp},(∀b∈fp,H' b=none)->∀b∈fp,jl X pins H' b:=fun hn b hb=>⟨hn b hb,(f2 b hb).2⟩;refine codeAny_forLoop_any (fun n s'=>∃i σ' H',Inv X pins σ' H' s'/\tn i s'.heap/\(∀b∈fp,H' b=none)/\W i n σ' H') ?_ m0 ⟨0,σ,H2,I2,st2,fun b hb=>(f2 b hb).1,w0⟩;rintro n s3 ⟨i,σ3,H3,I3,st3,fr3,w3⟩;rcases turn i n σ3 H3 w3 with⟨stop,qn⟩|⟨go,N,hN,step⟩
 ·refine IH hp (thn (T.done X rfl rfl rfl hc i pins s3 σ3 H3 X.xe I3 (stat fr3) st3 stop) fun r s4 ⟨hr,I4⟩=>?_)
  subst hr;exact Kl ⟨σ3,H3,I4,qn⟩
 ·refine IH hp (thn (T.item X rfl rfl rfl hc i pins s3 σ3 H3 X.xe I3 (stat fr3) st3 go) fun r s4 ⟨u,hr,h4⟩=>?_)
  subst hr;refine IH hp (thn h4 fun _ s5 ⟨x,H5,I5,r5,y5,st5,fr5⟩=>?_);have I5':=I5.pinned (stat fr5) (T.obj _ _ st5);refine IH hp (thn (hg _ s5 σ3 H5 x u _ I5' r5 (step x H5 y5)) fun _ s6 ⟨σ6,H6,I6,q6⟩=>?_);refine IH hp (thn (hb _ s6 σ6 H6 _ I6 q6) fun f s7 q7=>?_);have again:∀{σ7:St} {H7:Hp},Inv X (pins++mC fp s5.heap) σ7 H7 s7->N σ7 H7->∃m,m<n/\∃i σ' H',Inv X pins σ' H' s7/\tn i s7.heap/\(∀b∈fp,H' b=none)/\W i m σ' H':=fun{σ7 H7} I7 n7=>by
   obtain⟨m',hm,w7⟩:=hN σ7 H7 n7;refine⟨m',hm,i+1,σ7,H7,I7.unpinned,T.keep _ _ _ st5 fun b hb o e=>(I7.pin (b,o) (GB _ (GB _ (jv hb e)))).1,fun b hb=>?_,w7⟩;obtain⟨o,e,d⟩:=T.obj _ _ st5 b hb;exact(I7.pin (b,o) (GB _ (GB _ (jv hb e)))).2.1
  cases f with
  |next=>obtain⟨σ7,H7,I7,n7⟩:=q7;exact again I7 n7
  |cont=>obtain⟨σ7,H7,I7,n7⟩:=q7;exact again I7 n7
  |brk=>obtain⟨σ7,H7,I7,q7⟩:=q7;exact⟨σ7,H7,I7.unpinned,q7⟩
  |ret v=>obtain⟨x7,σ7,H7,I7,r7,q7⟩:=q7;exact⟨x7,σ7,H7,I7.unpinned,r7,q7⟩
end
theorem oQ{K:Fg}{a:Addr}{xs:List V}{g:TG}{tb:TS}{D:ic}{σ:St}{H:Hp}(Pv:Nat->St->Hp->Prop)(h0:Pv 0 σ H)(hl:∀i σ H,i<=xs.length->Pv i σ H->SqL K H a xs)
  (hs:∀i x σ H,xs[i]?=some x->Pv i σ H->g x σ H fun σ2 H2=>tb { D with nx:=Pv (i+1),ct:=Pv (i+1),bk:=D.nx } σ2 H2) (hd:∀σ H,Pv xs.length σ H->D.nx σ H):
  ∃W:Nat->Nat->St->Hp->Prop,(∃m,W 0 m σ H)/\∀i m σ H,W i m σ H->
   ((Itl K a).stop i H/\D.nx σ H)\/((Itl K a).go i H/\∃N:St->Hp->Prop,(∀σ' H',N σ' H'->∃m',m'<m/\W (i+1) m' σ' H')/\∀x H',(Itl K a).yld i H x H'->g x σ H' fun σ2 H2=>tb { D with nx:=N,ct:=N,bk:=D.nx } σ2 H2):=by
 refine⟨fun i m σ H=>m=xs.length-i/\i<=xs.length/\Pv i σ H,⟨xs.length,by simp,GH _,h0⟩,?_⟩;rintro i m σ H ⟨rfl,hi,p⟩;have q:=hl i σ H hi p;by_cases hlt:i<xs.length
 ·refine .inr ⟨⟨xs,xs[i],q,by simp[hlt]⟩,Pv (i+1),fun σ' H' p'=>⟨xs.length-(i+1),by omega,rfl,hlt,p'⟩,fun x H' y=>?_⟩
  obtain⟨e,y⟩:=y;subst e;exact hs i x σ _ (y xs q) p
 ·have e:i=xs.length:=by omega
  subst e;exact .inl ⟨⟨xs,q,FU _⟩,hd σ H p⟩
theorem CW{K:Fg}{a:Addr}{xs:List V}{g:TG}{tb:TS}{D:ic}{σ:St}{H:Hp}(Pv:Nat->St->Hp->Prop)(h0:Pv 0 σ H)(hl:∀i σ H,i<=xs.length->Pv i σ H->SqT K H a xs)
  (hs:∀i x σ H,xs[i]?=some x->Pv i σ H->g x σ H fun σ2 H2=>tb { D with nx:=Pv (i+1),ct:=Pv (i+1),bk:=D.nx } σ2 H2) (hd:∀σ H,Pv xs.length σ H->D.nx σ H):
  ∃W:Nat->Nat->St->Hp->Prop,(∃m,W 0 m σ H)/\∀i m σ H,W i m σ H->
   ((Itt K a).stop i H/\D.nx σ H)\/((Itt K a).go i H/\∃N:St->Hp->Prop,(∀σ' H',N σ' H'->∃m',m'<m/\W (i+1) m' σ' H')/\∀x H',(Itt K a).yld i H x H'->g x σ H' fun σ2 H2=>tb { D with nx:=N,ct:=N,bk:=D.nx } σ2 H2):=by
 refine⟨fun i m σ H=>m=xs.length-i/\i<=xs.length/\Pv i σ H,⟨xs.length,by simp,GH _,h0⟩,?_⟩;rintro i m σ H ⟨rfl,hi,p⟩;have q:=hl i σ H hi p;by_cases hlt:i<xs.length
 ·refine .inr ⟨⟨xs,xs[i],q,by simp[hlt]⟩,Pv (i+1),fun σ' H' p'=>⟨xs.length-(i+1),by omega,rfl,hlt,p'⟩,fun x H' y=>?_⟩
  obtain⟨e,y⟩:=y;subst e;exact hs i x σ _ (y xs q) p
 ·have e:i=xs.length:=by omega
  subst e;exact .inl ⟨⟨xs,q,FU _⟩,hd σ H p⟩
theorem mD{lo:Int}{n:Nat}{g:TG}{tb:TS}{D:ic}{σ:St}{H:Hp}(Pv:Nat->St->Hp->Prop)(h0:Pv 0 σ H)
  (hs:∀i σ H,i<n->Pv i σ H->g (.int (lo+i)) σ H fun σ2 H2=>tb { D with nx:=Pv (i+1),ct:=Pv (i+1),bk:=D.nx } σ2 H2) (hd:∀σ H,Pv n σ H->D.nx σ H):
  ∃W:Nat->Nat->St->Hp->Prop,(∃m,W 0 m σ H)/\∀i m σ H,W i m σ H->
   ((Itr lo n).stop i H/\D.nx σ H)\/((Itr lo n).go i H/\∃N:St->Hp->Prop,(∀σ' H',N σ' H'->∃m',m'<m/\W (i+1) m' σ' H')/\∀x H',(Itr lo n).yld i H x H'->g x σ H' fun σ2 H2=>tb { D with nx:=N,ct:=N,bk:=D.nx } σ2 H2):=by
 refine⟨fun i m σ H=>m=n-i/\i<=n/\Pv i σ H,⟨n,by simp,GH _,h0⟩,?_⟩;rintro i m σ H ⟨rfl,hi,p⟩;by_cases hlt:i<n
 ·refine .inr ⟨hlt,Pv (i+1),fun σ' H' p'=>⟨n-(i+1),by omega,rfl,hlt,p'⟩,fun x H' y=>?_⟩
  obtain⟨e,y⟩:=y;subst e y;exact hs i σ _ hlt p
 ·have e:i=n:=by omega
  subst e;exact .inl ⟨FU _,hd σ H p⟩
end L2
namespace L2
open PySem PySem.Spec PyProof.Rows
noncomputable abbrev R2:=V->V->Hp->VK->Prop
noncomputable def OpR(X:Cx)(f:Value->Value->Sem Value)(r:R2):Prop:=
 ∀(pins:List (Addr×Obj))(s:Shared)(σ:St)(H:Hp)(x y:V)(v u:Value)(Q:VK),Inv X pins σ H s->aB x v->aB y u->r x y H Q->
  wpAny (model X.prog X.w) X.A (f v u) (EP X pins σ Q) X.xe s
noncomputable def UnR(X:Cx)(f:Value->Sem Value)(r:V->Hp->VK->Prop):Prop:=
 ∀(pins:List (Addr×Obj))(s:Shared)(σ:St)(H:Hp)(x:V)(v:Value)(Q:VK),Inv X pins σ H s->aB x v->r x H Q->
  wpAny (model X.prog X.w) X.A (f v) (EP X pins σ Q) X.xe s
noncomputable def bP(X:Cx)(f:Value)(r:List V->Hp->VK->Prop):Prop:=
 ∀(pins:List (Addr×Obj))(s:Shared)(σ:St)(H:Hp)(xs:List V)(us:List Value)(Q:VK),Inv X pins σ H s->aA xs us->r xs H Q->
  wpAny (model X.prog X.w) X.A (call f us) (EP X pins σ Q) X.xe s
noncomputable def tOp(r:R2)(ta tb:TE):TE:=fun σ H Q=>ta σ H fun x H1=>tb σ H1 fun y H2=>r x y H2 Q
noncomputable def tUn(r:V->Hp->VK->Prop)(ta:TE):TE:=fun σ H Q=>ta σ H fun x H1=>r x H1 Q
noncomputable def rI(C:Int->Int->Prop)(g:Int->Int->V):R2:=fun x y H Q=>∃i j,x=.int i/\y=.int j/\C i j/\Q (g i j) H
noncomputable def rI0(g:Int->Int->V):R2:=fun x y H Q=>∃i j,x=.int i/\y=.int j/\Q (g i j) H
noncomputable def rU(g:Int->V):V->Hp->VK->Prop:=fun x H Q=>∃i,x=.int i/\Q (g i) H
section
variable{X:Cx}{a b c:Expr}{ta tb tc:TE}{pos:Pos}
theorem Bj(ha:PE X a ta)(hb:PE X b tb){pins:List (Addr×Obj)}{s:Shared}{σ:St}{H:Hp}{R:V->V->Hp->Prop}(I:Inv X pins σ H s)
  (h:ta σ H fun x H1=>tb σ H1 fun y H2=>R x y H2) {Q:Value->Shared->Prop} {f:Value->Value->Sem Value}
  (hf:∀v u s2 x y H2,Inv X pins σ H2 s2->aB x v->aB y u->R x y H2->wpAny (model X.prog X.w) X.A (f v u) Q X.xe s2):
  wpAny (model X.prog X.w) X.A (eval a X.env) (fun v s₁=>wpAny (model X.prog X.w) X.A (eval b X.env) (fun u s₂=>wpAny (model X.prog X.w) X.A (f v u) Q X.xe s₂) X.xe s₁) X.xe s:=by
 refine thn (ha pins s σ H _ I h) fun v s1 ⟨x,H1,I1,r1,q1⟩=>?_;refine thn (hb pins s1 σ H1 _ I1 q1) fun u s2 ⟨y,H2,I2,r2,q2⟩=>?_;exact hf v u s2 x y H2 I2 r1 r2 q2
theorem ar{op:Operator}{r:R2}(ho:OpR X (IL op) r)(ha:PE X a ta)(hb:PE X b tb):PE X (.BinOp a op b pos) (tOp r ta tb):=by
 intro pins s σ H Q I h;exact wpAny_BinOp (Bj ha hb I h fun v u s2 x y H2 I2 rx ry q=>ho pins s2 σ H2 x y v u Q I2 rx ry q)
theorem Cv{op:UnaryOp}{r:V->Hp->VK->Prop}(ho:UnR X (unaryOp op) r)(ha:PE X a ta):PE X (.UnaryOp op a pos) (tUn r ta):=by
 intro pins s σ H Q I h;exact UnaryOp_ (thn (ha pins s σ H _ I h) fun v s1 ⟨x,H1,I1,r1,q1⟩=>ho pins s1 σ H1 x v Q I1 r1 q1)
theorem opI{f:Value->Value->Sem Value}{C:Int->Int->Prop}{g:Int->Int->Int}
  (rule:∀(i j:Int)(t u:Tok)(s:Shared)(Q:Value->Shared->Prop)(E:Value->Shared->Prop),C i j->Q (.int (g i j) s.toks) { s with toks:=s.toks+1 }->wpAny (model X.prog X.w) X.A (f (.int i t) (.int j u)) Q E s):
  OpR X f (rI C fun i j=>.int (g i j)):=by
 intro pins s σ H x y v u Q I rx ry h;obtain⟨i,j,rfl,rfl,hc,q⟩:=h;obtain⟨t,rfl⟩:=rx;obtain⟨t',rfl⟩:=ry;exact rule i j t t' s _ _ hc ⟨.int (g i j),H,I.tok _,⟨_,rfl⟩,q⟩
theorem DX{f:Value->Value->Sem Value}{g:Int->Int->Int}
  (rule:∀(i j:Int)(t u:Tok)(s:Shared)(Q:Value->Shared->Prop)(E:Value->Shared->Prop),Q (.int (g i j) s.toks) { s with toks:=s.toks+1 }->wpAny (model X.prog X.w) X.A (f (.int i t) (.int j u)) Q E s):
  OpR X f (rI0 fun i j=>.int (g i j)):=by
 intro pins s σ H x y v u Q I rx ry h;obtain⟨i,j,rfl,rfl,q⟩:=h;obtain⟨t,rfl⟩:=rx;obtain⟨t',rfl⟩:=ry;exact rule i j t t' s _ _ ⟨.int (g i j),H,I.tok _,⟨_,rfl⟩,q⟩
theorem Bk{f:Value->Value->Sem Value}{g:Int->Int->Bool}
  (rule:∀(i j:Int)(t u:Tok)(s:Shared)(Q:Value->Shared->Prop)(E:Value->Shared->Prop),Q (.bool (g i j)) s->wpAny (model X.prog X.w) X.A (f (.int i t) (.int j u)) Q E s):
  OpR X f (rI0 fun i j=>.bl (g i j)):=by
 intro pins s σ H x y v u Q I rx ry h;obtain⟨i,j,rfl,rfl,q⟩:=h;obtain⟨t,rfl⟩:=rx;obtain⟨t',rfl⟩:=ry;exact rule i j t t' s _ _ ⟨.bl (g i j),H,I,rfl,q⟩
noncomputable def fI(i j:Int):Prop:=0<j/\j<1073741824
noncomputable def DY(i j:Int):Prop:=(-(2^64)<i/\i<2^64)\/(-(2^64)<j/\j<2^64)
theorem DY.ok{i j:Int}(h:DY i j):ID i j:=by
 rcases h with⟨h1,h2⟩|⟨h1,h2⟩
 ·exact .of_left (Ld h1 h2)
 ·exact .of_right (Ld h1 h2)
theorem bu:OpR X (IL .Add) (rI0 fun i j=>.int (i+j)):=DX fun _ _ _ _ _ _ _ q=>add_int q
theorem fK:OpR X (IL .Sub) (rI0 fun i j=>.int (i-j)):=DX fun _ _ _ _ _ _ _ q=>sub_int q
theorem cC:OpR X (IL .FloorDiv) (rI fI fun i j=>.int (i/j)):=opI fun i j _ _ _ _ _ hc q=>by
 have h1:(0:Int)<j:=hc.1;have h2:j<1073741824:=hc.2;exact floordiv_int (by omega) (by rw[Int.fdiv_eq_ediv_of_nonneg i (by omega)];exact q) (.inl (PyProof.noPylong_small (by omega)))
theorem bJ:OpR X (IL .Mod) (rI (fun _ j=>0<j) fun i j=>.int (i%j)):=opI fun i j _ _ _ _ _ hc q=>by
 have h1:(0:Int)<j:=hc;exact mod_int' (by omega) (by rw[Int.fmod_eq_emod_of_nonneg i (by omega)];exact q)
theorem unI{f:Value->Sem Value}{g:Int->Int}
  (rule:∀(i:Int)(t:Tok)(s:Shared)(Q:Value->Shared->Prop)(E:Value->Shared->Prop),Q (.int (g i) s.toks) { s with toks:=s.toks+1 }->wpAny (model X.prog X.w) X.A (f (.int i t)) Q E s):
  UnR X f (rU fun i=>.int (g i)):=by
 intro pins s σ H x v Q I rx h;obtain⟨i,rfl,q⟩:=h;obtain⟨t,rfl⟩:=rx;exact rule i t s _ _ ⟨.int (g i),H,I.tok _,⟨_,rfl⟩,q⟩
theorem zL:UnR X (unaryOp .USub) (rU fun i=>.int (-i)):=unI fun _ _ _ _ _ q=>neg_int q
end
noncomputable def DZ:V->V->Bool
 | .non,.non=>true | .non,.int _=>true | .int _,.non=>true | .non,.bl _=>true | .bl _,.non=>true | .non,.str _=>true | .str _,.non=>true
 | .int _,.int _=>true | .bl _,.bl _=>true | .str _,.str _=>true | .byt _,.byt _=>true
 | .int _,.str _=>true | .str _,.int _=>true | .bl _,.str _=>true | .str _,.bl _=>true
 |_,_=>false
noncomputable def rEq:R2:=fun x y H Q=>DZ x y=true/\Q (.bl (decide (x=y))) H
noncomputable def rNe:R2:=fun x y H Q=>DZ x y=true/\Q (.bl (!decide (x=y))) H
theorem xB{i j:Int}:decide (V.int i=V.int j)=(i==j):=by
 rw[Jf];simp
theorem zM{i j:Bool}:decide (V.bl i=V.bl j)=(i==j):=by
 rw[Jf];simp
theorem xC{i j:Str}:decide (V.str i=V.str j)=(i==j):=by
 rw[Jf];simp
theorem xD{i j:Array UInt8}:decide (V.byt i=V.byt j)=(i.toList==j.toList):=by
 rw[Jf];cases i;cases j;simp
section
variable{X:Cx}{a b c:Expr}{ta tb tc:TE}{pos:Pos}
theorem bn{pins:List (Addr×Obj)}{σ:St}{H:Hp}{s:Shared}{Q:VK}{k k':Bool}(I:Inv X pins σ H s)(q:Q (.bl k) H)(e:k=k'):EP X pins σ Q (.bool k') s:=by
 subst e;exact⟨.bl k,H,I,rfl,q⟩
theorem cJ:OpR X (HP .Eq) rEq:=by
 intro pins s σ H x y v u Q I rx ry h;obtain⟨hs,q⟩:=h;cases x with
 |non=>
  cases rx;cases y with
  |non=>cases ry;exact PySem.EqNone.eq_none_none (bn I q (by simp))
  |bl j=>cases ry;exact PySem.EqNone.eq_none_bool (bn I q (by simp))
  |int j=>obtain⟨t',rfl⟩:=ry;exact PySem.EqNone.eq_none_int (bn I q (by simp))
  |str j=>obtain⟨t',rfl⟩:=ry;exact PySem.EqNone.eq_none_str (bn I q (by simp))
  |_=>exact absurd (show false=true from hs) F3
 |bl i=>
  cases rx;cases y with
  |non=>cases ry;exact PySem.EqNone.eq_bool_none (bn I q (by simp))
  |bl j=>cases ry;exact eq_bool (bn I q zM)
  |str j=>obtain⟨t',rfl⟩:=ry;exact PySem.EqMixed.eq_bool_str (bn I q (by simp))
  |_=>exact absurd (show false=true from hs) F3
 |int i=>
  obtain⟨t,rfl⟩:=rx;cases y with
  |non=>cases ry;exact PySem.EqNone.eq_int_none (bn I q (by simp))
  |int j=>obtain⟨t',rfl⟩:=ry;exact eq_int (bn I q xB)
  |str j=>obtain⟨t',rfl⟩:=ry;exact PySem.EqMixed.eq_int_str (bn I q (by simp))
  |_=>exact absurd (show false=true from hs) F3
 |str i=>
  obtain⟨t,rfl⟩:=rx;cases y with
  |non=>cases ry;exact PySem.EqNone.eq_str_none (bn I q (by simp))
  |bl j=>cases ry;exact PySem.EqMixed.eq_str_bool (bn I q (by simp))
  |int j=>obtain⟨t',rfl⟩:=ry;exact PySem.EqMixed.eq_str_int (bn I q (by simp))
  |str j=>obtain⟨t',rfl⟩:=ry;exact eq_str (bn I q xC)
  |_=>exact absurd (show false=true from hs) F3
 |byt i=>
  obtain⟨t,rfl⟩:=rx;cases y with
  |byt j=>obtain⟨t',rfl⟩:=ry;exact PySem.W.eq_bytes (bn I q xD)
  |_=>exact absurd (show false=true from hs) F3
 |_=>cases y<;>exact absurd (show false=true from hs) F3
theorem pK:OpR X (HP .NotEq) rNe:=by
 intro pins s σ H x y v u Q I rx ry h;obtain⟨hs,q⟩:=h;cases x with
 |non=>
  cases rx;cases y with
  |non=>cases ry;exact PySem.EqNone.ne_none_none (bn I q (by simp))
  |bl j=>cases ry;exact PySem.EqNone.ne_none_bool (bn I q (by simp))
  |int j=>obtain⟨t',rfl⟩:=ry;exact PySem.EqNone.ne_none_int (bn I q (by simp))
  |str j=>obtain⟨t',rfl⟩:=ry;exact PySem.EqNone.ne_none_str (bn I q (by simp))
  |_=>exact absurd (show false=true from hs) F3
 |bl i=>
  cases rx;cases y with
  |non=>cases ry;exact PySem.EqNone.ne_bool_none (bn I q (by simp))
  |bl j=>cases ry;exact ne_bool (bn I q (congrArg not zM))
  |str j=>obtain⟨t',rfl⟩:=ry;exact PySem.EqMixed.ne_bool_str (bn I q (by simp))
  |_=>exact absurd (show false=true from hs) F3
 |int i=>
  obtain⟨t,rfl⟩:=rx;cases y with
  |non=>cases ry;exact PySem.EqNone.ne_int_none (bn I q (by simp))
  |int j=>obtain⟨t',rfl⟩:=ry;exact ne_int (bn I q (congrArg not xB))
  |str j=>obtain⟨t',rfl⟩:=ry;exact PySem.EqMixed.ne_int_str (bn I q (by simp))
  |_=>exact absurd (show false=true from hs) F3
 |str i=>
  obtain⟨t,rfl⟩:=rx;cases y with
  |non=>cases ry;exact PySem.EqNone.ne_str_none (bn I q (by simp))
  |bl j=>cases ry;exact PySem.EqMixed.ne_str_bool (bn I q (by simp))
  |int j=>obtain⟨t',rfl⟩:=ry;exact PySem.EqMixed.ne_str_int (bn I q (by simp))
  |str j=>obtain⟨t',rfl⟩:=ry;exact ne_str (bn I q (congrArg not xC))
  |_=>exact absurd (show false=true from hs) F3
 |byt i=>
  obtain⟨t,rfl⟩:=rx;cases y with
  |byt j=>obtain⟨t',rfl⟩:=ry;exact PySem.W.ne_bytes (bn I q (congrArg not xD))
  |_=>exact absurd (show false=true from hs) F3
 |_=>cases y<;>exact absurd (show false=true from hs) F3
theorem uB:OpR X (HP .Lt) (rI0 fun i j=>.bl (decide (i<j))):=Bk fun _ _ _ _ _ _ _ q=>lt_int q
theorem uC:OpR X (HP .LtE) (rI0 fun i j=>.bl (decide (i<=j))):=Bk fun _ _ _ _ _ _ _ q=>le_int q
theorem lg:OpR X (HP .Gt) (rI0 fun i j=>.bl (decide (j<i))):=Bk fun _ _ _ _ _ _ _ q=>gt_int q
theorem OpR.or{f:Value->Value->Sem Value}{r r':R2}(h:OpR X f r)(h':OpR X f r'):OpR X f (fun x y H Q=>r x y H Q\/r' x y H Q):=by
 intro pins s σ H x y v u Q I rx ry q;rcases q with q|q
 ·exact h pins s σ H x y v u Q I rx ry q
 ·exact h' pins s σ H x y v u Q I rx ry q
theorem aV(b:Expr){op:CmpOp}(h:op≠.In:=by decide)(h2:op≠.NotIn:=by decide):Le op b=false:=by
 have e1:(op==CmpOp.In)=false:=by cases op<;>first|rfl|exact absurd rfl h
 have e2:(op==CmpOp.NotIn)=false:=by cases op<;>first|rfl|exact absurd rfl h2
 cases b<;>simp[Le,e1,e2]
theorem kI{op:CmpOp}{r:R2}(ho:OpR X (HP op) r)(ha:PE X a ta)(hb:PE X b tb)(hm:Le op b=false):PE X (.Compare a [op] [b] pos) (tOp r ta tb):=by
 intro pins s σ H Q I h;exact wpAny_Compare1 (Bj ha hb I h fun v u s2 x y H2 I2 rx ry q=>ho pins s2 σ H2 x y v u Q I2 rx ry q) hm
noncomputable def ba(t:TE):TT:=fun σ H Q=>t σ H fun x H'=>∃k,x=.bl k/\Q k H'
theorem aQ{op:CmpOp}{r:R2}(ho:OpR X (HP op) r)(ha:PE X a ta)(hb:PE X b tb)(hm:Le op b=false):PT X (.Compare a [op] [b] pos) (ba (tOp r ta tb)):=by
 intro pins s σ H Q I h;refine wpAny_isTrue_Compare1 (thn (ha pins s σ H _ I h) fun v s1 ⟨x,H1,I1,r1,q1⟩=>thn (hb pins s1 σ H1 _ I1 q1) fun u s2 ⟨y,H2,I2,r2,q2⟩=>
  thn (ho pins s2 σ H2 x y v u _ I2 r1 r2 q2) fun c s3 ⟨z,H3,I3,r3,k,e,q3⟩=>?_) hm
 subst e;cases r3;exact Ic ⟨H3,I3,q3⟩
noncomputable def zN(r r':R2)(ta tb tc:TE):TE:=fun σ H Q=>ta σ H fun x H1=>tb σ H1 fun y H2=>r x y H2 fun z H3=>∃k,z=.bl k/\
 (if k=true then tc σ H3 fun w' H4=>r' y w' H4 Q else Q (.bl false) H3)
theorem Bl{op op':CmpOp}{r r':R2}(ho:OpR X (HP op) r)(ho':OpR X (HP op') r')(ha:PE X a ta)(hb:PE X b tb)(hc:PE X c tc)
  (hm:lastMarks [op,op'] [b,c]=false:=by with_unfolding_all rfl):PE X (.Compare a [op,op'] [b,c] pos) (zN r r' ta tb tc):=by
 intro pins s σ H Q I h;refine Compare_chain (thn (ha pins s σ H _ I h) fun v s1 ⟨x,H1,I1,r1,q1⟩=>chain_link (thn (hb pins s1 σ H1 _ I1 q1) fun u s2 ⟨y,H2,I2,r2,q2⟩=>
  thn (ho pins s2 σ H2 x y v u _ I2 r1 r2 q2) fun d s3 ⟨z,H3,I3,r3,k,e,q3⟩=>?_)) hm
 subst e;cases r3;refine Ic ?_;cases k with
 |false=>exact ite_ff ⟨.bl false,H3,I3,rfl,q3⟩
 |true=>exact ite_tt (chain_last (thn (hc pins s3 σ H3 _ I3 q3) fun w' s4 ⟨z',H4,I4,r4,q4⟩=>ho' pins s4 σ H4 y z' u w' Q I4 r2 r4 q4))
theorem pM:(FY:Nat)<2^63:=by rw[FV];decide
theorem j4{x:V}{us:List Value}(r:aA [x] us):∃u,us=[u]/\aB x u:=by
 cases r with
 |cons r1 r2=>cases r2;exact⟨_,rfl,r1⟩
theorem Cw{x y:V}{us:List Value}(r:aA [x,y] us):∃u w',us=[u,w']/\aB x u/\aB y w':=by
 cases r with
 |cons r1 r2=>
  cases r2 with
  |cons r3 r4=>cases r4;exact⟨_,_,rfl,r1,r3⟩
theorem zO(hc:X.calm=true):bP X (.builtin "max") (fun xs H Q=>∃i j,xs=[.int i,.int j]/\Q (.int (if j>i then j else i)) H):=by
 intro pins s σ H xs us Q I r h;obtain⟨i,j,rfl,q⟩:=h;obtain⟨u,w',rfl,⟨t,rfl⟩,⟨t',rfl⟩⟩:=Cw r;refine max_two_ints (I.ok.hd hc) fun h' tk k=>⟨_,H,I.kept k,?_,q⟩;by_cases hj:j>i
 ·rw[if_pos hj,if_pos hj];exact⟨_,rfl⟩
 ·rw[if_neg hj,if_neg hj];exact⟨_,rfl⟩
theorem sR(hc:X.calm=true):bP X (.builtin "min") (fun xs H Q=>∃i j,xs=[.int i,.int j]/\Q (.int (if j<i then j else i)) H):=by
 intro pins s σ H xs us Q I r h;obtain⟨i,j,rfl,q⟩:=h;obtain⟨u,w',rfl,⟨t,rfl⟩,⟨t',rfl⟩⟩:=Cw r;refine min_two_ints (I.ok.hd hc) fun h' tk k=>⟨_,H,I.kept k,?_,q⟩;by_cases hj:j<i
 ·rw[if_pos hj,if_pos hj];exact⟨_,rfl⟩
 ·rw[if_neg hj,if_neg hj];exact⟨_,rfl⟩
theorem zP:bP X (.type "int") (fun xs H Q=>(∃i,xs=[.int i]/\Q (.int i) H)\/∃k,xs=[.bl k]/\Q (.int (if k then 1 else 0)) H):=by
 intro pins s σ H xs us Q I r h;rcases h with⟨i,rfl,q⟩|⟨k,rfl,q⟩
 ·obtain⟨u,rfl,t,rfl⟩:=j4 r
  exact call_int_int ⟨.int i,H,I,⟨_,rfl⟩,q⟩
 ·obtain⟨u,rfl,r1⟩:=j4 r
  cases r1;exact call_int_bool ⟨.int (if k then 1 else 0),H,I.tok _,⟨_,rfl⟩,q⟩
end
end L2
namespace L2
open PySem PySem.Spec PyProof.Rows
structure oR(h:Heap)(x dx C:Addr)(mA:Str->Option Value):Prop where
 obj:h.get? x=some (Io C dx)
 ns:h.Ns1 dx mA
 ne:dx≠x
theorem zQ{h:Heap}{dx:Addr}{mA:Str->Option Value}(n:h.Ns1 dx mA):∃od,h.get? dx=some od/\∀name,KO name od=some (mA name):=by
 obtain⟨o,es,ep,ho,hd,hk,_,hm⟩:=n;refine⟨o,ho,fun name=>?_⟩;have e:=hm name;unfold nsFind findBy at e;rw[<-Array.find?_toList]at e;unfold KO;rw[hd];dsimp only
 split
 ·rename_i y q
  rw[q]at e;exact congrArg some e
 ·rename_i q
  rw[q]at e;have a:es.toList.any (·.refKey)=false:=by
   rw[List.any_eq_false];intro y hy;obtain⟨z,t,hkey⟩:=hk y (Array.mem_toList_iff.mp hy);simp[M6.refKey,hkey]
  have a':¬es.toList.any (·.refKey)=true:=by rw[a];exact F3
  rw[if_neg a'];exact congrArg some e
theorem oR.look{h:Heap}{x dx C:Addr}{mA:Str->Option Value}(I:oR h x dx C mA):∃od,PySem.W.InstAt h x (Io C dx) C (some od)/\∀name,KO name od=some (mA name):=
 let⟨od,ho,hl⟩:=zQ I.ns
 ⟨od,⟨I.obj,rfl,rfl,ho⟩,hl⟩
section
variable{prog:Program}{w:World}{A:Around}{E:Value->Shared->Prop}{s:Shared}{K:Fg}{x dx C f:Addr}{mA:Str->Option Value}{name:Str}{v:Value}
theorem CY{expr:Bool}{Q:Value->Shared->Prop}(X:K.In s.heap)(I:oR s.heap x dx C mA)(hg:Kb K C name=true)(hh:Lo K C=true)
  (ha:HZ K (.ref C) name=some none) (hv:mA name=some v) (hv':NR v=true) (h:Q v { s with toks:=s.toks+1 }):
  wpAny (model prog w) A (getAttr (.ref x) name expr) Q E s:=by
 obtain⟨od,J,hl⟩:=I.look;exact PySem.W.get_value X J (KD hg).1 (PySem.W.findObj_own hh ha rfl (by rw[hl,hv])) hv' h
theorem Bm{pl:Sem Bool}{Q:Value×List Value->Shared->Prop}(X:K.In s.heap)(I:oR s.heap x dx C mA)(hg:Kb K C name=true)
  (hf:HZ K (.ref C) name=some (some (.ref f))) (ht:M7 K (.ref f)=true) (hv:mA name=none) (h:Q (.ref f,[.ref x]) s):
  wpAny (model prog w) A (KZ (.ref x) name pl) Q E s:=by
 obtain⟨od,J,hl⟩:=I.look;exact PySem.W.method_fn X J (KD hg).1 (KD hg).2 hf (beq_iff_eq.mp ht) (by show(KO name od).map (·.isSome)=some false;rw[hl,hv];rfl) h
theorem CZ{ns:List Str}{Q:Unit->Shared->Prop}(X:K.In s.heap)(I:oR s.heap x dx C mA)
  (hs:HZ K (.ref C) "__setattr__"=some (some (.builtin "object.__setattr__"))) (hp:Np K C=true) (ht:LU K C name=some none) (hh:Lo K C=true)
  (hw:Lw mA ns) (hsz:ns.length<=FY)
  (h:∀h',oR h' x dx C (fun y=>if y=name then some v else mA y)->Gp dx s.heap h'->Q () { s with heap:=h',toks:=s.toks+2 }):
  wpAny (model prog w) A (setAttr (.ref x) name v) Q E s:=by
 obtain⟨od,J,hl⟩:=I.look;refine PySem.W.set_plain X J hs (PySem.W.osa_open (s:={ s with toks:=s.toks+1 }) (r:=none) X J hp ht fun b=>?_);obtain⟨cd,hc,hd'⟩:=PySem.W.any_some hh;have hx:s.heap.get? x=some ⟨.ref C,some dx,.plain,#[]⟩:=I.obj;refine FM (FT (FM (FM (wpAny_loadPart hx (FM (PySem.W.Looks.here (s:={ s with toks:=s.toks+1 }) (PySem.W.looks_clsIn X hc) ?_))))));rw[hd'];refine FT (a:=some dx) (FM (FT (FM ?_)));refine wpAny_nsSet1 (s:={ s with toks:=s.toks+1 }) I.ns fun h' hn2 hs2=>?_;obtain⟨oD,esD,epD,hoD,hdD,hcD⟩:=hn2.count (Lw.cons name v hw);refine FM (wpAny_lookBehind hoD (by rw[hdD];exact pastItsLine_dict (Gs hcD (by rw[Gm];omega))) ?_);exact FT (h _ ⟨(hs2.2 _ (Hn I.ne)).trans I.obj,hn2,I.ne⟩ hs2)
theorem Bn{R:Result->Shared->Prop}{vs:List Value}{kw:List (Str×Value)}(X:K.In s.heap)(hm:N7 K C=true)
  (hi:HZ K (.ref C) "__init__"=some (some (.ref f))) (hf:PySem.W.typeIn K (.ref f)=some (.type "function"))
  (h:codeAny (model prog w) (A.under (.builtin "type.__call__" ⟨.ref C::vs,kw⟩)) (.call (.ref f) ⟨.ref (s.heap.objs.size+1)::vs,kw⟩) (PySem.W.InitBack (s.heap.objs.size+1) R)
   { s with heap:=(s.heap.push Hu).push (Io C s.heap.objs.size) }):
  codeAny (model prog w) A (.call (.ref C) ⟨vs,kw⟩) R s:=by
 obtain⟨hh,g,d,t,os⟩:=s;exact PySem.W.make_core (PySem.W.makes_of X hm) (PySem.W.looks_findIn X hi) (fun self=>PySem.W.bind_fn X self hf) (.inl rfl) h
end
noncomputable def eU(f:Str)(v:V):List (Str×V)->List (Str×V)
 | []=>[(f,v)]
 | (g,x)::r=>if g=f then(g,v)::r else(g,x)::eU f v r
theorem oA(f g:Str)(v:V):∀fs:List (Str×V),(eU f v fs).lookup g=if g=f then some v else fs.lookup g
 | []=>by
  show Jk g [(f,v)]=_;by_cases h:g=f
  ·have hb:(g==f)=true:=beq_iff_eq.mpr h
   simp only[Jk,hb,if_pos h]
  ·have hb:(g==f)=false:=beq_eq_false_iff_ne.mpr h
   simp only[Jk,hb,if_neg h]
 | (k,x)::r=>by
  have ih:=oA f g v r;rw[show eU f v ((k,x)::r)=(if k=f then(k,v)::r else(k,x)::eU f v r)from rfl];by_cases hk:k=f
  ·rw[if_pos hk]
   by_cases h:g=k
   ·have hb:(g==k)=true:=beq_iff_eq.mpr h
    simp only[Jk,hb,if_pos (h.trans hk)]
   ·have hb:(g==k)=false:=beq_eq_false_iff_ne.mpr h
    simp only[Jk,hb,if_neg (fun e:g=f=>h (e.trans hk.symm))]
  ·rw[if_neg hk]
   by_cases h:g=k
   ·have hb:(g==k)=true:=beq_iff_eq.mpr h
    simp only[Jk,hb,if_neg (fun e:g=f=>hk (h.symm.trans e))]
   ·have hb:(g==k)=false:=beq_eq_false_iff_ne.mpr h
    simp only[Jk,hb];exact ih
theorem mE(f:Str)(v:V):∀fs:List (Str×V),f∈(eU f v fs).map (·.1)/\∀g,g∈fs.map (·.1)->g∈(eU f v fs).map (·.1)
 | []=>⟨by simp[eU],fun g h=>by simp at h⟩
 | (k,x)::r=>by
  obtain⟨i1,i2⟩:=mE f v r;rw[show eU f v ((k,x)::r)=(if k=f then(k,v)::r else(k,x)::eU f v r)from rfl];by_cases hk:k=f
  ·rw[if_pos hk]
   subst hk;exact⟨by simp,fun g h=>by simpa using h⟩
  ·rw[if_neg hk]
   refine⟨?_,fun g h=>?_⟩
   ·rw[F6]
    exact FX _ i1
   ·rw[F6]at h ⊢
    rcases FW.mp h with e|e
    ·exact FW.mpr (.inl e)
    ·exact FX _ (i2 g e)
theorem oB(f:Str)(v:V):∀fs:List (Str×V),(eU f v fs).length<=fs.length+1
 | []=>by simp[eU]
 | (k,x)::r=>by
  have ih:=oB f v r;rw[show eU f v ((k,x)::r)=(if k=f then(k,v)::r else(k,x)::eU f v r)from rfl];by_cases hk:k=f
  ·rw[if_pos hk,Gm,Gm];omega
  ·rw[if_neg hk,Gm,Gm];omega
theorem eG.some_of{v:V}{o:Option Value}(r:eG (some v) o):∃u,o=some u/\aB v u:=by
 cases o with
 |none=>exact(show False from r).elim
 |some u=>exact⟨u,rfl,r⟩
theorem eG.none_of{o:Option Value}(r:eG none o):o=none:=by
 cases o with
 |none=>rfl
 |some u=>exact(show False from r).elim
theorem zR{v:V}{u:Value}(r:aB v u):NR u=true:=by
 cases v with
 |non=>cases (show u=Hz from r);rfl
 |bl b=>cases (show u=G4 b from r);rfl
 |int i=>obtain⟨t,e⟩:=(show∃t,u=Jv i t from r);cases e;rfl
 |str x=>obtain⟨t,e⟩:=(show∃t,u=LR x t from r);cases e;rfl
 |byt b=>obtain⟨t,e⟩:=(show∃t,u=Value.bytes b t from r);cases e;rfl
 |flt b=>obtain⟨t,e⟩:=(show∃t,u=NH b t from r);cases e;rfl
 |ref a=>cases (show u=Gi a from r);rfl
 |ty n=>cases (show u=HY n from r);rfl
section
variable{P:Program}{w:World}{H H':Hp}{h h':Heap}{a C dx:Addr}{fs fs':List (Str×V)}
theorem nC(hok:HOk P w H h)(e:H a=some (.ins C dx fs)):∃mA,oR h a dx C mA/\(∀f,eG (fs.lookup f) (mA f))/\Lw mA (fs.map (·.1))/\fs.length<=1000/\H dx=some (.own a):=by
 obtain⟨d,z,ne,ob,mA,n,r,q⟩:=(show br P w H h a (.ins C dx fs)from hok a _ e);exact⟨mA,⟨ob,n,ne⟩,r,q,z,d⟩
end
structure Cls(K:Fg)(C:Addr):Prop where
 pg:Kb K C Oq=true
 hd:Lo K C=true
 po:Np K C=true
 sa:HZ K (.ref C) "__setattr__"=some (some (.builtin "object.__setattr__"))
theorem Cls.get{K:Fg}{C:Addr}(c:Cls K C)(f:Str):Kb K C f=true:=c.pg
noncomputable def dn(K:Fg)(C:Addr)(f:Str):Prop:=HZ K (.ref C) f=some none
theorem dn.taker{K:Fg}{C:Addr}{f:Str}(n:dn K C f):LU K C f=some none:=by
 unfold LU;rw[show HZ K (.ref C) f=some none from n];rfl
structure vc(K:Fg)(C:Addr)(m:Str)(f:Addr):Prop where
 at_:HZ K (.ref C) m=some (some (.ref f))
 fn:M7 K (.ref f)=true
 kp:Jq K (.ref f)=true
section
variable{X:Cx}{pins:List (Addr×Obj)}{σ:St}{H:Hp}{s:Shared}{a C dx:Addr}{fs:List (Str×V)}{f:Str}{v:V}{A:Around}{E:Value->Shared->Prop}
theorem yi{b:Bool}{Q:Value->Shared->Prop}(I:Inv X pins σ H s)(e:H a=some (.ins C dx fs))(c:Cls X.K C)(n:dn X.K C f)(l:fs.lookup f=some v)
  (h:∀u s',Inv X pins σ H s'->aB v u->Q u s'):wpAny (model X.prog X.w) A (getAttr (.ref a) f b) Q E s:=by
 obtain⟨mA,O,r,_,_,_⟩:=nC I.hok e;obtain⟨u,hu,ru⟩:=eG.some_of (v:=v) (o:=mA f) (by rw[<-l];exact r f);exact CY I.kIn O (c.get f) c.hd n hu (zR ru) (h u _ (I.tok _) ru)
theorem pN{m:Str}{g:Addr}{pl:Sem Bool}{Q:Value×List Value->Shared->Prop}(I:Inv X pins σ H s)(e:H a=some (.ins C dx fs))(c:Cls X.K C)(k:vc X.K C m g)(l:fs.lookup m=none)
  (h:Q (.ref g,[.ref a]) s):wpAny (model X.prog X.w) A (KZ (.ref a) m pl) Q E s:=by
 obtain⟨mA,O,r,_,_,_⟩:=nC I.hok e;have hn:mA m=none:=eG.none_of (by rw[<-l];exact r m);exact Bm I.kIn O (c.get m) k.at_ k.fn hn h
theorem yj{y:V}{u:Value}{Q:Unit->Shared->Prop}(I:Inv X pins σ H s)(e:H a=some (.ins C dx fs))(c:Cls X.K C)(n:dn X.K C f)(hl:fs.length<1000)(ry:aB y u)
  (h:∀s',Inv X pins σ (upd H a (.ins C dx (eU f y fs))) s'->Q () s'):wpAny (model X.prog X.w) A (setAttr (.ref a) f u) Q E s:=by
 obtain⟨mA,O,r,wi,_,ho⟩:=nC I.hok e;have hz:(fs.map (·.1)).length<=FY:=by rw[FQ,FV];omega
 refine CZ I.kIn O c.sa c.po n.taker c.hd wi hz fun h' O' sb=>h _ ?_;have hd:∃o,h'.get? dx=some o:=let⟨o,_,_,e',_⟩:=O'.ns;⟨o,e'⟩;refine I.write (x:=a) (e:=dx) (by rw[e];exact IE) (.inr ho) (fun b q hb z=>(sb.2 b hb).trans z) hd ?_;refine⟨by rw[aO O.ne];exact ho,?_,O.ne,O'.obj,_,O'.ns,fun g=>?_,fun g hg=>?_⟩
 ·have:=oB f y fs;omega
 ·show eG ((eU f y fs).lookup g) (if g=f then some u else mA g)
  rw[oA];by_cases q:g=f
  ·rw[if_pos q,if_pos q];exact ry
  ·rw[if_neg q,if_neg q];exact r g
 ·by_cases q:g=f
  ·rw[q];exact(mE f y fs).1
  ·refine(mE f y fs).2 g (wi g fun z=>hg ?_)
   show(if g=f then some u else mA g)=none;rw[if_neg q];exact z
theorem Inv.made(I:Inv X pins σ H s):Inv X pins σ (upd (upd H s.heap.objs.size (.own (s.heap.objs.size+1))) (s.heap.objs.size+1) (.ins C s.heap.objs.size []))
  { s with heap:=(s.heap.push Hu).push (Io C s.heap.objs.size) }:=by
 have e1:(s.heap.push Hu).get? s.heap.objs.size=some Hu:=F9 s.heap rfl;have e2:((s.heap.push Hu).push (Io C s.heap.objs.size)).get? (s.heap.objs.size+1)=some (Io C s.heap.objs.size):=by
  have:=F9 (s.heap.push Hu) (o:=Io C s.heap.objs.size) rfl
  rwa [GR]at this
 have e3:(s.heap.push Hu).Ns s.heap.objs.size (fun _=>none):=⟨Hu,#[],_,e1,rfl,(fun e he=>absurd he (by simp)),fun _=>rfl⟩;have I1:=I.laid (a:=s.heap.objs.size) (o:=.own (s.heap.objs.size+1)) (h':=s.heap.push Hu) (t':=s.toks) (fun b u q=>FP _ q) (FU _) ⟨_,e1⟩;refine I1.laid (a:=s.heap.objs.size+1) (o:=.ins C s.heap.objs.size []) (t':=s.toks) (fun b u q=>FP _ q) (Ko (GR _ _)) ?_;have ne:s.heap.objs.size≠s.heap.objs.size+1:=GK (IW _);refine⟨by rw[aO ne,av],GH _,ne,e2,fun _=>none,(Heap.Ns1.of_empty e3).at fun o q=>FP _ q,fun _=>IE,fun y hy=>absurd rfl hy⟩
theorem C0{prog:Program}{w:World}{env:Env}{e:Expr}{f:Str}{pos:Pos}{s:Shared}{Q:Value->Shared->Prop}(hb:Jz e f env (eval e env)=eval e env)
  (h:wpAny (model prog w) A (eval e env) (fun o s₁=>wpAny (model prog w) A (getAttr o f true) Q E s₁) E s):wpAny (model prog w) A (eval (.Attribute e f pos) env) Q E s:=
 Attribute_any_ h (by rw[arm_eval_Attribute,hb])
end
noncomputable def dv(K:Fg)(ta:TE)(f:Str):TE:=fun σ H Q=>ta σ H fun x H1=>∃a C dx fs v,x=.ref a/\H1 a=some (.ins C dx fs)/\Cls K C/\dn K C f/\fs.lookup f=some v/\Q v H1
noncomputable def kn(K:Fg)(ta tv:TE)(f:Str):TS:=fun D σ H=>tv σ H fun y H1=>ta σ H1 fun x H2=>∃a C dx fs,x=.ref a/\H2 a=some (.ins C dx fs)/\Cls K C/\dn K C f/\fs.length<1000/\
 D.nx σ (upd H2 a (.ins C dx (eU f y fs)))
section
variable{X:Cx}{o e value:Expr}{f:Str}{pos pos' tpos:Pos}{ta tv:TE}
theorem ce(he:PE X e ta)(hb:Jz e f X.env (eval e X.env)=eval e X.env):PE X (.Attribute e f pos) (dv X.K ta f):=by
 intro pins s σ H Q I h;refine C0 hb (thn (he pins s σ H _ I h) fun u s1 ⟨x,H1,I1,rx,a,C,dx,fs,v,ex,ea,c,n,l,q⟩=>?_);subst ex;obtain rfl:u=Gi a:=rx;exact yi I1 ea c n l fun u' s2 I2 ru=>⟨v,H1,I2,ru,q⟩
theorem i7(ha:PE X o ta)(hv:PE X value tv)(hs:LS value (some (.Attribute o f pos')) pos.line X.env=pure false):PS X (.Assign [.Attribute o f pos'] value pos) (kn X.K ta tv f):=by
 intro pins s σ H D I h;refine plainObj_wpAny_Assign_Attribute (thn (hv pins s σ H _ I h) fun u s1 ⟨y,H1,I1,ry,q⟩=>thn (ha pins s1 σ H1 _ I1 q) fun ov s2 ⟨x,H2,I2,rx,a,C,dx,fs,ex,ea,c,n,l,q2⟩=>?_) hs;subst ex;obtain rfl:ov=Gi a:=rx;exact yj I2 ea c n l ry fun s3 I3=>⟨σ,_,I3,q2⟩
end
section
variable{X:Cx}{pins:List (Addr×Obj)}{σ:St}{H:Hp}{s:Shared}{A:Around}{E:Value->Shared->Prop}{Q:Value->Shared->Prop}{c:Value}{b:Bool}
inductive dZ(K:Fg)(H:Hp):V->Value->Prop where
 |non:dZ K H .non (.type "NoneType")
 |bl (x:Bool):dZ K H (.bl x) (.type "bool")
 |int (i:Int):dZ K H (.int i) (.type "int")
 |str (x:Str):dZ K H (.str x) (.type "str")
 |flt (x:UInt64):dZ K H (.flt x) (.type "float")
 |lst {a:Addr} {xs:List V} (e:H a=some (.lst xs)):dZ K H (.ref a) (.type "list")
 |frz {a:Addr} {o:Obj} {xs:List V} (e:H a=some (.frz o (.lst xs))):dZ K H (.ref a) (.type "list")
 |tup {a:Addr} {xs:List V} (e:H a=some (.tup xs)):dZ K H (.ref a) (.type "tuple")
 |dK {a:Addr} {kvs:List (Key×V)} (e:H a=some (.dK kvs)):dZ K H (.ref a) (.type "dict")
 |dT {a:Addr} {kvs:List (List Key×V)} (e:H a=some (.dT kvs)):dZ K H (.ref a) (.type "dict")
 |ins {a C dx:Addr} {fs:List (Str×V)} (e:H a=some (.ins C dx fs)) (cl:Cls K C) (ha:HZ K (.ref C) "__class__"=some (some (.builtin "object.__class__")))
   (hn:PySem.W.specialIn K (.builtin "object.__class__") "__get__"=some (some (.builtin "getset_descriptor.__get__"))) (htk:PySem.W.takesIn K (.builtin "object.__class__")=some true)
   (hm:PySem.W.mroIn K C (.type "object")=some true):dZ K H (.ref a) (.ref C)
theorem zT{x:V}{u t:Value}(I:Inv X pins σ H s)(rx:aB x u)(ty:dZ X.K H x t)(e:GI X.K t c=some b)(h:∀tk,Q (.bool b) { s with toks:=tk }):
  wpAny (model X.prog X.w) A (call (.builtin "isinstance") [u,c]) Q E s:=by
 cases ty with
 |non=>cases (show u=Hz from rx);exact Hh PySem.W.kitx_none I.kIn IE e (fun z=>nomatch z) h
 |bl y=>cases (show u=G4 y from rx);exact Hh PySem.W.kitx_bool I.kIn IE e (fun z=>nomatch z) h
 |int i=>obtain⟨t,q⟩:=(show∃t,u=Jv i t from rx);cases q;exact Hh PySem.W.kitx_int I.kIn IE e (fun z=>nomatch z) h
 |str y=>obtain⟨t,q⟩:=(show∃t,u=LR y t from rx);cases q;exact Hh PySem.W.kitx_str I.kIn IE e (fun z=>nomatch z) h
 |flt y=>obtain⟨t,q⟩:=(show∃t,u=NH y t from rx);cases q;exact Hh PySem.W.kitx_float I.kIn IE e (fun z=>nomatch z) h
 | @lst a xs ea=>
  cases (show u=Gi a from rx);obtain⟨_,_,n,_,h1⟩:=(show br X.prog X.w H s.heap a (.lst xs)from I.hok a _ ea);exact Hh Nq I.kIn ⟨_,h1,rfl⟩ e (fun z=>nomatch z) h
 | @frz a ob xs ea=>
  cases (show u=Gi a from rx);obtain⟨_,_,_,n,_,h1⟩:=(show br X.prog X.w H s.heap a (.frz ob (.lst xs))from I.hok a _ ea);exact Hh Nq I.kIn ⟨_,h1,rfl⟩ e (fun z=>nomatch z) h
 | @tup a xs ea=>
  cases (show u=Gi a from rx);obtain⟨_,_,_,p⟩:=(show br X.prog X.w H s.heap a (.tup xs)from I.hok a _ ea);obtain⟨o,h1,h2,_⟩:=p;exact Hh PySem.W.kitx_tuple I.kIn ⟨o,h1,h2⟩ e (fun z=>nomatch z) h
 | @dK a kvs ea=>
  cases (show u=Gi a from rx);obtain⟨_,_,vs,_,p⟩:=(show br X.prog X.w H s.heap a (.dK kvs)from I.hok a _ ea);obtain⟨o,es,ep,h1,h2,_⟩:=p;exact Hh Nr I.kIn ⟨o,h1,h2.1⟩ e (fun z=>nomatch z) h
 | @dT a kvs ea=>
  cases (show u=Gi a from rx);obtain⟨_,_,xs,_,o,es,ep,h1,h2,_⟩:=(show br X.prog X.w H s.heap a (.dT kvs)from I.hok a _ ea);exact Hh Nr I.kIn ⟨o,h1,h2.1⟩ e (fun z=>nomatch z) h
 | @ins a C dx fs ea cl ha hn htk hm=>
  cases (show u=Gi a from rx);obtain⟨mA,O,_⟩:=nC I.hok ea;obtain⟨od,J,_⟩:=O.look;exact Hh (PySem.W.kitx_own (cl.get _) cl.hd ha hn htk hm) I.kIn J e (fun z=>nomatch z) h
end
end L2
namespace L2
open PySem PySem.Spec PyProof.Rows
structure bK(k:Nat)(A:Around):Prop where
 hd:A.handled=none
 dp:A.depth+3*k+5<recursionLimit
 un:A.units+16*k+200<cLine
theorem bK.mono{j k:Nat}{A:Around}(r:bK k A)(h:j<=k):bK j A:=⟨r.hd,by have:=r.dp;omega,by have:=r.un;omega⟩
theorem bK.deeper{k:Nat}{A:Around}(r:bK (k+1) A)(env:Env):bK k (A.deeper env):=
 ⟨r.hd,by have:=r.dp;show A.depth+1+3*k+5<_;omega,by have:=r.un;show A.units+3+16*k+200<_;omega⟩
theorem yk{A:Around}{C:Addr}{us:List Value}{kw:List (Str×Value)}:(A.under (.builtin "type.__call__" ⟨.ref C::us,kw⟩)).depth=A.depth+1:=by
 first|rfl|simp[M8,Code.weight,Code.isCreation,Code.isGuard,Code.isCaller,Code.frames,M9,guardIds]
theorem yl{A:Around}{C:Addr}{us:List Value}{kw:List (Str×Value)}:(A.under (.builtin "type.__call__" ⟨.ref C::us,kw⟩)).units=A.units+1:=by
 first|rfl|simp[M8,Code.cUnits,Code.frames,M9]
theorem bK.make{k:Nat}{A:Around}(r:bK (k+1) A)(C:Addr)(us:List Value)(kw:List (Str×Value)):bK k (A.under (.builtin "type.__call__" ⟨.ref C::us,kw⟩)):=
 ⟨r.hd,by have:=r.dp;rw[yk];omega,by have:=r.un;rw[yl];omega⟩
theorem bK.depth{k:Nat}{A:Around}(r:bK k A):A.depth<recursionLimit:=by have:=r.dp;omega
theorem bK.units0{k:Nat}{A:Around}(r:bK k A):A.units<cLine:=by have:=r.un;omega
noncomputable def af:TA:=fun _ H Q=>Q [] H
noncomputable def aa(ta:TE)(tr:TA):TA:=fun σ H Q=>ta σ H fun x H1=>tr σ H1 fun xs H2=>Q (x::xs) H2
section
variable{X:Cx}{e:Expr}{es:List Expr}{te:TE}{t:TA}{pos:Pos}
theorem ad:PA X [] af:=fun _ _ _ _ H Q I h=>Nt ⟨[],H,I,.nil,h⟩
theorem eh(ha:PE X e te)(hr:PA X es t)(hs:Gf (e::es) X.env=(false,eval e X.env)::Gf es X.env:=by rfl):PA X (e::es) (aa te t):=by
 intro pos pins s σ H Q I h;rw[hs];show wpAny _ _ (spliced ((false,eval e X.env)::backTo pos (Gf es X.env))) _ _ s;refine Na (thn (ha pins s σ H _ I h) fun u s1 ⟨x,H1,I1,r1,q1⟩=>?_);exact thn (hr pos pins s1 σ H1 _ I1 q1) fun us s2 ⟨xs,H2,I2,r2,q2⟩=>⟨x::xs,H2,I2,.cons r1 r2,q2⟩
noncomputable def Bo(t:TA):TE:=fun σ H Q=>t σ H fun xs H1=>xs.length<=FY/\∀p,H1 p=none->Q (.ref p) (upd H1 p (.tup xs))
noncomputable def ym(t:TA):TE:=fun σ H Q=>t σ H fun xs H1=>xs.length<=FY/\∀p,H1 p=none->Q (.ref p) (upd H1 p (.lst xs))
theorem zU{x1}(h:PA X es t):PE X (.Tuple es x1 pos) (Bo t):=by
 intro pins s σ H Q I hq;refine MT (thn (h pos pins s σ H _ I hq) fun us s1 ⟨xs,H1,I1,r,z,q⟩=>⟨by rw[<-r.length];exact z,?_⟩);have hf:H1 s1.heap.objs.size=none:=I1.hok.fresh (FU _);refine⟨.ref s1.heap.objs.size,upd H1 s1.heap.objs.size (.tup xs),I1.laid (t':=s1.toks) (fun b u e=>FP _ e) (FU _) ?_,rfl,q _ hf⟩;exact⟨z,us,r,dH.new _ _⟩
theorem vd(h:PA X es t):PE X (.List es pos) (ym t):=by
 intro pins s σ H Q I hq;refine Nb (thn (h pos pins s σ H _ I hq) fun us s1 ⟨xs,H1,I1,r,z,q⟩=>⟨by rw[<-r.length];exact z,?_⟩);have hf:H1 s1.heap.objs.size=none:=I1.hok.fresh (FU _);refine⟨.ref s1.heap.objs.size,upd H1 s1.heap.objs.size (.lst xs),I1.laid (t':=s1.toks) (fun b u e=>FP _ e) (FU _) ?_,rfl,q _ hf⟩;exact⟨z,us,0,r,F9 _ rfl⟩
end
noncomputable abbrev Sp:=List V->Hp->VK->XK->Prop
noncomputable abbrev CXT:=List Env->Hp->Shared->XK->Value->Shared->Prop
structure oS(P:Program)(w:World)(K:Fg)(mg:Str->Option Value)(base:Heap)(A:Around)(outer:List Env)(s:Shared)(H:Hp):Prop where
 frames:A.frames=some outer
 mod:Mod K mg base
 bs:∀b o,base.get? b=some o->s.heap.get? b=some o/\H b=none
 bsz:base.objs.size<=s.heap.objs.size
 funs:s.heap.FunFrames base outer
 frf:∀b∈frs outer,H b=none
 hok:HOk P w H s.heap
 bare:AllBare s.gens
noncomputable def CE(outer:List Env)(P:Program)(w:World)(H:Hp)(s:Shared)(Q:VK)(u:Value)(s':Shared):Prop:=
 ∃v H',s'.os=s.os/\AllBare s'.gens/\Un (frs outer) [] H H' s.heap s'.heap/\HOk P w H' s'.heap/\aB v u/\Q v H'
noncomputable def CR(CX:CXT)(outer:List Env)(P:Program)(w:World)(H:Hp)(s:Shared)(Q:VK)(E:XK)(r:Result)(s':Shared):Prop:=
 match r with
 | .ok (.ret u)=>CE outer P w H s Q u s'
 | .ok _=>False
 | .error e=>CX outer H s E e s'
structure dJ(P:Program)(w:World)(K:Fg)(mg:Str->Option Value)(base:Heap)(CX:CXT)(k:Nat)(f:Addr)(fd:Gc)(ps:List Str)(sp:Sp):Prop where
 len:∀vs H Q E,sp vs H Q E->vs.length=ps.length
 run:∀(A:Around)(outer:List Env)(s:Shared)(H:Hp)(args:Args)(us:List Value)(vs:List V)(Q:VK)(E:XK),bK k A->oS P w K mg base A outer s H->BindsTo s fd args (ps.zip us)->aA vs us->sp vs H Q E->
  codeAny (model P w) A (.call (.ref f) args) (CR CX outer P w H s Q E) s
theorem oS.make{P:Program}{w:World}{K:Fg}{mg:Str->Option Value}{base:Heap}{A:Around}{outer:List Env}{s:Shared}{H:Hp}(e:oS P w K mg base A outer s H)(C:Addr)(us:List Value)(kw:List (Str×Value)):
  oS P w K mg base (A.under (.builtin "type.__call__" ⟨.ref C::us,kw⟩)) outer s H:=⟨by first|exact e.frames| (simpa[M8,Code.envs,M9,pushEnvs]using e.frames),e.mod,e.bs,e.bsz,e.funs,e.frf,e.hok,e.bare⟩
section
variable{X:Cx}{pins:List (Addr×Obj)}{σ:St}{H:Hp}{s s':Shared}
theorem Inv.env0(I:Inv X pins σ H s):oS X.prog X.w X.K X.mg X.base X.A X.stack s H:=
 ⟨I.ok.frames,I.ok.mod,I.bs,Gs I.ok.bsz I.sz,I.stack,I.stkFree,I.hok,I.bare⟩
theorem Inv.after{Q:VK}{u:Value}(I:Inv X pins σ H s)(h:CE X.stack X.prog X.w H s Q u s'):EP X pins σ Q u s':=by
 obtain⟨v,H',os,bare,un,hok,r,q⟩:=h;obtain⟨hh,g,d,t,os'⟩:=s';obtain rfl:os'=s.os:=os;exact⟨v,H',I.call (h':=hh) (g':=g) (d':=d) (t':=t) (ch:=[]) un hok bare (fun b z=>absurd z (by simp)),r,q⟩
end
noncomputable def au(sp:Sp)(dvs:List V)(E:XK)(t:TA):TE:=fun σ H Q=>t σ H fun vs H1=>sp (vs++dvs) H1 Q E
noncomputable def d2(C:Addr)(m:Str)(sp:Sp)(dvs:List V)(E:XK)(ta:TE)(t:TA):TE:=fun σ H Q=>ta σ H fun x H1=>∃a dx fs,x=.ref a/\H1 a=some (.ins C dx fs)/\fs.lookup m=none/\
 t σ H1 fun vs H2=>sp (x::(vs++dvs)) H2 Q E
noncomputable def nD(C:Addr)(sp:Sp)(dvs:List V)(E:XK)(t:TA):TE:=fun σ H Q=>t σ H fun vs H1=>∀x dx,H1 x=none->H1 dx=none->dx≠x->
 sp (.ref x::(vs++dvs)) (upd (upd H1 dx (.own x)) x (.ins C dx [])) (fun v H2=>v=.non/\Q (.ref x) H2) E
noncomputable def d3(K:Fg)(fd:Gc)(ps:List Str)(ds:List Value):Prop:=
 ∀(s:Shared)(us:List Value),K.In s.heap->(us++ds).length=ps.length->BindsTo s fd ⟨us,[]⟩ (ps.zip (us++ds))
theorem d3.all{K:Fg}{fd:Gc}{ps:List Str}(h:∀us:List Value,us.length=ps.length->bindArgs fd ⟨us,[]⟩=pure (ps.zip us)):d3 K fd ps []:=fun s us _ hl=>by
 rw[II]at hl ⊢;exact .of_eq (h us hl)
noncomputable def jO(CX:CXT)(X:Cx)(E:XK):Prop:=∀(pins:List (Addr×Obj))(σ:St)(H:Hp)(s:Shared)(e:Value)(s':Shared),Inv X pins σ H s->CX X.stack H s E e s'->X.xe e s'
section
variable{X:Cx}{CX:CXT}{k:Nat}{f C:Addr}{fd:Gc}{ps:List Str}{sp:Sp}{dvs:List V}{ds:List Value}{E:XK}{x m:Str}{p pos apos:Pos}{e o:Expr}{es:List Expr}{ta:TE}{t:TA}
theorem ve{pins:List (Addr×Obj)}{σ:St}{H:Hp}{s:Shared}{Q:VK}{us:List Value}{vs:List V}(F:dJ X.prog X.w X.K X.mg X.base CX k f fd ps sp)(hr:bK k X.A)(hb:d3 X.K fd ps ds)(hd:aA dvs ds)(hx:jO CX X E)
  (I:Inv X pins σ H s) (r:aA vs us) (h:sp (vs++dvs) H Q E):wpAny (model X.prog X.w) X.A (call (.ref f) us) (EP X pins σ Q) X.xe s:=by
 have r2:aA (vs++dvs) (us++ds):=r.append hd;have hl:(us++ds).length=ps.length:=by rw[<-r2.length];exact F.len _ _ _ _ h
 refine wpAny_call (Kq (F.run X.A X.stack s H ⟨us,[]⟩ (us++ds) (vs++dvs) Q E hr I.env0 (hb s us I.kIn hl) r2 h) fun r s' hq=>?_);cases r with
 |error e=>exact hx pins σ H s e s' I hq
 |ok fl=>
  cases fl with
  |ret u=>exact I.after hq
  |next=>exact HN hq
  |brk=>exact HN hq
  |cont=>exact HN hq
theorem C1(F:dJ X.prog X.w X.K X.mg X.base CX k f fd ps sp)(hr:bK k X.A)(hg:Gl X x)(hm:X.mg x=some (.ref f))(hk:Jq X.K (.ref f)=true)(hb:d3 X.K fd ps ds)(hd:aA dvs ds)(hx:jO CX X E)
  (ha:PA X (e::es) t) (hdb:(x==("__debug__":Str))=false:=by decide) (he:Gf (e::es) X.env=(false,eval e X.env)::Gf es X.env:=by rfl) (hpl:(backTo pos (Gf es X.env)).any (·.1)=false:=by rfl):
  PE X (.Call (.Name x p) (e::es) [] pos) (au sp dvs E t):=by
 intro pins s σ H Q I h;refine Jg (rD I hg hm ?_ hdb);refine K0 (h₀:=X.base) I.ok.mod.kin hk (thn (ha pos pins s σ H _ I h) fun us s1 ⟨vs,H1,I1,r,q⟩=>⟨I1.kIn,?_⟩) he hpl;exact ve F hr hb hd hx I1 r q
theorem C2{pl:Sem Bool}(he:PE X o ta)(c:Cls X.K C)(hm:vc X.K C m f)(F:dJ X.prog X.w X.K X.mg X.base CX k f fd ps sp)(hr:bK k X.A)(hb:d3 X.K fd ps ds)(hd:aA dvs ds)(hx:jO CX X E)(ha:PA X (e::es) t)
  (hst:Gf (e::es) X.env=(false,eval e X.env)::Gf es X.env:=by rfl) (hpl:(backTo pos (Gf es X.env)).any (·.1)=false:=by rfl)
  (ht:eval (.Call (.Attribute o m apos) (e::es) [] pos) X.env=(do
   let ov <-eval o X.env
   standAt apos.atName
   let(f,first) <-holding [ov] (KZ ov m pl)
   NS pos f first (backTo pos (Gf (e::es) X.env)) (Kc pos (Jl [] X.env))):=by rfl):
  PE X (.Call (.Attribute o m apos) (e::es) [] pos) (d2 C m sp dvs E ta t):=by
 intro pins s σ H Q I h;refine Me (pl:=pl) (thn (he pins s σ H _ I h) fun u s1 ⟨x,H1,I1,rx,a,dx,fs,ex,ea,l,q⟩=>?_) ht;subst ex;obtain rfl:u=Gi a:=rx;refine pN I1 ea c hm l ?_;refine K0 (first:=[.ref a]) (h₀:=X.base) I.ok.mod.kin hm.kp (thn (ha pos pins s1 σ H1 _ I1 q) fun us s2 ⟨vs,H2,I2,r,q2⟩=>⟨I2.kIn,?_⟩) hst hpl;exact ve (us:=.ref a::us) (vs:=.ref a::vs) F hr hb hd hx I2 (.cons rfl r) q2
theorem Bp{pl:Sem Bool}(he:PE X o ta)(c:Cls X.K C)(hm:vc X.K C m f)(F:dJ X.prog X.w X.K X.mg X.base CX k f fd ps sp)(hr:bK k X.A)(hb:d3 X.K fd ps ds)(hd:aA dvs ds)(hx:jO CX X E)
  (ht:eval (.Call (.Attribute o m apos) [] [] pos) X.env=(do
   let ov <-eval o X.env
   standAt apos.atName
   let(f,first) <-holding [ov] (KZ ov m pl)
   NS pos f first (backTo pos (Gf [] X.env)) (Kc pos (Jl [] X.env))):=by rfl):
  PE X (.Call (.Attribute o m apos) [] [] pos) (d2 C m sp dvs E ta af):=by
 intro pins s σ H Q I h;refine Me (pl:=pl) (thn (he pins s σ H _ I h) fun u s1 ⟨x,H1,I1,rx,a,dx,fs,ex,ea,l,q⟩=>?_) ht;subst ex;obtain rfl:u=Gi a:=rx;refine pN I1 ea c hm l ?_;exact PySem.W.callWith_K0 (first:=[.ref a]) I1.kIn hm.kp (ve (us:=[.ref a]) (vs:=[.ref a]) F hr hb hd hx I1 (.cons rfl .nil) q)
structure Mk(K:Fg)(C f:Addr):Prop where
 makes:N7 K C=true
 init:HZ K (.ref C) "__init__"=some (some (.ref f))
 fn:M7 K (.ref f)=true
 kp:Jq K (.ref C)=true
theorem Bq{pins:List (Addr×Obj)}{σ:St}{H:Hp}{s:Shared}{Q:VK}{us:List Value}{vs:List V}(M:Mk X.K C f)(F:dJ X.prog X.w X.K X.mg X.base CX k f fd ps sp)(hr:bK (k+1) X.A)(hb:d3 X.K fd ps ds)(hd:aA dvs ds)
  (hx:jO CX X E) (I:Inv X pins σ H s) (r:aA vs us)
  (h:∀x dx,H x=none->H dx=none->dx≠x->sp (.ref x::(vs++dvs)) (upd (upd H dx (.own x)) x (.ins C dx [])) (fun v H2=>v=.non/\Q (.ref x) H2) E):
  wpAny (model X.prog X.w) X.A (call (.ref C) us) (EP X pins σ Q) X.xe s:=by
 have hq:=h (s.heap.objs.size+1) s.heap.objs.size (I.hok.fresh (L7 _)) (I.hok.fresh (FU _)) (GK (IW _));have I2:=Inv.made (C:=C) I;have r2:aA (V.ref (s.heap.objs.size+1)::(vs++dvs)) (Gi (s.heap.objs.size+1)::(us++ds)):=.cons rfl (r.append hd);have hl:(Gi (s.heap.objs.size+1)::us++ds).length=ps.length:=by
  have e:=r2.length;rw[F.len _ _ _ _ hq]at e;exact e.symm
 refine wpAny_call (Bn (f:=f) I.kIn M.makes M.init (beq_iff_eq.mp M.fn) (Kq (F.run _ X.stack _ _ ⟨Gi (s.heap.objs.size+1)::us,[]⟩ (Gi (s.heap.objs.size+1)::(us++ds)) _ _ E (hr.make C us [])
  (I2.env0.make C us []) (hb _ (Gi (s.heap.objs.size+1)::us) I2.kIn hl) r2 hq) fun r s' hq'=>?_))
 cases r with
 |error e=>exact hx pins σ _ _ e s' I2 hq'
 |ok fl=>
  cases fl with
  |ret u=>
   obtain⟨v,H',I3,rv,ev,q3⟩:=I2.after hq';subst ev;exact⟨rv,⟨V.ref (s.heap.objs.size+1),H',I3,rfl,q3⟩⟩
  |next=>exact HN hq'
  |brk=>exact HN hq'
  |cont=>exact HN hq'
theorem C3(M:Mk X.K C f)(F:dJ X.prog X.w X.K X.mg X.base CX k f fd ps sp)(hr:bK (k+1) X.A)(hg:Gl X x)(hm:X.mg x=some (.ref C))(hb:d3 X.K fd ps ds)(hd:aA dvs ds)(hx:jO CX X E)
  (ha:PA X (e::es) t) (hdb:(x==("__debug__":Str))=false:=by decide) (he:Gf (e::es) X.env=(false,eval e X.env)::Gf es X.env:=by rfl) (hpl:(backTo pos (Gf es X.env)).any (·.1)=false:=by rfl):
  PE X (.Call (.Name x p) (e::es) [] pos) (nD C sp dvs E t):=by
 intro pins s σ H Q I h;refine Jg (rD I hg hm ?_ hdb);refine K0 (h₀:=X.base) I.ok.mod.kin M.kp (thn (ha pos pins s σ H _ I h) fun us s1 ⟨vs,H1,I1,r,q⟩=>⟨I1.kIn,?_⟩) he hpl;exact Bq M F hr hb hd hx I1 r q
end
section
variable{X:Cx}{CX:CXT}{k:Nat}{f C:Addr}{fd:Gc}{ps ks:List Str}{sp:Sp}{E:XK}{x m:Str}{p pos apos kpos:Pos}{e o:Expr}{es:List Expr}{kws:List Keyword}{te ta:TE}{t tk:TA}{nm:Option Str}
variable{g:List Value->List Value->List Value}{gV:List V->List V->List V}
end
structure ax(N P:List Str)(sc:Scope):Prop where
 kind:sc.kind=.function
 co:sc.isCoroutine=false
 gen:sc.isGenerator=false
 nd:N.Nodup
 pre:N.take P.length=P
 par:∀x∈P,sc.names.lookup x=some .local\/sc.names.lookup x=some .cell
 nofree:∀y∈sc.names,y.2≠.free
theorem sS{kindOf:Str->Option Gy}{x:Str}:∀{binds:List (Str×Value)} {m:Str->Option Value},(∀v,(x,v)∉binds)->bindL kindOf binds m x=m x
 | [],_,_=>rfl
 | (n,v)::r,m,h=>by
  unfold bindL;rw[sS fun w hw=>h w (FX _ hw)]
  split
  ·have:x≠n:=by rintro rfl;exact h v F2
   simp[this]
  ·rfl
theorem sU{kindOf:Str->Option Gy}{x:Str}:∀{binds:List (Str×Value)} {m:Str->Option Value},(∀v,(x,v)∉binds)->bindC kindOf binds m x=m x
 | [],_,_=>rfl
 | (n,v)::r,m,h=>by
  unfold bindC;rw[sU fun w hw=>h w (FX _ hw)]
  split
  ·rfl
  ·have:x≠n:=by rintro rfl;exact h v F2
   simp[this]
theorem sV{kindOf:Str->Option Gy}{x:Str}{v:Value}:∀{P:List Str} {vs:List Value} {i:Nat} {m:Str->Option Value},P.Nodup->P[i]?=some x->vs[i]?=some v->kindOf x=some .local->
  bindL kindOf (P.zip vs) m x=some v
 | [],_,_,_,_,h,_,_=>by simp at h
 |_::_,[],_,_,_,_,h,_=>by simp at h
 |p::P,w::vs,0,m,nd,h1,h2,hk=>by
  simp at h1 h2;subst h1;subst h2;show bindL kindOf ((p,w)::P.zip vs) m p=_;unfold bindL;rw[sS fun v hv=>(Hi.mp nd).1 (LV hv).1,if_pos hk];simp
 |p::P,w::vs,i+1,m,nd,h1,h2,hk=>by
  show bindL kindOf ((p,w)::P.zip vs) m x=_;unfold bindL;exact sV (i:=i) (Hi.mp nd).2 (by simpa using h1) (by simpa using h2) hk
theorem sW{kindOf:Str->Option Gy}{x:Str}{v:Value}:∀{P:List Str} {vs:List Value} {i:Nat} {m:Str->Option Value},P.Nodup->P[i]?=some x->vs[i]?=some v->kindOf x≠some .local->
  bindC kindOf (P.zip vs) m x=some v
 | [],_,_,_,_,h,_,_=>by simp at h
 |_::_,[],_,_,_,_,h,_=>by simp at h
 |p::P,w::vs,0,m,nd,h1,h2,hk=>by
  simp at h1 h2;subst h1;subst h2;show bindC kindOf ((p,w)::P.zip vs) m p=_;unfold bindC;rw[sU fun v hv=>(Hi.mp nd).1 (LV hv).1,if_neg hk];simp
 |p::P,w::vs,i+1,m,nd,h1,h2,hk=>by
  show bindC kindOf ((p,w)::P.zip vs) m x=_;unfold bindC;exact sW (i:=i) (Hi.mp nd).2 (by simpa using h1) (by simpa using h2) hk
noncomputable def start(N:List Str)(vs:List V):St:=vs.map some++GC (N.length-vs.length) none
noncomputable def lh(CX:CXT)(P:Program)(w:World)(K:Fg)(mg:Str->Option Value)(base:Heap)(N:List Str)(qual:Str)(scope:Scope)(f:Addr)(cd:Value)(A:Around)(outer:List Env)(s:Shared)(H:Hp)(E:XK):Cx where
 prog:=P
 w:=w
 K:=K
 mg:=mg
 base:=base
 A:=A.deeper (envOfC qual scope s.heap.objs.size f cd)
 N:=N
 s₀:=s
 H₀:=H
 env:=envOfC qual scope s.heap.objs.size f cd
 outer:=outer
 stack:=envOfC qual scope s.heap.objs.size f cd::outer
 ex:=[]
 calm:=true
 fn:=fun _=>true
 pn:=[]
 xe:=fun e s'=>wpAny (model P w) (A.deeper (envOfC qual scope s.heap.objs.size f cd)) («leaving» (envOfC qual scope s.heap.objs.size f cd) e) (fun _ s''=>CX outer H s E e s'') (fun e' s''=>CX outer H s E e' s'') s'
theorem vf{sc:Scope}{n:Nat}{x:Str}(h:sc.names.lookup x=some .cell):∃c,(Os n sc.names []).lookup x=some c:=by
 have q:=L8 sc.names n [] (.inl h);exact Lx.mp q
theorem zV{CX:CXT}{P:Program}{w:World}{K:Fg}{mg:Str->Option Value}{base:Heap}{N ps:List Str}{qual:Str}{scope:Scope}{f:Addr}{cd:Value}{A:Around}{outer:List Env}{s s1:Shared}{H:Hp}{E:XK}{us:List Value}{vs:List V}
  (S:ax N ps scope) (hd:A.handled=none) (e0:oS P w K mg base A outer s H) (hl:vs.length=ps.length) (r:aA vs us)
  (x:InCallC s s.heap.objs.size (bindL (envOfC qual scope s.heap.objs.size f cd).kindOf (ps.zip us) fun _=>none) (Os (s.heap.objs.size+1) scope.names []) (bindC (envOfC qual scope s.heap.objs.size f cd).kindOf (ps.zip us) fun _=>none) s1):
  Inv (lh CX P w K mg base N qual scope f cd A outer s H E) [] (start N vs) H s1:=by
 have hpl:ps.length<=N.length:=by have:=congrArg List.length S.pre;rw[Hb]at this;omega
 obtain⟨h1,tk,rfl,hk⟩:=x.done;have noA:∀b:Addr,b∉(lh CX P w K mg base N qual scope f cd A outer s H E).ex:=fun b z=>absurd (show b∈([]:List Addr)from z) (by simp);refine⟨⟨e0.mod,S.kind,rfl,rfl,FU _,fun y z c h1 h2=>?_,fun y hy=>?_,fun y c _ h=>?_,fun _=>hd,Around.frames_deeper e0.frames,.inr ⟨rfl,rfl⟩,fun b z=>absurd z (noA b),e0.bs,e0.bsz,fun b _ _=>noA b,fun b z=>absurd z (noA b),e0.funs,e0.frf⟩,
  rfl,e0.bare,Un.kept hk,⟨_,x.toInCall.ns,fun i y v h1 h2 h3=>?_⟩,fun y c h=>⟨_,x.cell y c h⟩,e0.hok.fresh (FU _),fun y c h=>?_,fun p hp=>absurd (show p∈([]:List (Addr×Obj))from hp) (by simp),e0.hok.kept hk,?_⟩
 ·exact name_of_addr x.apart (GT h1) (GT h2)
 ·have hy:scope.names.lookup y=some .cell\/scope.names.lookup y=some .free:=hy
  rcases hy with hy|hy
  ·exact vf hy
  ·exact absurd rfl (S.nofree _ (GT hy))
 ·exact He (x.above y c (GT h))
 ·have hi:i<vs.length:=by
   unfold start at h2;by_cases hi:i<vs.length
   ·exact hi
   ·rw[JA (by simpa using hi)]at h2
    rw[List.getElem?_replicate]at h2
    split at h2<;>cases h2
  have ha:vs[i]?=some v:=by
   unfold start at h2;rw[IQ (by simpa using hi),FZ]at h2;cases e:vs[i]? with
   |none=>rw[e]at h2;cases h2
   |some a=>rw[e]at h2;cases h2;rfl
  obtain⟨u,hu,rv⟩:=r.get ha;have hp:ps[i]?=some y:=by
   rw[<-S.pre,List.getElem?_take_of_lt (by omega)];exact h1
  have ndP:ps.Nodup:=by rw[<-S.pre];exact S.nd.sublist (List.take_sublist _ _)
  refine⟨u,rv,?_⟩;rcases S.par y (F0 hp)with k|k
  ·exact .inl ⟨k,sV ndP hp hu k⟩
  ·obtain⟨c,e⟩:=vf (n:=s.heap.objs.size+1) k
   refine .inr ⟨.inl k,c,e,?_⟩;have q:=x.cell y c e;rw[sW ndP hp hu (by show scope.names.lookup y≠_;rw[k];decide)]at q;exact q
 ·exact e0.hok.fresh (He (x.above y c (GT h)))
 ·unfold start
  show _=N.length;rw[Ga,FQ,List.length_replicate];omega
theorem E5{CX:CXT}{P:Program}{w:World}{K:Fg}{mg:Str->Option Value}{base:Heap}{k:Nat}{f:Addr}{name qual:Str}{params:Arguments}{body:List Stmt}{scope:Scope}{dV kV doc pm cdv ct oc:Value}{an od:Option Addr}
  {osl:Array (Option Value)} {N ps:List Str} {sp:Sp} (lk:K.lookup f=some ⟨oc,od,.func (JK name qual params body scope dV kV doc pm an cdv ct),osl⟩) (hcd:Mf K cdv qual=true) (S:ax N ps scope)
  (len:∀vs H Q E,sp vs H Q E->vs.length=ps.length)
  (hbody:∀(A:Around)(outer:List Env)(s:Shared)(H:Hp)(vs:List V)(Q:VK)(E:XK),bK k (A.deeper (envOfC qual scope s.heap.objs.size f cdv))->sp vs H Q E->
   ∃t,PSs (lh CX P w K mg base N qual scope f cdv A outer s H E) body t/\t { nx:=fun _ H'=>Q .non H',rt:=Q } (start N vs) H):
  dJ P w K mg base CX (k+1) f (JK name qual params body scope dV kV doc pm an cdv ct) ps sp:=by
 refine⟨len,fun A outer s H args us vs Q E hr e0 hb r hsp=>?_⟩;have hl:=len _ _ _ _ hsp;have KX:K.In s.heap:=e0.mod.kin.keeps fun b o e=>(e0.bs b o e).1;have lim:s.heap.NoLimit:=e0.mod.nolimit.keeps fun b o e=>(e0.bs b o e).1;have hkind:∀y∈ps.zip us,scope.names.lookup y.1=some .local\/(scope.names.lookup y.1=some .cell/\((Os (s.heap.objs.size+1) scope.names []).lookup y.1).isSome=true):=fun⟨n,v⟩ hy=>by
  rcases S.par n (LV hy).1 with q|q
  ·exact .inl q
  ·exact .inr ⟨q,L8 _ _ _ (.inl q)⟩
 refine codeAny_call_function hr.depth (KX _ _ lk) rfl S.co S.gen rfl (PySem.W.codeRec_of KX hcd) (hb _ _ _ _ ?_);refine wpAny_newFunctionEnv_cells S.kind hkind fun env he s1 x=>?_;subst he;refine⟨lim.keeps x.toInCall.keep,codeAny_func ?_⟩;obtain⟨t,ht,hq⟩:=hbody A outer s H vs Q E (hr.deeper _) hsp;have I:Inv (lh CX P w K mg base N qual scope f cdv A outer s H E) [] (start N vs) H s1:=zV S hr.hd e0 hl r x;refine Hd (ht [] s1 (start N vs) H _ I hq) (fun fl s' hs=>?_) fun e s' hs=>hs;have fin:∀{σ':St} {H':Hp} {v:V} {u:Value},Inv (lh CX P w K mg base N qual scope f cdv A outer s H E) [] σ' H' s'->aB v u->Q v H'->CE outer P w H s Q u s':=
  fun{σ' H' v u} J rv q=>⟨v,H',J.os,J.bare,J.base,J.hok,rv,q⟩
 cases fl with
 |ret u=>
  obtain⟨v,σ',H',J,rv,q⟩:=hs;exact fin J rv q
 |next=>
  obtain⟨σ',H',J,q⟩:=hs;exact fin (v:=V.non) (u:=Hz) J rfl q
 |brk=>
  obtain⟨_,_,_,q⟩:=hs;exact HN q
 |cont=>
  obtain⟨_,_,_,q⟩:=hs;exact HN q
end L2
namespace L2
open PySem PySem.Spec PyProof.Rows
section
variable{X:Cx}{x:Str}{p pos:Pos}{e:Expr}{es:List Expr}{t:TA}{id T:String}{r:List V->Hp->VK->Prop}
noncomputable def tCB(r:List V->Hp->VK->Prop)(t:TA):TE:=fun σ H Q=>t σ H fun vs H1=>r vs H1 Q
theorem ay(hc:bP X (.builtin id) r)(hg:Gl X x)(hm:X.mg x=none)(hv:JJ x=some (.builtin id))(ha:PA X (e::es) t)(hn:x≠"__name__":=by decide)(hdb:(x==("__debug__":Str))=false:=by decide)
  (he:Gf (e::es) X.env=(false,eval e X.env)::Gf es X.env:=by rfl) (hpl:(backTo pos (Gf es X.env)).any (·.1)=false:=by rfl):PE X (.Call (.Name x p) (e::es) [] pos) (tCB r t):=by
 intro pins s σ H Q I h;refine Jg (i5 I hg hm hv ?_ hn hdb);exact PyProof.Rows.callWith_builtin1 (thn (ha pos pins s σ H _ I h) fun us s1 ⟨vs,H1,I1,r1,q1⟩=>hc pins s1 σ H1 vs us Q I1 r1 q1) he hpl
theorem bw(hc:bP X (.type T) r)(hg:Gl X x)(hm:X.mg x=none)(hv:JJ x=some (.type T))(ha:PA X (e::es) t)(hn:x≠"__name__":=by decide)(hdb:(x==("__debug__":Str))=false:=by decide)
  (he:Gf (e::es) X.env=(false,eval e X.env)::Gf es X.env:=by rfl) (hpl:(backTo pos (Gf es X.env)).any (·.1)=false:=by rfl):PE X (.Call (.Name x p) (e::es) [] pos) (tCB r t):=by
 intro pins s σ H Q I h;refine Jg (i5 I hg hm hv ?_ hn hdb);exact Hl (thn (ha pos pins s σ H _ I h) fun us s1 ⟨vs,H1,I1,r1,q1⟩=>hc pins s1 σ H1 vs us Q I1 r1 q1) he hpl
end
end L2
namespace HT
open PySem PyProof.Rows
section
open PySem.SeqAt
open PySem.AutoSeq1 (wpAny_loadPart')
open PySem.MeetsSeq PySem.MeetsSeq2 PySem.MeetsSeq3
end
section
variable{prog:Program}{w:World}{A:Around}{E:Value->Shared->Prop}{s:Shared}
theorem C4{t b:Addr}{vs ws:List Value}{Q:Value->Shared->Prop}(ht:IsTup s.heap t vs.toArray)(hb:IsTup s.heap b ws.toArray)(hv:vs≠[])
  (h1:ws=[]->Q (.ref t) s) (h2:ws≠[]->Q (.ref s.heap.objs.size) { s with heap:=s.heap.push { cls:=.type "tuple",data:=.seq (vs++ws).toArray } })
  (hsz:vs.length+ws.length<=FY):wpAny (model prog w) A (IL .Add (.ref t) (.ref b)) Q E s:=by
 obtain⟨⟨cls,dd,data,sl⟩,ho,hc,n,hd⟩:=id ht;obtain⟨⟨cls2,dd2,data2,sl2⟩,ho2,hc2,n2,hd2⟩:=id hb;simp only at hc hd hc2 hd2;subst hc hd hc2 hd2;have e:vs.toArray++ws.toArray=(vs++ws).toArray:=by simp
 by_cases hw:ws=[]
 ·exact Nc ⟨_,ho,rfl⟩ ⟨_,ho2,rfl⟩ Ly MP J4 JS (JL _ _)
   (tuple_addW1 t b vs.toArray ws.toArray n n2 dd dd2 sl sl2 (by simpa using hv) (by simp[hw])) ⟨ho,ho2,h1 hw⟩
 ·refine Nc ⟨_,ho,rfl⟩ ⟨_,ho2,rfl⟩ Ly MP J4 JS (JL _ _)
   (tuple_addW2 t b vs.toArray ws.toArray n n2 dd dd2 sl sl2 (by simpa using hv) (by simpa using hw) (by rw[F8,F8];exact hsz)) ⟨ho,ho2,?_⟩
  rw[e];exact h2 hw
noncomputable def sIx(n d:Nat):Option Int->Nat
 |none=>d
 |some v=>if v<0 then(v+(n:Int)).toNat else min v.toNat n
theorem D0(n d:Nat)(hd:d<=n)(o:Option Int):sIx n d o<=n:=by
 cases o with
 |none=>exact hd
 |some v=>
  show(if v<0 then(v+(n:Int)).toNat else min v.toNat n)<=n;by_cases hv:v<0
  ·rw[if_pos hv];omega
  ·rw[if_neg hv];exact Nat.min_le_right _ _
theorem xE(v:Int)(n d:Nat):(if v<0 then max (v+(n:Int)) 0 else min v (n:Int))=((sIx n d (some v):Nat):Int):=by
 show(if v<0 then max (v+(n:Int)) 0 else min v (n:Int))=(((if v<0 then(v+(n:Int)).toNat else min v.toNat n):Nat):Int);by_cases hv:v<0
 ·simp only[if_pos hv];omega
 ·simp only[if_neg hv];omega
theorem yn(lo hi:Option Int)(n:Nat):JE lo hi 1 (n:Int)=(((sIx n 0 lo:Nat):Int),((sIx n n hi:Nat):Int)):=by
 have h1:¬((1:Int)<0):=by omega
 unfold JE;simp only[h1,if_false];refine Prod.ext ?_ ?_
 ·cases lo with
  |none=>rfl
  |some v=>exact xE v n 0
 ·cases hi with
  |none=>rfl
  |some v=>exact xE v n n
theorem yo(i j:Nat):IR (i:Int) (j:Int) 1=j-i:=by
 unfold IR;have h1:(1:Int)>0:=by omega
 simp only[h1,if_true,Int.ediv_one]
 split<;>omega
theorem pO{v:Value}{o:Option Int}{Q:Option Int->Shared->Prop}(p:IsPart v o)(h:Q o s):wpAny (model prog w) A (Builtin.Slice.slicePartIndex v) Q E s:=by
 cases p with
 |none=>exact slicePart_none h
 |int i t=>exact slicePart_int h
theorem oT{sl:Addr}{vl vu:Value}{lo hi:Option Int}{n:Nat}{Q:Int×Int×Nat->Shared->Prop}(hs:s.heap.IsSliceOf sl vl vu .none)(pl:IsPart vl lo)(pu:IsPart vu hi)
  (h:Q (((sIx n 0 lo:Nat):Int),1,sIx n n hi-sIx n 0 lo) s):wpAny (model prog w) A (Lf (.ref sl) (pure (n:Int))) Q E s:=by
 obtain⟨os,hos,hcs,hds⟩:=id hs;unfold Lf Builtin.Slice.sliceFields;refine FM (FM (GM hos hds (x:=vl) rfl (FM (GM hos hds (x:=vu) rfl (FM (GM hos hds (x:=.none) rfl (FT ?_)))))));refine FM (slicePart_none ?_);show wpAny _ _ (if((1:Int)==0)=true then _ else _) _ _ s;rw[if_neg (by decide)];refine FM (pO pl (FM (pO pu (FM (FT ?_)))));show wpAny _ _ (match JE lo hi 1 (n:Int)with| (lo,hi)=>pure (lo,(1:Int),IR lo hi 1)) _ _ s;rw[yn lo hi n];show wpAny _ _ (pure (((sIx n 0 lo:Nat):Int),(1:Int),IR ((sIx n 0 lo:Nat):Int) ((sIx n n hi:Nat):Int) 1)) _ _ s;rw[yo];exact FT h
theorem Br(xs:Array Value)(i k:Nat):((F5 k).filterMap fun(m:Nat)=>xs[((i:Int)+(m:Int)*1).toNat]?).toArray=((xs.toList.drop i).take k).toArray:=by
 have e:(fun(m:Nat)=>xs[((i:Int)+(m:Int)*1).toNat]?)=fun m=>xs[i+m]?:=by
  funext m
  have:((i:Int)+(m:Int)*1).toNat=i+m:=by omega
  rw[this]
 rw[e];have:=pick_run xs i k;rw[List.filterMap_map]at this;have e2:((fun x=>xs[x]?)∘fun x=>i+x)=fun m=>xs[i+m]?:=rfl;rw[e2]at this;rw[this]
theorem ox{t sl:Addr}{items:Array Value}{vl vu:Value}{lo hi:Option Int}{Q:Value->Shared->Prop}(ht:IsTup s.heap t items)(hs:s.heap.IsSliceOf sl vl vu .none)(pl:IsPart vl lo)(pu:IsPart vu hi)
  (hw:¬(sIx items.size 0 lo=0/\sIx items.size items.size hi=items.size))
  (h:Q (.ref s.heap.objs.size) { s with heap:=s.heap.push { cls:=.type "tuple",data:=.seq ((items.toList.drop (sIx items.size 0 lo)).take (sIx items.size items.size hi-sIx items.size 0 lo)).toArray } })
  (hsz:items.size<=FY):wpAny (model prog w) A (getItem (.ref t) (.ref sl)) Q E s:=by
 have htake:sizeOk (.seq ((items.toList.drop (sIx items.size 0 lo)).take (sIx items.size items.size hi-sIx items.size 0 lo)).toArray):=by
  show((items.toList.drop (sIx items.size 0 lo)).take (sIx items.size items.size hi-sIx items.size 0 lo)).toArray.size<=FY;rw[F8,Hb,Kd,Ja];omega
 have hj:sIx items.size items.size hi<=items.size:=D0 _ _ (FU _) hi;obtain⟨os,hos,hcs,hds⟩:=id hs;have hTs:s.TypeIs (.ref sl) "slice":=⟨os,hos,hcs⟩;unfold getItem
 try with_reducible refine HX ?_
 first|refine FM (FT ?_)|skip
 refine FM (wpAny_sequenceKey ht.typeIs (by decide) ?_);refine FM (Ho (name:=IX "__getitem__") ht.typeIs Jd
  (G0 Jd ht.typeIs entry_tuple_getitem ?_ (args_tuple_getitem _ _)))
 show wpAny _ _ (Lg (.ref t)>>=_) _ _ s;refine FM (tupleItemsOf_ ht ?_);refine FM (Nd hTs ?_);rw[if_pos (by decide)];refine FM (oT hs pl pu ?_);have hno:¬((((sIx items.size 0 lo:Nat):Int)==0&&(1:Int)==1&&(sIx items.size items.size hi-sIx items.size 0 lo)==items.size)=true):=by
  intro q;rw[G3,G3]at q;have q1:((sIx items.size 0 lo:Nat):Int)=0:=eq_of_beq q.1.1;have q2:sIx items.size items.size hi-sIx items.size 0 lo=items.size:=eq_of_beq q.2;exact hw ⟨by omega,by omega⟩
 show wpAny _ _ (if(((sIx items.size 0 lo:Nat):Int)==0&&(1:Int)==1&&(sIx items.size items.size hi-sIx items.size 0 lo)==items.size)=true then _ else _) _ _ s;rw[if_neg hno,Br]
 first
  |exact FM (m:=HQ _) (Hv (FT ⟨_,rfl,FT h⟩) htake)
  |exact FM (m:=HQ _) (Hv (FM (FT (FT ⟨_,rfl,FT h⟩))) htake)
  |exact FM (FM (m:=HQ _) (Hv (FT (FT ⟨_,rfl,FT h⟩)) htake))
  |exact FM (FM (m:=HQ _) (Hv (FT ⟨_,rfl,FT h⟩) htake))
end
end HT
namespace L2
open PySem PySem.Spec PyProof.Rows
noncomputable abbrev TO:=St->Hp->(Option Int->Hp->Prop)->Prop
noncomputable def PO(X:Cx)(e:Option Expr)(t:TO):Prop:=
 ∀(pins:List (Addr×Obj))(s:Shared)(σ:St)(H:Hp)(Q:Option Int->Hp->Prop),Inv X pins σ H s->t σ H Q->
  wpAny (model X.prog X.w) X.A (evalPart e X.env) (fun u s'=>∃o H',Inv X pins σ H' s'/\IsPart u o/\Q o H') X.xe s
noncomputable def ig:TO:=fun _ H Q=>Q none H
noncomputable def li(t:TE):TO:=fun σ H Q=>t σ H fun x H1=>∃i,x=.int i/\Q (some i) H1
theorem lj{ns:List Int}:∀{us:List Value},aA (ns.map V.int) us->IntsAre us ns:=by
 induction ns with
 |nil=>intro us r;rw[Jr]at r;cases r;exact .nil
 |cons n ns ih=>
  intro us r;rw[F6]at r;cases r with
  |cons r1 r2=>
   obtain⟨t,e⟩:=r1;subst e;exact .cons n t (ih r2)
section
variable{X:Cx}{e:Expr}{te:TE}{lo hi:Option Expr}{tl th:TO}{pos p2:Pos}
theorem nE:PO X none ig:=by
 intro pins s σ H Q I h;rw[evalPart_none];exact FT ⟨none,H,I,.none,h⟩
theorem nG(h:PE X e te):PO X (some e) (li te):=by
 intro pins s σ H Q I hw;rw[evalPart_some];refine thn (h pins s σ H _ I hw) fun u s1 ⟨x,H1,I1,r1,q1⟩=>?_;obtain⟨i,rfl,q⟩:=q1;obtain⟨t,rfl⟩:=r1;exact⟨some i,H1,I1,.int i t,q⟩
noncomputable def SlR(X:Cx)(r:V->Option Int->Option Int->Hp->VK->Prop):Prop:=
 ∀(pins:List (Addr×Obj))(s:Shared)(σ:St)(H:Hp)(x:V)(v vl vu:Value)(lo hi:Option Int)(sl:Addr)(Q:VK),Inv X pins σ H s->aB x v->s.heap.IsSliceOf sl vl vu .none->IsPart vl lo->IsPart vu hi->r x lo hi H Q->
  ∃T id,Mw (.type T) "__getitem__"=pure (some (.builtin id))/\s.TypeIs v T/\wpAny (model X.prog X.w) X.A (getItem v (.ref sl)) (EP X pins σ Q) X.xe s
theorem SlR.or{r r':V->Option Int->Option Int->Hp->VK->Prop}(h:SlR X r)(h':SlR X r'):SlR X (fun x lo hi H Q=>r x lo hi H Q\/r' x lo hi H Q):=by
 intro pins s σ H x v vl vu lo hi sl Q I rx hs pl pu q;rcases q with q|q
 ·exact h pins s σ H x v vl vu lo hi sl Q I rx hs pl pu q
 ·exact h' pins s σ H x v vl vu lo hi sl Q I rx hs pl pu q
noncomputable def tSl(r:V->Option Int->Option Int->Hp->VK->Prop)(te:TE)(tl th:TO):TE:=fun σ H Q=>te σ H fun x H1=>tl σ H1 fun l H2=>th σ H2 fun u H3=>r x l u H3 Q
theorem ll{r:V->Option Int->Option Int->Hp->VK->Prop}(hr:SlR X r)(he:PE X e te)(hl:PO X lo tl)(hu:PO X hi th):PE X (.Subscript e (.Slice lo hi none p2) pos) (tSl r te tl th):=by
 intro pins s σ H Q I h;refine N8 (thn (he pins s σ H _ I h) fun v s1 ⟨x,H1,I1,r1,q1⟩=>?_);refine wpAny_Slice (thn (hl pins s1 σ H1 _ I1 q1) fun vl s2 ⟨l,H2,I2,pl,q2⟩=>thn (hu pins s2 σ H2 _ I2 q2) fun vu s3 ⟨u,H3,I3,pu,q3⟩=>?_);rw[evalPart_none];refine FT ?_;have I4:Inv X pins σ H3 { s3 with heap:=s3.heap.push { cls:=.type "slice",data:=.fields #[vl,vu,.none] } }:=I3.kept (t':=s3.toks) fun b ob q=>FP _ q;obtain⟨T,id,hT,ht,hg⟩:=hr pins { s3 with heap:=s3.heap.push { cls:=.type "slice",data:=.fields #[vl,vu,.none] } } σ H3 x v vl vu l u s3.heap.objs.size Q I4 r1 (Heap.IsSliceOf.new ..) pl pu q3;show wpAny (model X.prog X.w) X.A (MQ e (.Slice lo hi none p2) v (.ref s3.heap.objs.size)) (EP X pins σ Q) X.xe { s3 with heap:=s3.heap.push { cls:=.type "slice",data:=.fields #[vl,vu,.none] } };exact tail_any (ops:=[.ref s3.heap.objs.size,v]) ht hT hg (by with_unfolding_all rfl)
noncomputable def mF(xs:List V)(lo hi:Option Int):List V:=(xs.drop (HT.sIx xs.length 0 lo)).take (HT.sIx xs.length xs.length hi-HT.sIx xs.length 0 lo)
theorem wT(xs:List V)(lo hi:Option Int):(mF xs lo hi).length<=xs.length:=by
 unfold mF;rw[Hb,Kd];omega
noncomputable def Fx(K:Fg):V->Option Int->Option Int->Hp->VK->Prop:=fun x lo hi H Q=>∃a xs,x=.ref a/\SqT K H a xs/\
 ¬(HT.sIx xs.length 0 lo=0/\HT.sIx xs.length xs.length hi=xs.length)/\∀p,H p=none->Q (.ref p) (upd H p (.tup (mF xs lo hi)))
theorem Ea:SlR X (Fx X.K):=by
 intro pins s σ H x v vl vu lo hi sl Q I rx hs pl pu h;obtain⟨a,xs,rfl,hx,hw,q⟩:=h;cases rx;obtain⟨its,r,ht,hz⟩:=I.tuple hx;have hlen:its.toArray.size=xs.length:=by rw[F8];exact r.length.symm
 refine⟨"tuple",_,Jd.lookup,ht.typeIs,?_⟩;refine HT.ox ht hs pl pu (by rw[hlen];exact hw) ?_ (by rw[hlen];exact hz);rw[hlen];refine⟨.ref s.heap.objs.size,_,I.laid (t':=s.toks) (o:=.tup (mF xs lo hi)) (fun b ob q=>FP _ q) (FU _) ?_,rfl,q _ (I.hok.fresh (FU _))⟩;exact⟨Gs (wT xs lo hi) hz,_,(r.drop (HT.sIx xs.length 0 lo)).take (HT.sIx xs.length xs.length hi-HT.sIx xs.length 0 lo),dH.new _ _⟩
noncomputable def E6(K:Fg):R2:=fun x y H Q=>∃a b xs ys,x=.ref a/\y=.ref b/\SqT K H a xs/\SqT K H b ys/\xs≠[]/\xs.length+ys.length<=FY/\
 (ys=[]->Q (.ref a) H)/\(ys≠[]->∀p,H p=none->Q (.ref p) (upd H p (.tup (xs++ys))))
theorem aA.nil_iff{xs:List V}{us:List Value}(r:aA xs us):us=[]↔xs=[]:=by
 cases r with
 |nil=>simp
 |cons _ _=>simp
theorem C5:OpR X (IL .Add) (E6 X.K):=by
 intro pins s σ H x y v u Q I rx ry h;obtain⟨a,b,xs,ys,rfl,rfl,ha,hb,hx,hz,q1,q2⟩:=h;cases rx;cases ry;obtain⟨its,r1,p1,_⟩:=I.tuple ha;obtain⟨its2,r2,p2,_⟩:=I.tuple hb;refine HT.C4 p1 p2 (fun z=>hx (r1.nil_iff.mp z)) (fun z=>⟨.ref a,H,I,rfl,q1 (r2.nil_iff.mp z)⟩) (fun z=>?_) (by rw[<-r1.length,<-r2.length];exact hz);refine⟨.ref s.heap.objs.size,_,I.laid (t':=s.toks) (o:=.tup (xs++ys)) (fun b ob q=>FP _ q) (FU _) ?_,rfl,q2 (fun w=>z (r2.nil_iff.mpr w)) _ (I.hok.fresh (FU _))⟩;exact⟨by rw[Ga];exact hz,_,r1.append r2,dH.new _ _⟩
end
end L2
namespace L2
open PySem PySem.Spec PyProof.Rows
noncomputable def ixN(n:Nat)(i:Int):Option Nat:=if 0<=i then(if i<n then some i.toNat else none)else if -(n:Int)<=i then some (i+n).toNat else none
noncomputable def atI{α:Type}(xs:List α)(i:Int):Option α:=(ixN xs.length i).bind fun j=>xs[j]?
theorem xF{n:Nat}{i:Int}{j:Nat}(h:ixN n i=some j):seqIndex? i n=some j/\j<n/\-(n:Int)<=i/\i<n:=by
 unfold ixN at h;by_cases h0:0<=i
 ·rw[if_pos h0]at h
  by_cases h1:i<n
  ·rw[if_pos h1]at h
   have e:i.toNat=j:=F1 h;exact⟨by rw[NI h0 h1,e],by omega,by omega,h1⟩
  ·rw[if_neg h1]at h;cases h
 ·rw[if_neg h0]at h
  by_cases h1:-(n:Int)<=i
  ·rw[if_pos h1]at h
   have e:(i+n).toNat=j:=F1 h;exact⟨by rw[Nf (by omega) h1,e],by omega,h1,by omega⟩
  ·rw[if_neg h1]at h;cases h
theorem xG{α:Type}{xs:List α}{i:Int}{v:α}(h:atI xs i=some v):∃j,seqIndex? i xs.length=some j/\xs[j]?=some v/\j<xs.length/\-(xs.length:Int)<=i/\i<xs.length:=by
 unfold atI at h;cases e:ixN xs.length i with
 |none=>rw[e]at h;cases h
 |some j=>
  rw[e]at h;obtain⟨h1,h2,h3,h4⟩:=xF e;exact⟨j,h1,h,h2,h3,h4⟩
theorem dh{α:Type}{xs:List α}{j:Nat}{v:α}(h:xs[j]?=some v):atI xs (j:Int)=some v:=by
 have hj:j<xs.length:=(FS.mp h).1;have e:ixN xs.length (j:Int)=some j:=by
  unfold ixN;rw[if_pos (by omega),if_pos (by omega)];simp
 unfold atI;rw[e];exact h
noncomputable def C6(b:Expr):Prop:=∀o i,L9 b false o i=operate [o,i] (getItem o i)
noncomputable def IxR(X:Cx)(r:R2):Prop:=
 ∀(value slice:Expr)(pins:List (Addr×Obj))(s:Shared)(σ:St)(H:Hp)(x y:V)(v u:Value)(Q:VK),Inv X pins σ H s->aB x v->aB y u->r x y H Q->
  L9 slice false v u=operate [v,u] (getItem v u)->wpAny (model X.prog X.w) X.A (MQ value slice v u) (EP X pins σ Q) X.xe s
noncomputable def MtR(X:Cx)(id:String)(r:V->List V->Hp->VK->Prop):Prop:=
 ∀(pins:List (Addr×Obj))(s:Shared)(σ:St)(H:Hp)(x:V)(xs:List V)(v:Value)(us:List Value)(Q:VK),Inv X pins σ H s->aB x v->aA xs us->r x xs H Q->
  wpAny (model X.prog X.w) X.A (call (.builtin id) (v::us)) (EP X pins σ Q) X.xe s
section
variable{X:Cx}{a b:Expr}{ta tb:TE}{pos:Pos}
theorem IxR.or{r r':R2}(h:IxR X r)(h':IxR X r'):IxR X (fun x y H Q=>r x y H Q\/r' x y H Q):=by
 intro value slice pins s σ H x y v u Q I rx ry q hs;rcases q with q|q
 ·exact h value slice pins s σ H x y v u Q I rx ry q hs
 ·exact h' value slice pins s σ H x y v u Q I rx ry q hs
theorem MtR.or{id:String}{r r':V->List V->Hp->VK->Prop}(h:MtR X id r)(h':MtR X id r'):MtR X id (fun x xs H Q=>r x xs H Q\/r' x xs H Q):=by
 intro pins s σ H x xs v us Q I rx rs q;rcases q with q|q
 ·exact h pins s σ H x xs v us Q I rx rs q
 ·exact h' pins s σ H x xs v us Q I rx rs q
theorem aN{r:R2}(hr:IxR X r)(ha:PE X a ta)(hb:PE X b tb)(hs:C6 b):PE X (.Subscript a b pos) (tOp r ta tb):=by
 intro pins s σ H Q I h;exact N8 (Bj ha hb I h fun v u s2 x y H2 I2 rx ry q=>hr a b pins s2 σ H2 x y v u Q I2 rx ry q (hs _ _))
noncomputable def b9(K:Fg):R2:=fun x y H Q=>∃p xs i v,x=.ref p/\y=.int i/\SqL K H p xs/\atI xs i=some v/\Q v H
noncomputable def bU(K:Fg):R2:=fun x y H Q=>∃p xs i v,x=.ref p/\y=.int i/\SqT K H p xs/\atI xs i=some v/\Q v H
theorem be:IxR X (b9 X.K):=by
 intro value slice pins s σ H x y v u Q I rx ry h hs;obtain⟨p,xs,i,z,rfl,rfl,hq,he,q⟩:=h;cases rx;obtain⟨t,rfl⟩:=ry;obtain⟨its,r,pl,hz⟩:=I.list hq;obtain⟨j,h1,h2,h3,h4,h5⟩:=xG he;obtain⟨w,ew,rw'⟩:=r.get h2;have hl:=r.length;have hn:=pM;have fin:EP X pins σ Q w s:=⟨z,H,I,rw',q⟩;by_cases h0:0<=i
 ·have hj:i.toNat=j:=by
   rw[NI h0 h5]at h1;exact F1 h1
  exact item_listR pl.isList h0 (by omega) (by rw[hj];simpa using ew) fin hs
 ·have hj:(i+(its.toArray.size:Int)).toNat=j:=by
   rw[Nf (by omega) h4]at h1;rw[F8,<-hl];exact F1 h1
  exact Ma (x:=w) pl.isList.typeIs slot_list_getitem.lookup
   (wpAny_getItem_list_neg (Q:=fun r s'=>r=w/\EP X pins σ Q r s') pl.isList (by omega) (by rw[F8]<;>omega) (by omega) (by rw[hj];simpa using ew) ⟨rfl,fin⟩) hs
theorem bv:IxR X (bU X.K):=by
 intro value slice pins s σ H x y v u Q I rx ry h hs;obtain⟨p,xs,i,z,rfl,rfl,hq,he,q⟩:=h;cases rx;obtain⟨t,rfl⟩:=ry;obtain⟨its,r,pl,hz⟩:=I.tuple hq;obtain⟨j,h1,h2,h3,h4,h5⟩:=xG he;obtain⟨w,ew,rw'⟩:=r.get h2;have hl:=r.length;have hn:=pM;have fin:EP X pins σ Q w s:=⟨z,H,I,rw',q⟩;exact Ma (x:=w) pl.typeIs slot_tuple_getitem.lookup
  (getItem_tuple (j:=j) (Q:=fun r s'=>r=w/\EP X pins σ Q r s') pl (by omega) (by omega) (by rw[F8,<-hl];exact h1) (by simpa using ew) ⟨rfl,fin⟩) hs
theorem yp(its:List Value)(n j:Nat)(u:Value):G9 (·.setIfInBounds j u) { cls:=.type "list",data:=.seq its.toArray n }={ cls:=.type "list",data:=.seq (its.set j u).toArray n }:=by
 simp[G9]
theorem Inv.lst{pins:List (Addr×Obj)}{σ:St}{H:Hp}{s:Shared}{p:Addr}{xs:List V}(I:Inv X pins σ H s)(h:H p=some (.lst xs)):
  ∃(its:List Value)(n:Nat),aA xs its/\s.heap.get? p=some { cls:=.type "list",data:=.seq its.toArray n }/\xs.length<=FY:=by
 obtain⟨z,its,n,r,e⟩:=I.hok p _ h;exact⟨its,n,r,e,z⟩
theorem Inv.lstUpd{pins:List (Addr×Obj)}{σ:St}{H:Hp}{s:Shared}{p:Addr}{xs ys:List V}{its its':List Value}{n n':Nat}{f:Obj->Obj}(I:Inv X pins σ H s)(h:H p=some (.lst xs))
  (ho:s.heap.get? p=some { cls:=.type "list",data:=.seq its.toArray n }) (hf:f { cls:=.type "list",data:=.seq its.toArray n }={ cls:=.type "list",data:=.seq its'.toArray n' }) (r:aA ys its') (hz:ys.length<=FY) (t:Nat):
  Inv X pins σ (upd H p (.lst ys)) { s with heap:=s.heap.update p f,toks:=t }:=by
 have e:(s.heap.update p f).get? p=some { cls:=.type "list",data:=.seq its'.toArray n' }:=by
  rw[GS f ho (by rw[hf]<;>rfl),hf]
 refine I.write (x:=p) (e:=p) (by rw[h];trivial) (.inl rfl) (fun b u hb q=>(Ik _ _ (Hn hb)).trans q) ⟨_,e⟩ ?_;exact⟨hz,its',n',r,e⟩
noncomputable def jw:V->V->V->Hp->(Hp->Prop)->Prop:=fun o i v H Q=>∃p xs k j,o=.ref p/\i=.int k/\H p=some (.lst xs)/\ixN xs.length k=some j/\Q (upd H p (.lst (xs.set j v)))
theorem ii:ye X jw:=by
 intro pins s σ H o i v ov iv u Q I ro ri rv h;obtain⟨p,xs,k,j,rfl,rfl,hp,hj,q⟩:=h;cases ro;obtain⟨t,rfl⟩:=ri;obtain⟨its,n,r,ho,hz⟩:=I.lst hp;obtain⟨h1,h2,h3,h4⟩:=xF hj;have hl:=r.length;have hn:=pM;have I':Inv X pins σ (upd H p (.lst (xs.set j v))) { s with heap:=s.heap.update p (G9 (·.setIfInBounds j u)) }:=
  I.lstUpd hp ho (yp its n j u) (r.set rv j) (by rw[Hj];exact hz) s.toks
 by_cases h0:0<=k
 ·have hk:k.toNat=j:=by
   rw[NI h0 h4]at h1;exact F1 h1
  exact PySem.W.ki_setAt ho h0 (by omega) (by rw[F8,<-hl];exact h4) (by rw[hk];exact⟨_,I',q⟩)
 ·have hk:(k+(its.toArray.size:Int)).toNat=j:=by
   rw[Nf (by omega) h3]at h1;rw[F8,<-hl];exact F1 h1
  exact PySem.W.ki_setBack ho (by omega) (by rw[F8,<-hl];exact h3) (by omega) (by rw[hk];exact⟨_,I',q⟩)
noncomputable def de:V->Bool
 | .non=>true
 | .bl _=>true
 | .int _=>true
 | .str _=>true
 |_=>false
noncomputable def eqV:V->V->Bool
 | .non,.non=>true
 | .bl a,.bl b=>a==b
 | .bl a,.int b=>(if a then 1 else 0)==b
 | .int a,.bl b=>a==(if b then 1 else 0)
 | .int a,.int b=>a==b
 | .str a,.str b=>a==b
 |_,_=>false
theorem zW{A:Around}{s:Shared}{y x:V}{u v:Value}(ry:aB y u)(rx:aB x v)(fy:de y=true)(fx:de x=true):Gq A s u v (eqV y x):=by
 cases y with
 |non=>
  cases ry;cases x with
  |non=>cases rx;exact LW _
  |bl b=>cases rx;exact Mx b
  |int b=>obtain⟨t,rfl⟩:=rx;exact MU b t
  |str b=>obtain⟨t,rfl⟩:=rx;exact Gq.none_str b t
  |_=>exact absurd (show false=true from fx) F3
 |bl a=>
  cases ry;cases x with
  |non=>cases rx;exact My a
  |bl b=>cases rx;exact Mz a b
  |int b=>obtain⟨t,rfl⟩:=rx;exact MV a b t
  |str b=>obtain⟨t,rfl⟩:=rx;exact Gq.bool_str a b t
  |_=>exact absurd (show false=true from fx) F3
 |int a=>
  obtain⟨t',rfl⟩:=ry;cases x with
  |non=>cases rx;exact MW a t'
  |bl b=>cases rx;exact MX a t' b
  |int b=>obtain⟨t,rfl⟩:=rx;exact Ng a t' b t
  |str b=>obtain⟨t,rfl⟩:=rx;exact M0 a t' b t
  |_=>exact absurd (show false=true from fx) F3
 |str a=>
  obtain⟨t',rfl⟩:=ry;cases x with
  |non=>cases rx;exact Gq.str_none a t'
  |bl b=>cases rx;exact Gq.str_bool a t' b
  |int b=>obtain⟨t,rfl⟩:=rx;exact M1 a t' b t
  |str b=>obtain⟨t,rfl⟩:=rx;exact Gq.str_str a t' b t
  |_=>exact absurd (show false=true from fx) F3
 |_=>exact absurd (show false=true from fy) F3
noncomputable def eqU(x:V)(u:Value):Bool:=match u with
 | .none=>eqV .non x
 | .bool b=>eqV (.bl b) x
 | .int i _=>eqV (.int i) x
 | .str z _=>eqV (.str z) x
 |_=>false
theorem vg{x y:V}{u:Value}(r:aB y u)(f:de y=true):eqU x u=eqV y x:=by
 cases y with
 |non=>cases r;rfl
 |bl b=>cases r;rfl
 |int i=>obtain⟨t,rfl⟩:=r;rfl
 |str z=>obtain⟨t,rfl⟩:=r;rfl
 |_=>exact absurd (show false=true from f) F3
theorem rE{x:V}:∀{xs:List V} {us:List Value},aA xs us->xs.all de=true->us.any (eqU x)=xs.any fun y=>eqV y x
 |_,_,.nil,_=>rfl
 |y::xs,u::us,.cons r t,f=>by
  rw[Je,G3]at f;rw[J8,J8,vg r f.1,rE t f.2]
theorem jP{A:Around}{s:Shared}{x:V}{v:Value}(rx:aB x v)(fx:de x=true):∀{xs:List V} {us:List Value},aA xs us->xs.all de=true->∀u∈us,Gq A s u v (eqU x u)
 |_,_,.nil,_=>fun u hu=>by cases hu
 |y::xs,u::us,.cons r t,f=>fun u' hu=>by
  rw[Je,G3]at f;rcases FW.mp hu with rfl|hu
  ·rw[vg r f.1];exact zW r rx f.1 fx
  ·exact jP rx fx t f.2 u' hu
noncomputable def inV(x:V)(xs:List V):Bool:=xs.any fun y=>eqV y x
noncomputable def rIn(K:Fg)(neg:Bool):R2:=fun x y H Q=>∃p xs,y=.ref p/\(SqL K H p xs\/SqT K H p xs)/\de x=true/\xs.all de=true/\Q (.bl (if neg then !inV x xs else inV x xs)) H
theorem zX:OpR X (HP .In) (rIn X.K false):=by
 intro pins s σ H x y v u Q I rx ry h;obtain⟨p,xs,rfl,hq,fx,fs,q⟩:=h;cases ry;rcases hq with hq|hq
 ·obtain⟨its,r,pl,hz⟩:=I.list hq
  refine SeqAt.in_listAt (eqU x) pl.isList (fun w hw=>jP rx fx r fs w (by simpa using hw)) ⟨.bl _,H,I,rfl,?_⟩;rw[show its.toArray.any (eqU x)=its.any (eqU x) by simp,rE r fs];exact q
 ·obtain⟨its,r,pl,hz⟩:=I.tuple hq
  refine SeqAt.in_tupleAt (eqU x) pl (fun w hw=>jP rx fx r fs w (by simpa using hw)) ⟨.bl _,H,I,rfl,?_⟩;rw[show its.toArray.any (eqU x)=its.any (eqU x) by simp,rE r fs];exact q
theorem aL:bP X (.builtin "len") (fun xs H Q=>∃p ys,xs=[.ref p]/\(SqL X.K H p ys\/SqT X.K H p ys)/\Q (.int ys.length) H):=by
 intro pins s σ H xs us Q I r h;obtain⟨p,ys,rfl,hq,q⟩:=h;obtain⟨u,rfl,rx⟩:=j4 r;cases rx;have hn:=pM;rcases hq with hq|hq
 ·obtain⟨its,r',pl,hz⟩:=I.list hq
  have hlen:=r'.length;exact Calls.call_len_list pl.isList (by simp only[F8]<;>omega) ⟨.int ys.length,H,I.tok _,⟨s.toks+1,by rw[F8,hlen]⟩,q⟩
 ·obtain⟨its,r',pl,hz⟩:=I.tuple hq
  have hlen:=r'.length;exact len_tuple pl (by simp only[F8]<;>omega) ⟨.int ys.length,H,I.tok _,⟨s.toks+1,by rw[F8,hlen]⟩,q⟩
theorem bP.or{f:Value}{r r':List V->Hp->VK->Prop}(h:bP X f r)(h':bP X f r'):bP X f (fun xs H Q=>r xs H Q\/r' xs H Q):=by
 intro pins s σ H xs us Q I rs q;rcases q with q|q
 ·exact h pins s σ H xs us Q I rs q
 ·exact h' pins s σ H xs us Q I rs q
theorem vh:bP X (.type "list") (fun xs H Q=>∃p ys,xs=[.ref p]/\(SqL X.K H p ys\/SqT X.K H p ys)/\∀l,H l=none->Q (.ref l) (upd H l (.lst ys))):=by
 intro pins s σ H xs us Q I r h;obtain⟨p,ys,rfl,hq,q⟩:=h;obtain⟨u,rfl,rx⟩:=j4 r;cases rx;have fin:∀(its:List Value),aA ys its->ys.length<=FY->∀(h':Heap)(c':Nat),(∀b o',s.heap.get? b=some o'->h'.get? b=some o')->
   h'.get? s.heap.objs.size=some { cls:=.type "list",dict:=none,data:=.seq its.toArray c',slots:=#[] }->EP X pins σ Q (.ref s.heap.objs.size) { s with heap:=h' }:=fun its r' hz h' c' kp e=>
  ⟨.ref s.heap.objs.size,_,I.laid (t':=s.toks) kp (FU _) (show br X.prog X.w _ h' _ (.lst ys)from⟨hz,its,c',r',e⟩),rfl,q _ (I.hok.fresh (FU _))⟩
 rcases hq with hq|hq
 ·obtain⟨its,r',pl,hz⟩:=I.list hq
  have hlen:=r'.length;obtain⟨o,ho,hc,n,hd⟩:=pl.isList;exact call_list_seq p (.inl rfl) ho hc hd (fun h' c' kp e=>fin its r' hz h' c' kp e) (by simp only[F8]<;>omega)
 ·obtain⟨its,r',pl,hz⟩:=I.tuple hq
  have hlen:=r'.length;obtain⟨o,ho,hc,n,hd⟩:=pl;exact call_list_seq p (.inr rfl) ho hc hd (fun h' c' kp e=>fin its r' hz h' c' kp e) (by simp only[F8]<;>omega)
theorem mh:bP X (.type "tuple") (fun xs H Q=>∃p ys,xs=[.ref p]/\((SqL X.K H p ys/\∀l,H l=none->Q (.ref l) (upd H l (.tup ys)))\/(SqT X.K H p ys/\Q (.ref p) H))):=by
 intro pins s σ H xs us Q I r h;obtain⟨p,ys,rfl,h⟩:=h;obtain⟨u,rfl,rx⟩:=j4 r;cases rx;rcases h with⟨hq,q⟩|⟨hq,q⟩
 ·obtain⟨its,r',pl,hz⟩:=I.list hq
  have hlen:=r'.length;refine call_tuple_list pl.isList (fun h' kp=>?_) (by simp only[F8]<;>omega);have I1:Inv X pins σ H { s with heap:=h' }:=I.kept (t':=s.toks) kp;have I2:Inv X pins σ (upd H h'.objs.size (.tup ys)) { s with heap:=h'.push { cls:=.type "tuple",data:=.seq its.toArray } }:=
   I1.laid (t':=s.toks) (fun b o e=>FP _ e) (FU _) (show br X.prog X.w _ _ _ (.tup ys)from⟨hz,its,r',dH.new _ _⟩)
  exact⟨.ref h'.objs.size,_,I2,rfl,q _ (I1.hok.fresh (FU _))⟩
 ·obtain⟨its,r',pl,hz⟩:=I.tuple hq
  exact call_tuple_same pl ⟨.ref p,H,I,rfl,q⟩
noncomputable def tyV(K:Fg)(T:String)(x:V)(H:Hp):Prop:=match x with
 | .str _=>T="str"
 | .int _=>T="int"
 | .ref p=>(T="list"/\∃xs,SqL K H p xs)\/(T="tuple"/\∃o,K.lookup p=some o/\o.cls=.type "tuple"/\o.dict=none)\/
   (T="dict"/\((∃kvs,H p=some (.dK kvs))\/∃kvs,H p=some (.dT kvs)))\/(T="set"/\∃S n,H p=some (.set S n))
 |_=>False
theorem Eb{pins:List (Addr×Obj)}{σ:St}{H:Hp}{s:Shared}{T:String}{x:V}{v:Value}(I:Inv X pins σ H s)(r:aB x v)(ty:tyV X.K T x H):
  s.TypeIs v T/\∀a,v=.ref a->∃ob,s.heap.get? a=some ob/\ob.dict=none:=by
 cases x with
 |str z=>
  obtain⟨t,rfl⟩:=r;cases (show T="str" from ty);exact⟨typeIs_str s z t,fun _ e=>nomatch e⟩
 |int i=>
  obtain⟨t,rfl⟩:=r;cases (show T="int" from ty);exact⟨N9 s i t,fun _ e=>nomatch e⟩
 |ref p=>
  cases r;rcases ty with⟨rfl,xs,hq⟩|⟨rfl,o,hk,hc,hd⟩|⟨rfl,hk⟩|⟨rfl,S,n,hk⟩
  ·obtain⟨its,_,pl,_⟩:=I.list hq
   refine⟨pl.isList.typeIs,fun a e=>?_⟩;cases e;obtain⟨o,n,e,c,hd,_⟩:=pl;exact⟨o,e,hd⟩
  ·refine⟨⟨o,I.kIn p o hk,hc⟩,fun a e=>?_⟩
   cases e;exact⟨o,I.kIn _ o hk,hd⟩
  ·have z:∃o,s.heap.get? p=some o/\o.ExactDict:=by
    rcases hk with⟨kvs,hk⟩|⟨kvs,hk⟩
    ·obtain⟨_,_,_,_,o,_,_,e,ex,_⟩:=I.hok p _ hk
     exact⟨o,e,ex⟩
    ·obtain⟨_,_,_,_,o,_,_,e,ex,_⟩:=I.hok p _ hk
     exact⟨o,e,ex⟩
   obtain⟨o,e,ex⟩:=z;refine⟨⟨o,e,ex.1⟩,fun a e2=>?_⟩;cases e2;exact⟨o,e,ex.2.1⟩
  ·obtain⟨o,_,_,_,e,ex,_⟩:=I.hok p _ hk
   refine⟨⟨o,e,ex.1⟩,fun a e2=>?_⟩;cases e2;exact⟨o,e,ex.2.1⟩
 |_=>exact HN ty
noncomputable def tBM(K:Fg)(T:String)(r:V->List V->Hp->VK->Prop)(to:TE)(t:TA):TE:=fun σ H Q=>to σ H fun x H1=>tyV K T x H1/\t σ H1 fun xs H2=>r x xs H2 Q
variable{o e:Expr}{es:List Expr}{to:TE}{t:TA}{name:Str}{apos cpos:Pos}{T id:String}{r:V->List V->Hp->VK->Prop}
theorem iE(pa:PlainAttrs T)(slot:Slot T name id)(hty:typeOf (.builtin id)=pure (.type "method_descriptor"))(hm:MtR X id r)(ho:PE X o to)(ha:PA X (e::es) t)
  (hbase:Jz o name X.env (eval o X.env)=eval o X.env:=by rfl)
  (hfew:((backTo cpos (Gf (e::es) X.env)).all (fun x=>!x.1)&&(Kc cpos (Jl [] X.env)).all (fun x=>x.1.isSome)
   &&decide ((e::es).length+([]:List Keyword).length+(if([]:List Keyword).isEmpty then 0 else 1)<30))=true:=by rfl)
  (hline:(apos.endLine==cpos.line)=true:=by rfl) (hs:Gf (e::es) X.env=(false,eval e X.env)::Gf es X.env:=by rfl) (hplain:(backTo cpos (Gf es X.env)).any (·.1)=false:=by rfl):
  PE X (.Call (.Attribute o name apos) (e::es) [] cpos) (tBM X.K T r to t):=by
 intro pins s σ H Q I h;refine J5 hbase hfew hline rfl (thn (ho pins s σ H _ I h) fun v s1 ⟨x,H1,I1,r1,ty,q1⟩=>?_);obtain⟨h1,h2⟩:=Eb I1 r1 ty;refine⟨T,id,pa,slot,hty,h1,h2,?_⟩;have hA:=ha cpos pins s1 σ H1 _ I1 q1;rw[hs]at hA ⊢;refine J6 (by show(false||(backTo cpos (Gf es X.env)).any (·.1))=false;rw[hplain]<;>rfl) (Kr ?_);exact thn hA fun us s2 ⟨vs,H2,I2,r2,q2⟩=>hm pins s2 σ H2 x vs v us Q I2 r1 r2 q2
end
end L2
namespace L2
open PySem PySem.Spec PyProof.Rows
noncomputable def MtM(X:Cx)(id:String)(r:V->List V->Hp->VK->Prop):Prop:=
 ∀(pins:List (Addr×Obj))(s:Shared)(σ:St)(H:Hp)(x:V)(xs:List V)(v:Value)(us:List Value)(Q:VK),Inv X pins σ H s->aB x v->aA xs us->r x xs H Q->
  wpAny (model X.prog X.w) X.A (call (.builtin id) (v::us)) (EP X pins σ Q) X.xe s
theorem aA.one{x:V}{us:List Value}(h:aA [x] us):∃u,us=[u]/\aB x u:=by
 cases h with
 |cons r t=>cases t;exact⟨_,rfl,r⟩
theorem aA.two{x y:V}{us:List Value}(h:aA [x,y] us):∃u v,us=[u,v]/\aB x u/\aB y v:=by
 cases h with
 |cons r t=>cases t with
  |cons q z=>cases z;exact⟨_,_,rfl,r,q⟩
theorem aA.rep{xs:List V}{us:List Value}(h:aA xs us):∀k:Nat,aA (GC k xs).flatten (GC k us).flatten
 |0=>.nil
 |k+1=>by
  rw[Jb,Jb,JX,JX];exact aA.append h (aA.rep h k)
theorem sX(its:List Value):∀(k:Nat)(acc:List Value),
  Oa (fun x1 x2=>x1++x2) acc.toArray (GC k its.toArray)=(acc++(GC k its).flatten).toArray
 |0,acc=>by simp
 |k+1,acc=>by
  have e:acc.toArray++its.toArray=(acc++its).toArray:=by simp
  have e2:(acc++its)++(GC k its).flatten=acc++(GC (k+1) its).flatten:=by
   rw[Jb,JX,Nu]
  rw[<-e2,<-sX its k (acc++its),<-e,Jb,Ob]
section
variable{X:Cx}{pins:List (Addr×Obj)}{σ:St}{H:Hp}{s:Shared}{l b:Addr}{xs ys zs:List V}
theorem Inv.lset{its its':List Value}{n:Nat}{f:Array Value->Array Value}{t':Nat}(I:Inv X pins σ H s)(hH:H l=some (.lst xs))
  (e:s.heap.get? l=some { cls:=.type "list",data:=.seq its.toArray n }) (hf:f its.toArray=its'.toArray) (hv:aA ys its') (hz:ys.length<=FY):
  Inv X pins σ (upd H l (.lst ys)) { s with heap:=s.heap.update l (G9 f),toks:=t' }:=by
 have q:=PySem.IsL.update e f;rw[hf]at q;refine I.write (x:=l) (e:=l) (by rw[hH];exact trivial) (.inl rfl) (fun b' u hb hu=>(Ik s.heap (G9 f) (Hn hb)).trans hu) ⟨_,q⟩ ?_;exact⟨hz,its',_,hv,q⟩
theorem Inv.lnew{its:List Value}{t':Nat}(I:Inv X pins σ H s)(hv:aA ys its)(hz:ys.length<=FY):
  Inv X pins σ (upd H s.heap.objs.size (.lst ys)) { s with heap:=s.heap.push { cls:=.type "list",data:=.seq its.toArray },toks:=t' }:=
 I.laid (fun _ _ q=>FP _ q) (FU _) ⟨hz,its,0,hv,F9 _ rfl⟩
theorem Inv.fresh(I:Inv X pins σ H s):H s.heap.objs.size=none:=I.hok.fresh (FU _)
theorem Inv.lstM(I:Inv X pins σ H s)(hH:H l=some (.lst xs)):xs.length<=FY/\∃(its:List Value)(n:Nat),aA xs its/\xs.length=its.length/\s.heap.get? l=some { cls:=.type "list",data:=.seq its.toArray n }:=by
 obtain⟨z,its,n,r,e⟩:=I.hok l _ hH;exact⟨z,its,n,r,r.length,e⟩
theorem vi{n:Nat}(h:n<=FY):IY n=false:=by
 unfold IY;exact decide_eq_false (by omega)
end
section
variable{X:Cx}
noncomputable def fo:V->List V->Hp->VK->Prop:=fun x vs H Q=>∃l xs y,x=.ref l/\vs=[y]/\H l=some (.lst xs)/\xs.length<FY/\Q .non (upd H l (.lst (xs++[y])))
theorem dU:MtM X "list.append" fo:=by
 intro pins s σ H x vs v us Q I rx rv h;obtain⟨l,xs,y,rfl,rfl,hH,hz,q⟩:=h;cases rx;obtain⟨u,rfl,ru⟩:=rv.one;obtain⟨z,its,n,r,hl,e⟩:=I.lstM hH;refine JO F.slot_list_append ⟨_,e,rfl⟩ F.entry_list_append (F.args_list_append_2 _ _) (PySem.list_append l its.toArray n u (by rw[F8];omega)) ⟨e,?_⟩;refine⟨.non,_,I.lset (its':=its++[u]) hH e (by simp) (r.append (.cons ru .nil)) ?_,rfl,q⟩;rw[Ga,Mg];omega
noncomputable def rF:V->List V->Hp->VK->Prop:=fun x vs H Q=>∃l b xs zs,x=.ref l/\vs=[.ref b]/\H l=some (.lst xs)/\H b=some (.lst zs)/\xs.length+zs.length<=FY/\Q .non (upd H l (.lst (xs++zs)))
theorem zY:MtM X "list.extend" rF:=by
 intro pins s σ H x vs v us Q I rx rv h;obtain⟨l,b,xs,zs,rfl,rfl,hH,hB,hz,q⟩:=h;cases rx;obtain⟨u,rfl,ru⟩:=rv.one;cases ru;obtain⟨z,its,n,r,hl,e⟩:=I.lstM hH;obtain⟨z2,its2,n2,r2,hl2,e2⟩:=I.lstM hB;have hsz:its.toArray.size+its2.toArray.size<=FY:=by rw[F8,F8];omega
 have hlong:¬(!its.toArray.isEmpty&&IY (its.toArray.size+its2.toArray.size))=true:=by
  rw[vi hsz,Mh];exact F3
 refine JO F.slot_list_extend ⟨_,e,rfl⟩ F.entry_list_extend (F.args_list_extend_2 _ _)
  (AutoSeq1.list_extend_list_list_0 l its.toArray n b its2.toArray n2 hlong (by rw[F8];omega) (by omega)) ⟨e,e2,?_⟩
 refine⟨.non,_,I.lset (its':=its++its2) hH e (by simp) (r.append r2) ?_,rfl,q⟩;rw[Ga];omega
noncomputable def Ec:R2:=fun x y H Q=>∃l b xs zs,x=.ref l/\y=.ref b/\H l=some (.lst xs)/\H b=some (.lst zs)/\xs.length+zs.length<=FY/\∀p,H p=none->Q (.ref p) (upd H p (.lst (xs++zs)))
theorem zZ:OpR X (IL .Add) Ec:=by
 intro pins s σ H x y v u Q I rx ry h;obtain⟨l,b,xs,zs,rfl,rfl,hH,hB,hz,q⟩:=h;cases rx;cases ry;obtain⟨z,its,n,r,hl,e⟩:=I.lstM hH;obtain⟨z2,its2,n2,r2,hl2,e2⟩:=I.lstM hB;refine PySem.P.add_list e e2 ?_ (by rw[F8,F8];omega);have ea:its.toArray++its2.toArray=(its++its2).toArray:=by simp
 rw[ea];exact⟨.ref _,_,I.lnew (t':=s.toks) (r.append r2) (by rw[Ga];omega),rfl,q _ I.fresh⟩
noncomputable def Fy:R2:=fun x y H Q=>∃l k xs,x=.ref l/\y=.int k/\H l=some (.lst xs)/\-(2^63)<=k/\k<2^63/\xs.length*k.toNat<=FY/\
 ∀p,H p=none->Q (.ref p) (upd H p (.lst (GC k.toNat xs).flatten))
theorem C7{α:Type}(xs:List α)(k:Nat):(GC k xs).flatten.length=k*xs.length:=by
 induction k with
 |zero=>simp
 |succ k ih=>rw[Jb,JX,Ga,ih,Nat.succ_mul,Nat.add_comm]
theorem Ed:OpR X (IL .Mult) Fy:=by
 intro pins s σ H x y v u Q I rx ry h;obtain⟨l,k,xs,rfl,rfl,hH,h1,h2,hz,q⟩:=h;cases rx;obtain⟨t,rfl⟩:=ry;obtain⟨z,its,n,r,hl,e⟩:=I.lstM hH;have hlen:its.toArray.size*k.toNat<=FY:=by rw[F8,<-hl];exact hz
 have hcap:¬its.toArray.size*k.toNat>(2^63-1)/8:=by
  have:(FY:Nat)<=(2^63-1)/8:=by decide
  omega
 have hfit:¬(!Builtin.List.listFitsIndex k)=true:=by
  rw[fitsIndex_both h1 h2];exact F3
 have hlong:¬IY (its.toArray.size*k.toNat)=true:=by
  rw[vi hlen];exact F3
 have hnew:Oa (fun x1 x2=>x1++x2) #[] (GC (if its.toArray.isEmpty=true then 0 else k.toNat) its.toArray)=(GC k.toNat its).flatten.toArray:=by
  have f0:∀m:Nat,Oa (fun x1 x2=>x1++x2) #[] (GC m its.toArray)=(GC m its).flatten.toArray:=fun m=>by
   have:=sX its m [];rw[List.nil_append]at this;exact this
  rw[f0];cases its with
  |nil=>simp
  |cons a r'=>rw[if_neg (by simp)]
 refine wpAny_binaryOp_repeat_ref (T:="list") (U:="int") (by decide) ⟨_,e,rfl⟩ (fun s'=>N9 s' k t) noFill_list_mul F.fills_int_mul Oc repeat_list F.slot_int_index.lookup
  (JO Oc (N9 s k t) F.entry_int_rmul (F.args_int_rmul_2 _ _) (int___rmul___int_list k t l its.toArray n)
   ⟨e,rfl,⟨_,e,rfl⟩,JO F.slot_list_mul ⟨_,e,rfl⟩ F.entry_list_mul (F.args_list_mul_2 _ _) (AutoListH.list___mul___list_int_3 l its.toArray n k t hfit hcap hlong) ⟨e,?_⟩⟩)
 rw[hnew];exact⟨.ref _,_,I.lnew (t':=s.toks) (r.rep k.toNat) (by rw[C7,HR];exact hz),rfl,q _ I.fresh⟩
end
section
variable{prog:Program}{w:World}{A:Around}{E:Value->Shared->Prop}{s:Shared}
end
section
variable{X:Cx}
end
end L2
namespace Att
open PySem PySem.W PySem.Calls PyProof.Rows
theorem pP{P:Params}{h:Heap}:∀(ns:List Int)(vs:List Value),WellAll P h vs (ns.map WData.int)->IntsAre vs ns:=by
 intro ns
 induction ns with
 |nil=>
  intro vs w;rw[Jr]at w;cases w;exact .nil
 |cons n ns ih=>
  intro vs w;rw[F6]at w;cases w with
  |cons a b=>
   cases a;exact .cons _ _ (ih _ b)
theorem Aa{l:OpenLaw}{n:Nat}(hn:l.most=some n){P:Params}{h:Heap}{args:List WData}{vals:List Value}
  (hpre:l.row.toRowW.claim.pre args=true) (hwl:WellAll P h vals args):
  ∃a vs ns,vals=[Gi a]/\args=[WData.list (ns.map WData.int)]/\h.get? a=some { cls:=.type "list",data:=.seq vs.toArray }/\IntsAre vs ns/\ns.length<=n:=by
 have hsh:WShape.hasAll [] args [.list .int]=true:=(pre_splitW hpre).1;have hc:l.pre.holds [] { args:=args }=true:=(pre_splitW hpre).2;obtain⟨d,r,rfl,h1,h2⟩:=hasAllW_cons hsh;obtain rfl:=hasAllW_nil h2;obtain⟨xs,rfl,h3⟩:=hasW_list h1;obtain⟨ns,rfl⟩:=items_int h3;have hlen:ns.length<=n:=by
  unfold OpenLaw.pre at hc;have h4:(WTm.not (.lt (.lit (.int (n:Int))) (.len (.arg 0)))).holds [] { args:=[.list (ns.map .int)] }=true:=by
   have h4:=(holds_andW hc).1;rw[hn]at h4;exact h4
  have h5:=condW_of h4 (w_not (w_lt w_lit (w_len_list (w_arg rfl))));rw[FQ]at h5;refine NT fun q=>?_;have q':(n:Int)<((ns.length:Nat):Int):=by omega
  first
   | (rw[decide_eq_true q']at h5;exact absurd h5 (by decide))
   | (simp at h5;omega)
 cases hwl with
 |cons w1 w2=>
  cases w2;cases w1 with
  |list ho hall=>exact⟨_,_,ns,rfl,rfl,ho,pP ns _ hall,hlen⟩
theorem Ab(l:OpenLaw)(args:List WData):l.row.toRowW.claim.post args (.bool true) args=true:=
 postW_of (r:=l.row.toRowW) (X:=(true==true))
  (show WShape.has [] (.bool true) .bool=true by first|rfl|decide|simp[WShape.has,WShape.arms,WShape.armsAll])
  (show(WTm.eq .res (.lit (.bool true))).value [] { args:=args,res:=some (.bool true),after:=args }=some (.bool (true==true))from w_eq_bool (w_res rfl) w_lit) rfl
section
variable{prog:Program}{w:World}{A:Around}{E:Value->Shared->Prop}{s:Shared}{K:Frag}
end
end Att
namespace L2
open PySem PySem.Spec PyProof.Rows
theorem sY:∀{vs:List Value} {ns:List Int},IntsAre vs ns->aA (ns.map V.int) vs
 |_,_,.nil=>.nil
 |_,_,.cons n t h=>.cons ⟨t,rfl⟩ (sY h)
noncomputable def Ee(H:Hp):Prop:=∀b,H b=none\/∃o xs,H b=some (.frz o (.lst xs))
theorem Bs{P:Program}{w:World}{K:Fg}{mg mb:Str->Option Value}{CX:CXT}{k:Nat}{fa a:Addr}{fd:Gc}{x:Str}{sp:Sp}{s₁:Shared}{vs:List Value}{ns:List Int}
  (KX:K.In s₁.heap) (hns:s₁.heap.Ns Gn mg) (hb:s₁.heap.Ns N4 mb) (hbb:∀x:Str,x≠"__name__"->mb x=JJ x) (hlim:s₁.heap.NoLimit) (hg:s₁.gens=#[])
  (ha:s₁.heap.get? a=some { cls:=.type "list",data:=.seq vs.toArray }) (hi:IntsAre vs ns) (hl:ns.length<=FY) (hr:bK k callerA)
  (F:∀base:Heap,K.In base->base.Ns Gn mg->dJ P w K mg base CX k fa fd [x] sp) (hbind:∀(s:Shared)(u:Value),BindsTo s fd ⟨[u],[]⟩ [(x,u)])
  (hsp:∀H:Hp,Ee H->SqL K H a (ns.map V.int)->sp [.ref a] H (fun v _=>v=.bl true) fun _ _ _=>False)
  (hCX:∀H e s',CX [] H s₁ (fun _ _ _=>False) e s'->False):
  codeAny (model P w) callerA (.call (.ref fa) ⟨[.ref a],[]⟩) (fun r s'=>r=.ok (.ret (.bool true))/\OldK s₁.heap s'.heap/\s'.os=s₁.os/\AllBare s'.gens) s₁:=by
 have rv:=sY hi;have lenV:=hi.length;have core:∀H:Hp,Ee H->SqL K H a (ns.map V.int)->HOk P w H s₁.heap->(∀b,H b≠none->b=a)->(H a≠none->K.lookup a=none)->
   codeAny (model P w) callerA (.call (.ref fa) ⟨[.ref a],[]⟩) (fun r s'=>r=.ok (.ret (.bool true))/\OldK s₁.heap s'.heap/\s'.os=s₁.os/\AllBare s'.gens) s₁:=by
  intro H hO hS hok hA hK;have base_of:∀{b:Addr} {o:Obj},s₁.heap.get? b=some o->H b=none->(k9 s₁.heap H).get? b=some o:=fun e n=>Bf e n;have noA:∀{b:Addr} {o:Obj} {es:Array M6} {ep:Nat},s₁.heap.get? b=some o->o.data=.dict es ep->H b=none:=fun{b o es ep} e d=>by
   cases q:H b with
   |none=>rfl
   |some u=>
    have e':b=a:=hA b (by rw[q];simp);subst e';rw[ha]at e;cases e;have d':Data.seq vs.toArray _=Data.dict es ep:=d;cases d'
  have nsK:∀{b:Addr} {m:Str->Option Value},s₁.heap.Ns b m->(k9 s₁.heap H).Ns b m:=fun{b m} ⟨o,es,ep,e,d,r⟩=>⟨o,es,ep,base_of e (noA e d),d,r⟩;have hKb:K.In (k9 s₁.heap H):=fun b o e=>base_of (KX b o e) (by
   cases q:H b with
   |none=>rfl
   |some u=>
    have e':b=a:=hA b (by rw[q];simp);subst e';rw[hK (by rw[q];simp)]at e;cases e)
  have hM:Mod K mg (k9 s₁.heap H):=⟨hKb,nsK hns,⟨mb,nsK hb,hbb⟩,let⟨mc,h1,h2⟩:=hlim;⟨mc,nsK h1,h2⟩⟩;have e0:oS P w K mg (k9 s₁.heap H) callerA [] s₁ H:=⟨rfl,hM,fun b o e=>CU e,Ko (zH _ _),trivial,fun b hb=>absurd (show b∈([]:List Addr)from hb) (by simp),hok,.of_eq hg⟩;refine Kq ((F _ hKb (nsK hns)).run callerA [] s₁ H ⟨[.ref a],[]⟩ [.ref a] [.ref a] _ _ hr e0 (hbind s₁ (.ref a)) (.cons rfl .nil) (hsp H hO hS)) fun r s' h=>?_;cases r with
  |error e=>exact(hCX H e s' h).elim
  |ok fl=>
   cases fl with
   |next=>exact HN h
   |brk=>exact HN h
   |cont=>exact HN h
   |ret u=>
    obtain⟨v,H',os,bare,un,hok',r',q⟩:=h;have q':v=.bl true:=q;subst q';obtain rfl:u=G4 true:=r';refine⟨rfl,OldK.of_keep fun b o e=>?_,os,bare⟩;cases q:H b with
    |none=>exact un.keep b o e q (by intro z;exact absurd (show b∈([]:List Addr)from z) (by simp)) (by simp)
    |some u=>
     rcases hO b with z|⟨ob,xs,z⟩
     ·rw[q]at z;cases z
     ·have z2:=un.frzs b ob _ z
      obtain⟨e1,_⟩:=hok b _ z;obtain⟨e2,_⟩:=hok' b _ z2;rw[e]at e1;cases e1;exact e2
 cases hk:K.lookup a with
 |some o=>
  have e:=KX a o hk;rw[ha]at e;cases e;refine core (fun _=>none) (fun _=>.inl rfl) (.inr ⟨_,vs.toArray,_,hk,rfl,rfl,rfl,by rw[F8,lenV];exact hl,by simpa using rv⟩) (fun b u z=>by have z':(none:Option HO)=some u:=z;cases z') (fun b z=>absurd rfl z) fun z=>absurd rfl z
 |none=>
  refine core (fun b=>if b=a then some (.frz { cls:=.type "list",data:=.seq vs.toArray } (.lst (ns.map V.int)))else none) (fun b=>?_) (.inl (.inr ⟨{ cls:=.type "list",data:=.seq vs.toArray },if_pos rfl⟩)) (fun b u z=>?_) (fun b z=>?_) fun _=>hk
  ·by_cases hb:b=a
   ·exact .inr ⟨_,_,if_pos hb⟩
   ·exact .inl (if_neg hb)
  ·by_cases hb:b=a
   ·have z':=(if_pos hb).symm.trans z
    cases z';subst hb;exact⟨ha,by rw[FQ];exact hl,vs,_,rv,ha⟩
   ·have z':=(if_neg hb).symm.trans z
    cases z'
  ·by_cases hb:b=a
   ·exact hb
   ·exact absurd (if_neg hb) z
end L2
namespace L2
open PySem PySem.Spec PyProof.Rows
end L2
namespace L2
open PySem PySem.Spec PyProof.Rows
noncomputable def jI(s:Stmt)(j:Nat):Stmt:=match s with
 | .ClassDef _ _ _ body _ _ _ _ _ _ _=>body.getD j (.Pass ⟨0,0,0,0⟩)
 |_=>.Pass ⟨0,0,0,0⟩
noncomputable def ij(s:Stmt):Arguments:=match s with
 | .FunctionDef _ a _ _ _ _ _ _ _ _=>a
 |_=>{ posonlyargs:=[],args:=[],vararg:=none,kwonlyargs:=[],kw_defaults:=[],kwarg:=none,defaults:=[] }
noncomputable def dL(s:Stmt):List Stmt:=match s with
 | .FunctionDef _ _ b _ _ _ _ _ _ _=>b
 |_=>[]
noncomputable def am(s:Stmt):Scope:=match s with
 | .FunctionDef _ _ _ _ _ _ sc _ _ _=>sc
 |_=>{ kind:=.function,names:=[],isGenerator:=false,isCoroutine:=false }
noncomputable abbrev CX0:CXT:=fun _ _ _ _ _ _=>False
noncomputable abbrev E0:XK:=fun _ _ _=>False
theorem uD{X:Cx}:jO CX0 X E0:=fun _ _ _ _ _ _ _ h=>h.elim
structure Fun(K:Fg)(x qual:Str)(st:Stmt)(f:Addr)(fd:Gc):Prop where
 ex:∃(oc:Value)(od:Option Addr)(kV doc pm:Value)(an:Option Addr)(cdv ct:Value)(osl:Array (Option Value)),
  fd=JK x qual (ij st) (dL st) (am st) .none kV doc pm an cdv ct/\K.lookup f=some ⟨oc,od,.func fd,osl⟩/\Mf K cdv qual=true
 kp:Jq K (.ref f)=true
section
variable{P:Program}{w:World}{K:Fg}{mg:Str->Option Value}{base:Heap}
theorem Fun.ok{x qual:Str}{st:Stmt}{f:Addr}{fd:Gc}{N ps:List Str}{k:Nat}{sp:Sp}(F:Fun K x qual st f fd)(S:ax N ps (am st))(len:∀vs H Q E,sp vs H Q E->vs.length=ps.length)
  (hbody:∀(cdv:Value)(A:Around)(outer:List Env)(s:Shared)(H:Hp)(vs:List V)(Q:VK)(E:XK),bK k (A.deeper (envOfC qual (am st) s.heap.objs.size f cdv))->sp vs H Q E->
   ∃t,PSs (lh CX0 P w K mg base N qual (am st) f cdv A outer s H E).nox (dL st) t/\t { nx:=fun _ H'=>Q .non H',rt:=Q } (start N vs) H):dJ P w K mg base CX0 (k+1) f fd ps sp:=by
 obtain⟨oc,od,kV,doc,pm,an,cdv,ct,osl,rfl,lk,hcd⟩:=F.ex;refine E5 lk hcd S len fun A outer s H vs Q E hr hsp=>?_;obtain⟨t,h,q⟩:=hbody cdv A outer s H vs Q E hr hsp;exact⟨t,h.nox,q⟩
theorem Fun.binds{x qual:Str}{st:Stmt}{f:Addr}{fd:Gc}{ps:List Str}(F:Fun K x qual st f fd)
  (h:∀(kV doc pm:Value)(an:Option Addr)(cdv ct:Value)(us:List Value),us.length=ps.length->bindArgs (JK x qual (ij st) (dL st) (am st) .none kV doc pm an cdv ct) ⟨us,[]⟩=pure (ps.zip us)):d3 K fd ps []:=by
 obtain⟨oc,od,kV,doc,pm,an,cdv,ct,osl,rfl,lk,hcd⟩:=F.ex;exact .all (h kV doc pm an cdv ct)
theorem Ac{x qual:Str}{st:Stmt}{f:Addr}{oc:Value}{od an:Option Addr}{osl:Array (Option Value)}{kV doc pm cdv ct:Value}(l:K.lookup f=some ⟨oc,od,.func (JK x qual (ij st) (dL st) (am st) .none kV doc pm an cdv ct),osl⟩)
  (c:Mf K cdv qual=true) (k:Jq K (.ref f)=true):Fun K x qual st f (JK x qual (ij st) (dL st) (am st) .none kV doc pm an cdv ct):=⟨⟨oc,od,kV,doc,pm,an,cdv,ct,osl,rfl,l,c⟩,k⟩
end
theorem Ad{n:Nat}(h:n<=1000):n<FY:=K1 h (by decide)
section
variable{X:Cx}
theorem pv(i:Nat){x:Str}{pos:Pos}(hN:X.N[i]?=some x:=by rfl)(hv:Vis X.env.scope x:=by first|exact Mi rfl|exact K2 (Mi rfl)|exact K2 (K2 rfl))(hd:(x==("__debug__":Str))=false:=by decide)
  (hcd:(x==("__classdict__":Str))=false:=by decide):PE X (.Name x pos) (ab i):=DW hN hv hd hcd
end
theorem jm{A B:Prop}(h:B):if false=true then A else B:=by
 rw[if_neg F3];exact h
theorem jQ{A B:Prop}(h:A):if true=true then A else B:=by
 rw[if_pos rfl];exact h
noncomputable def ah(H H':Hp):Prop:=∀b o,H b=some o->H' b=some o
theorem ah.refl(H:Hp):ah H H:=fun _ _ h=>h
theorem ah.trans{H H1 H2:Hp}(a:ah H H1)(b:ah H1 H2):ah H H2:=fun c o h=>b c o (a c o h)
theorem ah.free{H H':Hp}(e:ah H H'){l:Addr}(h:H' l=Option.none):H l=Option.none:=by
 cases q:H l with
 |none=>rfl
 |some o=>
  rw[e l o q]at h;cases h
theorem ah.seq{K:Fg}{H H':Hp}{a:Addr}{xs:List V}(e:ah H H')(h:SqL K H a xs):SqL K H' a xs:=by
 rcases h with(h|⟨o,h⟩)|h
 ·exact .inl (.inl (e _ _ h))
 ·exact .inl (.inr ⟨o,e _ _ h⟩)
 ·exact .inr h
end L2
end
namespace L2
open PySem PyProof.Rows
section
open PySem.Spec
theorem lm{a b:Addr}{n:Nat}(h:a<n)(h':n<=b):a≠b:=GK (Gg h h')
theorem Ef{a b:Addr}{n:Nat}(h:n<=a)(h':b<n):a≠b:=Iq (Gg h' h)
noncomputable def dM(env:Env):List (Str×Gy)->List (Str×Addr)->List (Str×Addr)
 | [],acc=>acc
 | (n,k)::r,acc=>if k=.free then(match env.cells.lookup n with|some c=>dM env r ((n,c)::acc)|none=>dM env r acc)else dM env r acc
theorem jx{env:Env}:∀(ns:List (Str×Gy))(acc:List (Str×Addr)),(∀p∈acc,env.cells.lookup p.1=some p.2)->∀p∈dM env ns acc,env.cells.lookup p.1=some p.2
 | [],acc,h=>by intro p hp;exact h p hp
 | (n,k)::r,acc,h=>by
  intro p hp;rw[dM]at hp
  split at hp
  ·split at hp
   ·rename_i c hc
    refine jx r _ (fun q hq=>?_) p hp;rcases FW.mp hq with rfl|hq
    ·exact hc
    ·exact h q hq
   ·exact jx r acc h p hp
  ·exact jx r acc h p hp
theorem ln{env:Env}:∀(ns:List (Str×Gy))(acc:List (Str×Addr)),∀p∈acc,p∈dM env ns acc
 | [],acc=>fun p hp=>hp
 | (n,k)::r,acc=>fun p hp=>by
  rw[dM]
  split
  ·split
   ·exact ln r _ p (FX _ hp)
   ·exact ln r acc p hp
  ·exact ln r acc p hp
theorem lr{env:Env}:∀(ns:List (Str×Gy))(acc:List (Str×Addr))(x:Str)(c:Addr),(x,G6)∈ns->env.cells.lookup x=some c->(x,c)∈dM env ns acc
 | [],acc,x,c=>fun h _=>(nomatch h)
 | (n,k)::r,acc,x,c=>fun h hc=>by
  rw[dM];rcases FW.mp h with e|h
  ·cases e
   rw[if_pos rfl,hc];exact ln r _ _ F2
  ·split
   ·split
    ·exact lr r _ x c h hc
    ·exact lr r acc x c h hc
   ·exact lr r acc x c h hc
theorem mi{α:Type}{x:Str}{c:α}:∀{l:List (Str×α)},(x,c)∈l->∃d,l.lookup x=some d
 | (y,d)::r,h=>by
  rw[GU];cases e:x==y with
  |true=>exact⟨d,rfl⟩
  |false=>
   rcases FW.mp h with q|q
   ·cases q
    rw[beq_self_eq_true]at e;cases e
   ·exact mi q
theorem ek{env:Env}{ns:List (Str×Gy)}{x:Str}{c:Addr}(h:(dM env ns []).lookup x=some c):env.cells.lookup x=some c:=
 jx ns [] (fun _ hp=>(nomatch hp)) (x,c) (GT h)
theorem sZ{env:Env}{ns:List (Str×Gy)}{x:Str}{c:Addr}(hm:(x,G6)∈ns)(hc:env.cells.lookup x=some c):(dM env ns []).lookup x=some c:=by
 obtain⟨d,hd⟩:=mi (lr ns [] x c hm hc);have e:=ek hd;rw[hc]at e;cases e;exact hd
theorem pQ{scope:Scope}{env:Env}(h:∀y∈scope.names,y.2=.free->∃c,env.cells.lookup y.1=some c):MA scope env=pure (dM env scope.names []):=by
 have go:∀(ns:List (Str×Gy))(acc:List (Str×Addr)),(∀y∈ns,y.2=.free->∃c,env.cells.lookup y.1=some c)->
   (forIn ns acc fun(x:Str×Gy)(cs:List (Str×Addr))=>(match x with
    | (name,kind)=>if(kind==G6)=true then(do let c <-cellOf env name;pure (Jh ((name,c)::cs)))else pure (Jh cs):Sem (ForInStep (List (Str×Addr)))))=(pure (dM env ns acc):Sem (List (Str×Addr))):=by
  intro ns
  induction ns with
  |nil=>intro acc _;rfl
  |cons y r ih=>
   intro acc hy;obtain⟨n,k⟩:=y;have ih':=fun acc=>ih acc fun z hz=>hy z (FX _ hz);rw[JF,dM];by_cases hk:k=.free
   ·subst hk
    obtain⟨c,hc⟩:=hy (n,.free) F2 rfl;have hc':env.cells.lookup n=some c:=hc;simp only[beq_self_eq_true,if_true,cellOf,hc',pure_bind];exact ih' _
   ·have hb:(k==G6)=false:=by simpa using hk
    simp only[hb,GY,if_false,pure_bind,if_neg hk];exact ih' _
 unfold MA;have g:=go scope.names [] h;simp only[bind_pure];exact g
structure mG(sc scope:Scope)(NX N:List Str)(ix:List (Option Nat)):Prop where
 kind:scope.kind=.function
 nocell:∀y∈scope.names,y.2≠.cell
 names:∀y∈scope.names,y.2=.local->scope.names.lookup y.1=some .local
 free:∀y∈scope.names,y.2=.free->sc.names.lookup y.1=some .cell\/sc.names.lookup y.1=some .free
 nd:N.Nodup
 len:ix.length=N.length
 at_:∀p∈N.zip ix,∀i∈p.2,NX[i]?=some p.1/\scope.names.lookup p.1=some .free
noncomputable def sub(ix:List (Option Nat))(σ:St):St:=ix.map fun o=>match o with|some i=>(match σ[i]? with|some v=>v|none=>none)|none=>none
noncomputable def bW(X:Cx)(N:List Str)(scope:Scope)(C:Addr)(s:Shared)(H:Hp)(fp:List Addr):Cx where
 prog:=X.prog
 w:=X.w
 K:=X.K
 mg:=X.mg
 base:=X.base
 A:=X.A
 N:=N
 s₀:=s
 H₀:=H
 env:=MB scope (dM X.env scope.names []) C X.env
 outer:=X.stack
 stack:=X.stack
 ex:=fp
 fn:=fun _=>false
 calm:=X.calm
 pn:=[]
 xe:=fun _ _=>False
theorem mH{scope:Scope}{env:Env}{x:Str}{k:Gy}(h:(relabel scope env).names.lookup x=some k):scope.names.lookup x=some k\/(k=.cell/\scope.names.lookup x=some .free):=by
 have go:∀ns:List (Str×Gy),(ns.map fun(n,k)=>if(k==G6&&env.scope.kind== .function&&env.kindOf n==some .cell)then(n,J9)else(n,k)).lookup x=some k->
   ns.lookup x=some k\/(k=.cell/\ns.lookup x=some .free):=by
  intro ns
  induction ns with
  |nil=>intro q;simp at q
  |cons y r ih=>
   obtain⟨n,k'⟩:=y;intro q;rw[F6]at q;by_cases hc:(k'==G6&&env.scope.kind== .function&&env.kindOf n==some .cell)=true
   ·simp only[hc,if_true]at q
    have hk':k'=.free:=by
     have:=(G3 _ _▸hc);have h1:=(G3 _ _▸this.1);exact eq_of_beq h1.1
    subst hk';rw[GU]at q ⊢;cases e:x==n with
    |true=>
     rw[e]at q;cases q;exact .inr ⟨rfl,rfl⟩
    |false=>
     rw[e]at q;exact ih q
   ·simp only[hc]at q
    rw[if_neg (by simp)]at q;rw[GU]at q ⊢;cases e:x==n with
    |true=>rw[e]at q;exact .inl q
    |false=>rw[e]at q;exact ih q
 exact go scope.names h
theorem vj{scope:Scope}{env:Env}{x:Str}(h:scope.names.lookup x=some .free):(relabel scope env).names.lookup x=some .cell\/(relabel scope env).names.lookup x=some .free:=by
 have go:∀ns:List (Str×Gy),ns.lookup x=some .free->
   (ns.map fun(n,k)=>if(k==G6&&env.scope.kind== .function&&env.kindOf n==some .cell)then(n,J9)else(n,k)).lookup x=some .cell\/
   (ns.map fun(n,k)=>if(k==G6&&env.scope.kind== .function&&env.kindOf n==some .cell)then(n,J9)else(n,k)).lookup x=some .free:=by
  intro ns
  induction ns with
  |nil=>intro q;simp at q
  |cons y r ih=>
   obtain⟨n,k'⟩:=y;intro q;rw[F6];rw[GU]at q;cases e:x==n with
   |true=>
    rw[e]at q;cases q;by_cases hc:(G6==G6&&env.scope.kind== .function&&env.kindOf n==some .cell)=true
    ·simp only[hc,if_true]
     rw[GU,e];exact .inl rfl
    ·simp only[hc]
     rw[if_neg (by simp),GU,e];exact .inr rfl
   |false=>
    rw[e]at q;have z:=ih q;by_cases hc:(k'==G6&&env.scope.kind== .function&&env.kindOf n==some .cell)=true
    ·simp only[hc,if_true]
     rw[GU,e];exact z
    ·simp only[hc]
     rw[if_neg (by simp),GU,e];exact z
 exact go scope.names h
theorem Inv.gone{X:Cx}{pins:List (Addr×Obj)}{σ σ₂:St}{H H₂:Hp}{s s₂:Shared}{C:Addr}{h'':Heap}(I:Inv X pins σ H s)(I2:Inv X pins σ₂ H₂ s₂)(hC:s₂.heap.objs.size<=C)(hn:H C=none)(hs:Gp C s.heap h''):Inv X pins σ H { s with heap:=h'' }:=
 I.turned (t':=s.toks) (it:=C) (fun b o hb e=>hs.extBut b o hb e) hn (Iq (Gg I2.lt hC)) (.inr (Gs I2.sz hC))
  (fun x c e=>by
   obtain⟨v,o,ho,_⟩:=I2.cell x c e;exact lm (F4 ho) hC) fun q hq=>lm (F4 (I2.pin q hq).1) hC
noncomputable def PTL(X:Cx)(ifs:List Expr)(t:TT):Prop:=
 ∀(pins:List (Addr×Obj))(s:Shared)(σ:St)(H:Hp)(Q:Bool->Hp->Prop),Inv X pins σ H s->t σ H Q->
  wpAny (model X.prog X.w) X.A (forIn ifs true fun c r=>if r=true then do let ok <-isTrue c X.env (eval c X.env);pure (Jh ok)else pure (Jh r)) (TP X pins σ Q) X.xe s
noncomputable def bI:TT:=fun _ H Q=>Q true H
theorem bX{X:Cx}:PTL X [] bI:=fun _ _ _ H _ I h=>wpAny_tests_nil ⟨H,I,h⟩
theorem rG{X:Cx}{c:Expr}{t:TT}(h:PT X c t):PTL X [c] t:=fun pins s σ H Q I q=>wpAny_tests_one (h pins s σ H Q I q)
noncomputable def bV(J:It)(g:TG)(tt:TT)(te:TE)(σ₀:St)(p:Addr)(Q:VK)(W:Nat->Nat->List V->Hp->Prop):Prop:=
 ∀i m acc H,W i m acc H->H p=some (.lst acc)/\
  ((J.stop i H/\Q (.ref p) H)\/(J.go i H/\acc.length<FY/\∃N:List V->Hp->Prop,(∀acc' H',N acc' H'->∃m',m'<m/\W (i+1) m' acc' H')/\
   ∀x H1,J.yld i H x H1->g x σ₀ H1 fun σ2 H2=>tt σ2 H2 fun b H3=>if b=true then te σ2 H3 fun y H4=>H4 p=some (.lst acc)/\N (acc++[y]) (upd H4 p (.lst (acc++[y])))else N acc H3))
noncomputable abbrev CF(α:Type):=Addr->Shared->Hp->List Addr->α
noncomputable def b8(wi:TI)(g:CF TG)(tt:CF TT)(te:CF TE)(ix:List (Option Nat)):TE:=fun σ H Q=>wi σ H fun J H1=>∀p,H1 p=none->
 ∃W:Nat->Nat->List V->Hp->Prop,(∃m,W 0 m [] (upd H1 p (.lst [])))/\∀C s' H' fp,bV J (g C s' H' fp) (tt C s' H' fp) (te C s' H' fp) (sub ix σ) p Q W
section
variable{X:Cx}{elt tg iter:Expr}{ifs:List Expr}{scope sc:Scope}{pos:Pos}{NX N:List Str}{ix:List (Option Nat)}{wi:TI}{g:CF TG}{tt:CF TT}{te:CF TE}
theorem Ae{prog:Program}{w:World}{A:Around}{R:Result->Shared->Prop}{s:Shared}{it acc:Value}{env:Env}(I:Nat->Shared->Prop)
  (turn:∀n s,I n s->wpAny (model prog w) A (pyNext it) (fun r s₁=>match r with
   |none=>R (.ok .next) s₁
   |some v=>wpAny (model prog w) A (Kn tg it v) (fun _ s₁'=>wpAny (model prog w) A (assign tg env v) (fun _ s₂=>
     wpAny (model prog w) A (forIn ifs true fun c r=>if r=true then do let ok <-isTrue c env (eval c env);pure (Jh ok)else pure (Jh r)) (fun ok s₃=>
      if ok=true then wpAny (model prog w) A (eval elt env) (fun x s₄=>
       wpAny (model prog w) A (call (.builtin "list.append") [acc,x]) (fun _ s₅=>∃m,m<n/\I m s₅) (fun _ _=>False) s₄) (fun _ _=>False) s₃
      else∃m,m<n/\I m s₃) (fun _ _=>False) s₂) (fun _ _=>False) s₁') (fun _ _=>False) s₁) (fun _ _=>False) s)
  (n:Nat) (h:I n s):codeAny (model prog w) A (.compLoop (.ListComp elt [⟨tg,iter,ifs,0⟩] scope pos) 0 it acc env) R s:=by
 refine codeAny_loop rfl I (fun n s hI=>?_) n h;show wpAny _ A ((compTurn (.ListComp elt [⟨tg,iter,ifs,0⟩] scope pos) 0 it acc env).onRaise (fun x=>do noteFrame x env;theTreesLotGoes x)) _ _ s;refine wpAny_noted ?_;rw[compTurn_list];refine FM (MN (FM (Hd (turn n s hI) (fun r s₁ h₁=>?_) fun _ _ z=>z.elim)));cases r with
 |none=>exact FT h₁
 |some v=>
  refine FM (Hd h₁ (fun _ s₁' h₁'=>?_) fun _ _ z=>z.elim);refine FM (Hd h₁' (fun _ s₂ h₂=>FM (Hd h₂ (fun ok s₃ h₃=>?_) fun _ _ z=>z.elim)) fun _ _ z=>z.elim);cases ok with
  |false=>exact FT ⟨rfl,h₃⟩
  |true=>exact FM (FM (Hd h₃ (fun x s₄ h₄=>FM (Hd h₄ (fun _ s₅ h₅=>FT (FT ⟨rfl,h₅⟩)) fun _ _ z=>z.elim)) fun _ _ z=>z.elim))
theorem pR{pins:List (Addr×Obj)}{σ:St}{H:Hp}{s:Shared}{fp:List Addr}{it:Addr}{J:It}{tn:Nat->Heap->Prop}{Q:VK}{E:Value->Shared->Prop}{RR:Value->Addr->Result->Shared->Prop}
  (hc:X.calm=true) (hsc:X.env.scope=sc) (hNX:X.N=NX) (S:mG sc scope NX N ix)
  (hg:∀C s H fp,PG (bW X N scope C s H fp) tg (g C s H fp)) (ht:∀C s H fp,PTL (bW X N scope C s H fp) ifs (tt C s H fp)) (he:∀C s H fp,PE (bW X N scope C s H fp) elt (te C s H fp))
  (I:Inv X pins σ H s) (T:cp X.prog X.w X.K tg J fp it tn) (st:tn 0 s.heap) (hf:∀b∈fp,jl X pins H b)
  (hq:∀p,H p=none->∃W:Nat->Nat->List V->Hp->Prop,(∃m,W 0 m [] (upd H p (.lst [])))/\∀C s' H' fp,bV J (g C s' H' fp) (tt C s' H' fp) (te C s' H' fp) (sub ix σ) p Q W)
  (hR:∀p C s' H' m,s.heap.objs.size<=p->s.heap.objs.size<=C->s'.heap.Ns C m->H' C=none->Q (.ref p) H'->Inv X pins σ H' s'->RR (.ref p) C (.ok .next) s'):
  wpAny (model X.prog X.w) X.A (newList []) (fun acc s₃=>wpAny (model X.prog X.w) X.A (newFunctionEnv scope X.env.globals (dM X.env scope.names []) [] X.env.qual none .none (some X.env)) (fun cenv s₄=>
   codeAny (model X.prog X.w) X.A (.compStart (.ListComp elt [⟨tg,iter,ifs,0⟩] scope pos) 0 (.ref it) acc { cenv with scope:=relabel scope X.env }) (RR acc cenv.locals) s₄) E s₃) E s:=by
 refine Hv (wpAny_newFunctionEnv S.nocell (by intro y hy;simp at hy) (fun h₁ hns₁ hsb₁=>?_) S.kind);dsimp only at hns₁ hsb₁ ⊢;have hsz:(s.heap.push { cls:=.type "list",dict:=none,data:=.seq ([]:List Value).toArray }).objs.size=s.heap.objs.size+1:=GR ..;generalize hC:(s.heap.push { cls:=.type "list",dict:=none,data:=.seq ([]:List Value).toArray }).objs.size=C at hns₁ hsb₁ ⊢;rw[hsz]at hC;generalize hp:s.heap.objs.size=p at hC;have pC:p≠C:=by omega
 have old:∀b o,s.heap.get? b=some o->h₁.get? b=some o:=fun b o e=>hsb₁.extBut b o (lm (F4 e) (by omega)) (FP _ (FP _ e));have hnew:h₁.get? p=some { cls:=.type "list",data:=.seq ([]:List Value).toArray }:=hsb₁.extBut _ _ pC (FP _ (by rw[<-hp];exact F9 _ rfl));have hfp:H p=none:=I.hok.fresh (by omega);have hfC:H C=none:=I.hok.fresh (by omega);have lt:∀b∈fp,b<p:=fun b hb=>by
  obtain⟨o,e,_⟩:=T.obj 0 _ st b hb;rw[<-hp];exact F4 e
 have hcells:∀y∈scope.names,y.2=.free->∃c,X.env.cells.lookup y.1=some c:=fun y hy hk=>by
  refine I.ok.has y.1 ?_;show X.env.scope.names.lookup y.1=some .cell\/X.env.scope.names.lookup y.1=some .free;rw[hsc];exact S.free y hy hk
 have noown:∀x,scope.names.lookup x≠some .cell:=fun x e=>S.nocell _ (GT e) rfl;have hok:(bW X N scope C s H fp).Ok:=by
  refine⟨I.ok.mod,S.kind,I.ok.glob,I.ok.blt,by show s.heap.objs.size<=C;omega,fun x y c h1 h2=>I.ok.inj x y c (ek h1) (ek h2),fun x hx=>?_,fun x c z=>(by cases z),I.ok.hd,I.ok.frames,.inl rfl,fun b hb=>?_,I.bs,Gs I.ok.bsz I.sz,fun b o e hb=>?_,fun b hb z=>?_,I.stack,I.stkFree⟩
  ·have hx':scope.names.lookup x=some .free:=by
    rcases hx with hx|hx
    ·rcases mH hx with q|q
     ·exact absurd q (noown x)
     ·exact q.2
    ·rcases mH hx with q|q
     ·exact q
     ·exact q.2
   obtain⟨c,hc'⟩:=hcells _ (GT hx') rfl;exact⟨c,sZ (GT hx') hc'⟩
  ·refine⟨?_,fun x c e=>(hf b hb).2.2.2.2.1 x c (ek e)⟩
   show b≠C;exact lm (lt b hb) (by omega)
  ·rcases(hf b hb).2.2.2.1 with z|z
   ·exact I.ok.noex b o e z
   ·exact absurd (Gg (F4 e) (Gs I.ok.bsz z)) (Hr _)
  ·rcases FW.mp (I.stkSub b z)with q|q
   ·exact(hf b hb).2.1 q
   ·exact(hf b hb).2.2.1 q
 have locs:∀h':Heap,(∀x c o,X.env.cells.lookup x=some c->s.heap.get? c=some o->∃sl,h'.get? c=some { o with slots:=sl })->
   ∀(i:Nat)(x:Str)(v:V),N[i]?=some x->(sub ix σ)[i]?=some (some v)->∃u,aB v u/\∀m,DV (MB scope (dM X.env scope.names []) C X.env) h' m x u:=by
  intro h' hk i x v h1 h2;obtain⟨k,hk',hv⟩:∃k,ix[i]?=some (some k)/\σ[k]?=some (some v):=by
   unfold sub at h2;rw[FZ]at h2;cases e:ix[i]? with
   |none=>rw[e]at h2;cases h2
   |some o=>
    rw[e]at h2;cases o with
    |none=>cases h2
    |some k=>
     refine⟨k,rfl,?_⟩;have h2':(match σ[k]? with|some v=>v|none=>none)=some v:=F1 h2;cases e2:σ[k]? with
     |none=>rw[e2]at h2';cases h2'
     |some z=>
      rw[e2]at h2';rw[show z=some v from h2']
  have hm:(x,some k)∈N.zip ix:=by
   refine F0 (i:=i) ?_;rw[IS];exact⟨h1,hk'⟩
  obtain⟨a1,a2⟩:=S.at_ _ hm k (by simp);have hX:=S.free _ (GT a2) rfl;have hvis:Vis X.env.scope x:=by
   show _\/_\/_;rw[hsc];exact .inr hX
  obtain⟨m,hn,hl⟩:=I.loc;obtain⟨u,r,l⟩:=hl k x v (by rw[hNX];exact a1) hv hvis;refine⟨u,r,fun m'=>.inr ⟨vj a2,?_⟩⟩;rcases l with⟨l,_⟩|⟨_,c,e,z⟩
  ·have l':X.env.scope.names.lookup x=some .local:=l
   rw[hsc]at l';rcases hX with q|q<;>(rw[q]at l';cases l')
  ·obtain⟨o,ho,hd⟩:=z
   obtain⟨sl,e'⟩:=hk x c o e ho;exact⟨c,sZ (GT a2) e,_,e',hd⟩
 have hlen:(sub ix σ).length=N.length:=by
  unfold sub;rw[FQ];exact S.len
 have I1:Inv (bW X N scope C s H fp) [] (sub ix σ) (upd H p (.lst [])) { s with heap:=h₁,toks:=s.toks+([]:List (Str×Value)).length }:=by
  refine⟨hok,rfl,I.bare,Un.laid old (Ko hp) hfp,⟨_,hns₁,fun i x v h1 h2 h3=>?_⟩,fun x c e=>?_,?_,fun x c e=>?_,fun q hq=>(nomatch hq),I.hok.laid old (Ko hp) ⟨GH _,[],0,.nil,hnew⟩,hlen⟩
  ·obtain⟨u,r,l⟩:=locs h₁ (fun y c o _ ho=>⟨o.slots,old c o ho⟩) i x v h1 h2
   exact⟨u,r,l _⟩
  ·obtain⟨v,o,ho,hd⟩:=I.cell x c (ek e)
   exact⟨v,o,old c o ho,hd⟩
  ·show upd H p _ C=none
   rw[aO (Hn pC)];exact hfC
  ·have e':=ek e
   obtain⟨v,o,ho,hd⟩:=I.cell x c e';rw[aO (lm (F4 ho) (Ko hp))];exact I.freeC x c e'
 have back:∀{pl:List (Addr×Obj)} {σ':St} {H':Hp} {s':Shared},Inv (bW X N scope C s H fp) pl σ' H' s'->Inv (bW X N scope C s H fp) pl (sub ix σ) H' s':=fun{pl σ' H' s'} J=>by
  obtain⟨m,hn,_⟩:=J.loc;refine⟨J.ok,J.os,J.bare,J.base,⟨m,hn,fun i x v h1 h2 h3=>?_⟩,J.cell,J.free,J.freeC,J.pin,J.hok,hlen⟩;obtain⟨u,r,l⟩:=locs s'.heap (fun y c o hc' ho=>J.base.any ho (I.freeC y c hc') fun hb=>(hf c hb).2.2.2.2.1 y c hc' rfl) i x v h1 h2;exact⟨u,r,l _⟩
 obtain⟨W,⟨m0,w0⟩,turn⟩:=hq p hfp;have st1:tn 0 h₁:=T.keep 0 _ _ st fun b _ o e=>old b o e;have fp1:∀{H':Hp},(∀b∈fp,H' b=none)->∀b∈fp,jl (bW X N scope C s H fp) [] H' b:=fun{H'} hn b hb=>
  ⟨hn b hb,(hok.exf b hb).1,hok.exfs b hb,.inl hb,(hok.exf b hb).2,fun q hq=>(nomatch hq)⟩
 have loop:codeAny (model X.prog X.w) X.A (.compLoop (.ListComp elt [⟨tg,iter,ifs,0⟩] scope pos) 0 (.ref it) (.ref p) (MB scope (dM X.env scope.names []) C X.env)) (RR (.ref p) C) { s with heap:=h₁,toks:=s.toks+([]:List (Str×Value)).length }:=by
  refine Ae (fun n s'=>∃i acc H',Inv (bW X N scope C s H fp) [] (sub ix σ) H' s'/\tn i s'.heap/\(∀b∈fp,H' b=none)/\W i n acc H') ?_ m0
   ⟨0,[],_,I1,st1,fun b hb=>by rw[aO (lm (lt b hb) (FU _))];exact(hf b hb).1,w0⟩
  rintro n s3 ⟨i,acc,H3,I3,st3,fr3,w3⟩;obtain⟨hacc,w4⟩:=turn C s H fp i n acc H3 w3;rcases w4 with⟨stop,qn⟩|⟨go,hln,N',hN',step⟩
  ·refine thn (T.done (bW X N scope C s H fp) rfl rfl rfl hc i [] s3 _ H3 (fun _ _=>False) I3 (fp1 fr3) st3 stop) fun r s4 ⟨hr,I4⟩=>?_
   subst hr;obtain⟨m,hn,_⟩:=I4.loc;refine hR p C s4 H3 m (by omega) (by omega) hn I4.free qn ?_;exact I.call' I4.os I4.base I4.hok I4.bare fun b hb=>⟨(hf b hb).2.2.2.1,(hf b hb).2.1,(hf b hb).2.2.2.2.1,(hf b hb).2.2.2.2.2⟩
  ·refine thn (T.item (bW X N scope C s H fp) rfl rfl rfl hc i [] s3 _ H3 (fun _ _=>False) I3 (fp1 fr3) st3 go) fun r s4 ⟨u,hr,h4⟩=>?_
   subst hr;refine thn h4 fun _ s5 ⟨x,H5,I5,r5,y5,st5,fr5⟩=>?_;have I5':=I5.pinned (fp1 fr5) (T.obj _ _ st5);refine thn (hg C s H fp _ s5 _ H5 x u _ I5' r5 (step x H5 y5)) fun _ s6 ⟨σ6,H6,I6,q6⟩=>?_;have later:∀{s7:Shared} {H7:Hp} {acc':List V} {σ7:St},Inv (bW X N scope C s H fp) ([]++mC fp s5.heap) σ7 H7 s7->(∃m',m'<n/\W (i+1) m' acc' H7)->
     ∃m,m<n/\∃i acc H',Inv (bW X N scope C s H fp) [] (sub ix σ) H' s7/\tn i s7.heap/\(∀b∈fp,H' b=none)/\W i m acc H':=fun{s7 H7 acc' σ7} I7 ⟨m',hm,w7⟩=>by
    refine⟨m',hm,i+1,acc',H7,back (I7.unpinned (pins:=[])),T.keep _ _ _ st5 fun b hb o e=>(I7.pin (b,o) (GB _ (GB _ (jv hb e)))).1,fun b hb=>?_,w7⟩;obtain⟨o,e,d⟩:=T.obj _ _ st5 b hb;exact(I7.pin (b,o) (GB _ (GB _ (jv hb e)))).2.1
   refine thn (ht C s H fp _ s6 σ6 H6 _ I6 q6) fun ok s7 ⟨H7,I7,q7⟩=>?_;cases ok with
   |false=>exact later I7 (hN' _ _ q7)
   |true=>
    refine thn (he C s H fp _ s7 σ6 H7 _ I7 q7) fun y s8 ⟨v8,H8,I8,r8,hacc8,w8⟩=>?_;refine thn (dU (X:=bW X N scope C s H fp) _ s8 σ6 H8 (.ref p) [v8] (.ref p) [y] (fun _ H9=>H9=upd H8 p (.lst (acc++[v8]))) I8 rfl (.cons r8 .nil) ⟨p,acc,v8,rfl,rfl,hacc8,hln,rfl⟩) fun _ s9 ⟨_,H9,I9,_,e9⟩=>?_;subst e9;exact later I9 (hN' _ _ w8)
 exact codeAny_compStart_list loop (T.self _ 0 _ _ _ st1 loop)
theorem bQ(hc:X.calm=true)(S:mG sc scope NX N ix)(hi:PI X tg iter wi)
  (hg:∀C s H fp,PG (bW X N scope C s H fp) tg (g C s H fp)) (ht:∀C s H fp,PTL (bW X N scope C s H fp) ifs (tt C s H fp)) (he:∀C s H fp,PE (bW X N scope C s H fp) elt (te C s H fp))
  (hsc:X.env.scope=sc:=by rfl) (hNX:X.N=NX:=by rfl) (hs:∀x,Ln iter X.env x=pure x:=by intro _;rfl):
  PE X (.ListComp elt [⟨tg,iter,ifs,0⟩] scope pos) (b8 wi g tt te ix):=by
 intro pins s σ H Q I h;rw[eval_ListComp];have hcells:MA scope X.env=pure (dM X.env scope.names []):=pQ fun y hy hk=>by
  refine I.ok.has y.1 ?_;show X.env.scope.names.lookup y.1=some .cell\/X.env.scope.names.lookup y.1=some .free;rw[hsc];exact S.free y hy hk
 refine Lz (use:=none) rfl hs hcells S.kind S.names (thn (hi pins s σ H _ I h) fun v s1 h1=>thn h1 fun itv s2 h2=>?_);obtain⟨it,fp,tn,J,H2,e,I2,T,st2,f2,hq⟩:=h2;subst e;refine pR (Q:=Q) (RR:=fun acc C=>compPost (model X.prog X.w) X.A X.xe none (EP X pins σ Q) acc C) hc hsc hNX S hg ht he I2 T st2 f2 hq ?_;intro p C s' H' m hp hC hn hfree q I';exact⟨m,hn,fun h'' hs''=>⟨.ref p,H',I'.gone I2 hC hfree hs'',rfl,q⟩⟩
theorem yq{i:Nat}{y:Str}{py spos:Pos}(hN:X.N.Nodup)(hy:X.N[i]?=some y)(hl:X.env.scope.names.lookup y=some .local)(hc:X.calm=true)(S:mG sc scope NX N ix)(hi:PI X tg iter wi)
  (hg:∀C s H fp,PG (bW X N scope C s H fp) tg (g C s H fp)) (ht:∀C s H fp,PTL (bW X N scope C s H fp) ifs (tt C s H fp)) (he:∀C s H fp,PE (bW X N scope C s H fp) elt (te C s H fp))
  (hsw:LS (.ListComp elt [⟨tg,iter,ifs,0⟩] scope pos) (some (.Name y py)) spos.line X.env=pure true:=by rfl)
  (hsc:X.env.scope=sc:=by rfl) (hNX:X.N=NX:=by rfl) (hs:∀x,Ln iter X.env x=pure x:=by intro _;rfl):
  PS X (.Assign [.Name y py] (.ListComp elt [⟨tg,iter,ifs,0⟩] scope pos) spos) (az (b8 wi g tt te ix) (ai i)):=by
 intro pins s σ H D I h;rw[exec_Assign_Name_used _ _ _ _ hsw];have hcells:MA scope X.env=pure (dM X.env scope.names []):=pQ fun z hz hk=>by
  refine I.ok.has z.1 ?_;show X.env.scope.names.lookup z.1=some .cell\/X.env.scope.names.lookup z.1=some .free;rw[hsc];exact S.free z hz hk
 refine FM (MN (FM ?_));show wpAny _ X.A (do let _ <-comprehension (.ListComp elt [⟨tg,iter,ifs,0⟩] scope pos) scope X.env _ (newList []) false (eval iter X.env) (some (assign (.Name y py) X.env))) _ _ s;refine FM (thn (Lz (use:=some (assign (.Name y py) X.env)) (Q:=fun _ s'=>SP X pins D .next s') rfl hs hcells S.kind S.names (thn (hi pins s σ H _ I h) fun v s1 h1=>thn h1 fun itv s2 h2=>?_)) fun _ s' q=>FT (FT q));obtain⟨it,fp,tn,J,H2,e,I2,T,st2,f2,hq⟩:=h2;subst e;refine pR (Q:=fun x H1=>ai i x σ H1 D.nx) (RR:=fun acc C=>compPost (model X.prog X.w) X.A X.xe (some (assign (.Name y py) X.env)) (fun _ s'=>SP X pins D .next s') acc C) hc hsc hNX S hg ht he I2 T st2 f2 hq ?_;intro p C s' H' m hp hC hn hfree q I';refine Nn (sQ (v:=.ref p) I' hN hy (.inl hl) rfl (fun s'' I'' ⟨a,hsb,ha⟩=>?_) (.inr hl));have ne:C≠a:=by
  rcases ha with rfl|ha
  ·exact Iq (Gg I2.lt hC)
  ·obtain⟨v,o,ho,_⟩:=I2.cell y a ha
   exact Iq (Gg (F4 ho) hC)
 exact⟨m,hn.sameBut hsb ne,fun h'' hs''=>⟨_,H',I''.gone I2 hC hfree hs'',q⟩⟩
end
section
variable{g:CF TG}{tt:CF TT}{te:CF TE}{σ₀:St}{p:Addr}{Q:VK}{H:Hp}
theorem kJ{J:It}{n:Nat}{Y:Nat->Hp->V->Hp->Prop}(Pv:Nat->List V->Hp->Prop)(h0:Pv 0 [] (upd H p (.lst [])))(hp:∀i acc H,i<=n->Pv i acc H->H p=some (.lst acc)/\acc.length<=i)(hz:n<=FY)
  (hgo:∀i acc H,i<n->Pv i acc H->J.go i H) (hst:∀acc H,Pv n acc H->J.stop n H) (hy:∀i acc H x H1,i<n->Pv i acc H->J.yld i H x H1->Y i H x H1)
  (hs:∀C s' H' fp,∀i x acc H H1,i<n->Pv i acc H->Y i H x H1->g C s' H' fp x σ₀ H1 fun σ2 H2=>tt C s' H' fp σ2 H2 fun b H3=>if b=true then te C s' H' fp σ2 H3 fun y H4=>H4 p=some (.lst acc)/\Pv (i+1) (acc++[y]) (upd H4 p (.lst (acc++[y])))else Pv (i+1) acc H3)
  (hd:∀acc H,Pv n acc H->Q (.ref p) H):
  ∃W:Nat->Nat->List V->Hp->Prop,(∃m,W 0 m [] (upd H p (.lst [])))/\∀C s' H' fp,bV J (g C s' H' fp) (tt C s' H' fp) (te C s' H' fp) σ₀ p Q W:=by
 refine⟨fun i m acc H=>m=n-i/\i<=n/\Pv i acc H,⟨n,by simp,GH _,h0⟩,?_⟩;rintro C s' H' fp i m acc H ⟨rfl,hi,w⟩;obtain⟨h1,h2⟩:=hp i acc H hi w;refine⟨h1,?_⟩;by_cases hlt:i<n
 ·exact .inr ⟨hgo i acc H hlt w,by omega,Pv (i+1),fun acc' H' q=>⟨n-(i+1),by omega,rfl,hlt,q⟩,fun x H1 y=>hs C s' H' fp i x acc H H1 hlt w (hy i acc H x H1 hlt w y)⟩
 ·have e:i=n:=by omega
  subst e;exact .inl ⟨hst acc H w,hd acc H w⟩
theorem tj{K:Fg}{a:Addr}{xs:List V}(Pv:Nat->List V->Hp->Prop)(h0:Pv 0 [] (upd H p (.lst [])))(hp:∀i acc H,i<=xs.length->Pv i acc H->H p=some (.lst acc)/\acc.length<=i)(hl:∀i acc H,i<=xs.length->Pv i acc H->SqL K H a xs)(hz:xs.length<=FY)
  (hs:∀C s' H' fp,∀i x acc H,xs[i]?=some x->Pv i acc H->g C s' H' fp x σ₀ H fun σ2 H2=>tt C s' H' fp σ2 H2 fun b H3=>if b=true then te C s' H' fp σ2 H3 fun y H4=>H4 p=some (.lst acc)/\Pv (i+1) (acc++[y]) (upd H4 p (.lst (acc++[y])))else Pv (i+1) acc H3)
  (hd:∀acc H,Pv xs.length acc H->Q (.ref p) H):
  ∃W:Nat->Nat->List V->Hp->Prop,(∃m,W 0 m [] (upd H p (.lst [])))/\∀C s' H' fp,bV (Itl K a) (g C s' H' fp) (tt C s' H' fp) (te C s' H' fp) σ₀ p Q W:=
 kJ (Y:=fun i H x H1=>H1=H/\xs[i]?=some x) Pv h0 hp hz (fun i acc H hi w=>⟨xs,xs[i],hl i acc H (He hi) w,by simp[hi]⟩) (fun acc H w=>⟨xs,hl _ acc H (FU _) w,FU _⟩)
  (fun i acc H x H1 hi w y=>⟨y.1,y.2 xs (hl i acc H (He hi) w)⟩) (fun C s' H' fp i x acc H H1 hi w y=>by
   obtain⟨e,y⟩:=y;subst e;exact hs C s' H' fp i x acc _ y w) hd
theorem vk{K:Fg}{a:Addr}{xs:List V}(Pv:Nat->List V->Hp->Prop)(h0:Pv 0 [] (upd H p (.lst [])))(hp:∀i acc H,i<=xs.length->Pv i acc H->H p=some (.lst acc)/\acc.length<=i)(hl:∀i acc H,i<=xs.length->Pv i acc H->SqT K H a xs)(hz:xs.length<=FY)
  (hs:∀C s' H' fp,∀i x acc H,xs[i]?=some x->Pv i acc H->g C s' H' fp x σ₀ H fun σ2 H2=>tt C s' H' fp σ2 H2 fun b H3=>if b=true then te C s' H' fp σ2 H3 fun y H4=>H4 p=some (.lst acc)/\Pv (i+1) (acc++[y]) (upd H4 p (.lst (acc++[y])))else Pv (i+1) acc H3)
  (hd:∀acc H,Pv xs.length acc H->Q (.ref p) H):
  ∃W:Nat->Nat->List V->Hp->Prop,(∃m,W 0 m [] (upd H p (.lst [])))/\∀C s' H' fp,bV (Itt K a) (g C s' H' fp) (tt C s' H' fp) (te C s' H' fp) σ₀ p Q W:=
 kJ (Y:=fun i H x H1=>H1=H/\xs[i]?=some x) Pv h0 hp hz (fun i acc H hi w=>⟨xs,xs[i],hl i acc H (He hi) w,by simp[hi]⟩) (fun acc H w=>⟨xs,hl _ acc H (FU _) w,FU _⟩)
  (fun i acc H x H1 hi w y=>⟨y.1,y.2 xs (hl i acc H (He hi) w)⟩) (fun C s' H' fp i x acc H H1 hi w y=>by
   obtain⟨e,y⟩:=y;subst e;exact hs C s' H' fp i x acc _ y w) hd
theorem lu{lo:Int}{n:Nat}(Pv:Nat->List V->Hp->Prop)(h0:Pv 0 [] (upd H p (.lst [])))(hp:∀i acc H,i<=n->Pv i acc H->H p=some (.lst acc)/\acc.length<=i)(hz:n<=FY)
  (hs:∀C s' H' fp,∀i acc H,i<n->Pv i acc H->g C s' H' fp (.int (lo+i)) σ₀ H fun σ2 H2=>tt C s' H' fp σ2 H2 fun b H3=>if b=true then te C s' H' fp σ2 H3 fun y H4=>H4 p=some (.lst acc)/\Pv (i+1) (acc++[y]) (upd H4 p (.lst (acc++[y])))else Pv (i+1) acc H3)
  (hd:∀acc H,Pv n acc H->Q (.ref p) H):
  ∃W:Nat->Nat->List V->Hp->Prop,(∃m,W 0 m [] (upd H p (.lst [])))/\∀C s' H' fp,bV (Itr lo n) (g C s' H' fp) (tt C s' H' fp) (te C s' H' fp) σ₀ p Q W:=
 kJ (Y:=fun i H x H1=>H1=H/\x=.int (lo+i)) Pv h0 hp hz (fun i acc H hi w=>hi) (fun acc H w=>FU _) (fun i acc H x H1 hi w y=>y) (fun C s' H' fp i x acc H H1 hi w y=>by
   obtain⟨e,e2⟩:=y;subst e e2;exact hs C s' H' fp i acc _ hi w) hd
end
end
section
open PySem.Spec
section
variable{prog:Program}{w:World}{A:Around}{E:Value->Shared->Prop}{s:Shared}
theorem pS{jt t:Addr}{i:Nat}{its:Array Value}{y:Value}{Q:Value->Shared->Prop}(h1:s.heap.IsTupleIter jt t i)(h2:s.heap.IsTuple t its)(hy:its[i]?=some y)
  (k:∀h',h'.IsTupleIter jt t (i+1)->Gp jt s.heap h'->Q y { s with heap:=h' }):wpAny (model prog w) A (Gw (.ref jt)) Q E s:=by
 obtain⟨o,ho,hc,hd⟩:=id h1;obtain⟨ot,hot,_,nt,hdt⟩:=h2;unfold Gw;refine FM (Ho (name:=IX "__next__") h1.typeIs IM (G0 IM h1.typeIs K3 ?_ (KP _)));show wpAny _ _ (field (.ref jt) 0>>=_) _ _ s;refine FM (GM ho hd (x:=.ref t) rfl ?_);show wpAny _ _ (if(Gi t==Hz)=true then _ else _) _ _ s;rw[if_neg (show¬((Gi t==Hz)=true)from F3)];show wpAny _ _ (field (.ref jt) 1>>=_) _ _ s;refine FM (GM ho hd (x:=.int i 0) rfl ?_);show wpAny _ _ (seqItems? (.ref t)>>=_) _ _ s;refine FM (G7 hot hdt ?_);simp only[Ie,hy];refine FM (wpAny_setField ho hd (by simp) (FT ⟨y,rfl,FT (k _ ?_ (Jc ..))⟩));exact⟨_,GS _ ho (Ki (IF hd _)),(Lp ..).trans hc,by rw[IF hd];simp[rawInt]⟩
theorem rH{jt t:Addr}{i:Nat}{its:Array Value}{Q:Value->Shared->Prop}(hh:A.handled=none)(h1:s.heap.IsTupleIter jt t i)(h2:s.heap.IsTuple t its)(hy:its[i]?=none)
  (k:∀h' e,KW jt s.heap h'->(∃o,h'.get? e=some o/\o.cls=.type "StopIteration")->E (.ref e) { s with heap:=h' }):wpAny (model prog w) A (Gw (.ref jt)) Q E s:=by
 obtain⟨o,ho,hc,hd⟩:=id h1;obtain⟨ot,hot,_,nt,hdt⟩:=h2;unfold Gw;refine FM (Ho (name:=IX "__next__") h1.typeIs IM (G0 IM h1.typeIs K3 ?_ (KP _)));show wpAny _ _ (field (.ref jt) 0>>=_) _ _ s;refine FM (GM ho hd (x:=.ref t) rfl ?_);show wpAny _ _ (if(Gi t==Hz)=true then _ else _) _ _ s;rw[if_neg (show¬((Gi t==Hz)=true)from F3)];show wpAny _ _ (field (.ref jt) 1>>=_) _ _ s;refine FM (GM ho hd (x:=.int i 0) rfl ?_);show wpAny _ _ (seqItems? (.ref t)>>=_) _ _ s;refine FM (G7 hot hdt ?_);simp only[Ie,hy];refine FM (Jw (FM (wpAny_setField ho hd (by simp) ?_)));show wpAny _ _ (newExc (.type "StopIteration") []>>=_) _ _ _;refine FM ?_;simp only[newExc,newTuple];refine FM (Hv ?_ (by size_fits));refine FM (m:=firstArgMember _ _) (wpAny_of_eq (a:=Hz) (by first|rfl| (simp only[firstArgMember];rfl)) ?_);refine Hv ?_ (by size_fits);simp only[raiseNew];refine FM (wpAny_handled ?_)
 first|rw[show A.in1.handled=none from hh]|rw[hh]
 refine FM (FT (wpAny_throw ?_));exact k _ _ (((Jc ..).extBut.push _).push _) ⟨_,F9 _ rfl,rfl⟩
end
theorem wU{prog:Program}{w:World}{A:Around}(hh:A.handled=none)(jt t:Addr)(hne:t≠jt)(its:Array Value):
  Draws prog w A jt [jt,t] its.size (fun i v=>its[i]?=some v) (fun i h=>h.IsTupleIter jt t i/\h.IsTuple t its) where
 live:=fun _ _ st=>let⟨o,ho,_⟩:=st.1;⟨o,ho⟩
 frame:=fun _ _ _ st hk=>⟨st.1.at fun o e=>hk jt (by simp) o e,let⟨o,ho,r⟩:=st.2;⟨o,hk t (by simp) o ho,r⟩⟩
 item:=fun i s Q E hi st hQ=>pS st.1 st.2 (y:=its[i]) (by simp[hi]) fun h' a b=>hQ _ h' s.toks (by simp[hi]) ⟨a,st.2.extBut b.extBut hne⟩ b
 done:=fun s Q E st hE=>rH hh st.1 st.2 (by simp) hE
theorem Inv.offBase{X:Cx}{pins:List (Addr×Obj)}{σ:St}{H:Hp}{s:Shared}{c:Addr}{o:Obj}(I:Inv X pins σ H s)(f:jl X pins H c)(e:X.base.get? c=some o):False:=by
 rcases f.2.2.2.1 with z|z
 ·exact I.ok.noex c o e z
 ·exact absurd (Gg (F4 e) (Gs I.ok.bsz z)) (Hr _)
set_option genInjectivity false in
structure Src where
 Sq:Fg->Hp->Addr->List V->Prop
 Is:Heap->Addr->Array Value->Prop
 It:Heap->Addr->Addr->Nat->Prop
 icls:String
 get:∀{X:Cx} {pins:List (Addr×Obj)} {σ:St} {H:Hp} {s:Shared} {a:Addr} {xs:List V},Inv X pins σ H s->Sq X.K H a xs->∃its:List Value,aA xs its/\Is s.heap a its.toArray/\xs.length<=FY
 inj:∀{X:Cx} {pins:List (Addr×Obj)} {σ:St} {H:Hp} {s:Shared} {a:Addr} {xs ys:List V},Inv X pins σ H s->Sq X.K H a xs->Sq X.K H a ys->xs=ys
 off:∀{X:Cx} {pins:List (Addr×Obj)} {σ:St} {H:Hp} {s:Shared} {a c:Addr} {xs:List V},Inv X pins σ H s->Sq X.K H a xs->jl X pins H c->c≠a
 isSeq:∀{h:Heap} {a:Addr} {its:Array Value},Is h a its->∃o n,h.get? a=some o/\o.data=.seq its n
 isIt:∀{h:Heap} {jt a:Addr} {i:Nat},It h jt a i->∃o,h.get? jt=some o/\o.cls=.type icls/\o.data=.fields #[.ref a,.int i 0]
 mkI:∀{h:Heap} {jt a:Addr} {i:Nat} {o:Obj},h.get? jt=some o->o.cls=.type icls->o.data=.fields #[.ref a,.int i 0]->It h jt a i
 itKeep:∀{h h':Heap} {jt a:Addr} {i:Nat},It h jt a i->(∀o,h.get? jt=some o->h'.get? jt=some o)->It h' jt a i
 isKeep:∀{h h':Heap} {a:Addr} {its:Array Value},Is h a its->(∀o,h.get? a=some o->h'.get? a=some o)->Is h' a its
 draws:∀{prog:Program} {w:World} {A:Around},A.handled=none->∀(jt a:Addr),a≠jt->∀its:Array Value,Draws prog w A jt [jt,a] its.size (fun i v=>its[i]?=some v) (fun i h=>It h jt a i/\Is h a its)
 iter:∀{prog:Program} {w:World} {A:Around} {E:Value->Shared->Prop} {s:Shared} {a:Addr} {its:Array Value} {Q:Value->Shared->Prop},Is s.heap a its->
  Q (.ref s.heap.objs.size) { s with heap:=s.heap.push { cls:=.type icls,data:=.fields #[.ref a,.int 0 0] } }->wpAny (model prog w) A (pyIter (.ref a)) Q E s
noncomputable def bj:Src where
 Sq:=SqL
 Is:=fun h a its=>h.IsList a its
 It:=fun h jt a i=>h.IsListIter jt a i
 icls:="list_iterator"
 get:=fun I h=>let⟨its,r,p,z⟩:=I.list h;⟨its,r,p.isList,z⟩
 inj:=fun I h h'=>I.list_inj h h'
 off:=fun{X pins σ H s a c xs} I h f e=>by
  subst e;rcases h with(h|⟨o,h⟩)|⟨o,its,n,hk,_⟩
  ·rw[f.1]at h;cases h
  ·rw[f.1]at h;cases h
  ·exact I.offBase f (I.ok.mod.kin _ _ hk)
 isSeq:=fun h=>let⟨o,ho,_,n,hd⟩:=h;⟨o,n,ho,hd⟩
 isIt:=fun h=>h
 mkI:=fun h1 h2 h3=>⟨_,h1,h2,h3⟩
 itKeep:=fun h k=>h.at k
 isKeep:=fun h k=>h.at k
 draws:=fun hh jt a hne its=>Draws.list hh jt a hne its
 iter:=fun h q=>JW h q
noncomputable def gk:Src where
 Sq:=SqT
 Is:=fun h a its=>h.IsTuple a its
 It:=fun h jt a i=>h.IsTupleIter jt a i
 icls:="tuple_iterator"
 get:=fun I h=>let⟨its,r,p,z⟩:=I.tuple h;⟨its,r,p,z⟩
 inj:=fun I h h'=>I.tuple_inj h h'
 off:=fun{X pins σ H s a c xs} I h f e=>by
  subst e;rcases h with(h|⟨o,h⟩)|⟨o,its,n,hk,_⟩
  ·rw[f.1]at h;cases h
  ·rw[f.1]at h;cases h
  ·exact I.offBase f (I.ok.mod.kin _ _ hk)
 isSeq:=fun h=>let⟨o,ho,_,n,hd⟩:=h;⟨o,n,ho,hd⟩
 isIt:=fun h=>h
 mkI:=fun h1 h2 h3=>⟨_,h1,h2,h3⟩
 itKeep:=fun h k=>h.at k
 isKeep:=fun h k=>let⟨o,ho,r⟩:=h;⟨o,k o ho,r⟩
 draws:=fun hh jt a hne its=>wU hh jt a hne its
 iter:=fun h q=>M5 h q
theorem Inv.turns{X:Cx}{pins:List (Addr×Obj)}{σ:St}{H:Hp}{s:Shared}{h':Heap}{t':Nat}{ch:List Addr}{T:Addr}{o:HO}(I:Inv X pins σ H s)(hf:∀b∈ch,jl X pins H b)
  (k:∀b ob,b∉ch->s.heap.get? b=some ob->h'.get? b=some ob) (hT:s.heap.objs.size<=T) (new:br X.prog X.w (upd H T o) h' T o):Inv X pins σ (upd H T o) { s with heap:=h',toks:=t' }:=by
 have hn:H T=none:=I.hok.fresh hT;have nc:∀b u,H b=some u->b∉ch:=fun b u e z=>by
  have:=(hf b z).1;rw[e]at this;cases this
 refine I.step (g':=s.gens) (d':=s.drawn) (ch:=ch) (fun b hb=>⟨(hf b hb).2.2.2.1,(hf b hb).2.1,(hf b hb).2.2.2.2.1,(hf b hb).2.2.2.2.2⟩) (fun b ob _ _ hc e _=>k b ob hc e) (fun b ob _ _ hc e _=>⟨ob.slots,k b ob hc e⟩)
  (fun b ob _ e n=>?_) (fun b ob hc e=>⟨ob,k b ob hc e⟩) (fun b xs e=>?_) (fun b ob xs e=>?_) (fun b ps e=>⟨#[],?_⟩) (fun m hm=>?_) (fun b u e=>?_) I.bare
 ·rw[aO (lm (F4 e) hT)]
  exact n
 ·rw[aO (aP e hn)]
  exact e
 ·rw[aO (aP e hn)]
  exact e
 ·rw[aO (aP e hn),e]
  simp
 ·obtain⟨ob,es,ep,ho,r⟩:=hm
  exact⟨ob,es,ep,k _ ob (fun z=>(hf _ z).2.1 rfl) ho,r⟩
 ·by_cases hb:b=T
  ·subst hb
   rw[av]at e;cases e;exact new
  ·rw[aO hb]at e
   refine(I.hok b u e).stay (fun c v hc q=>k c v ?_ q) (fun c q=>by rw[aO (aP q hn)];exact q) fun c xs q=>by rw[aO (aP q hn)];exact q
   rcases hc with z|z
   ·rw[z];exact nc b u e
   ·exact nc c _ z
theorem Inv.turnsN{X:Cx}{pins:List (Addr×Obj)}{σ:St}{H:Hp}{s:Shared}{h':Heap}{t':Nat}{ch:List Addr}(I:Inv X pins σ H s)(hf:∀b∈ch,jl X pins H b)
  (k:∀b ob,b∉ch->s.heap.get? b=some ob->h'.get? b=some ob):Inv X pins σ H { s with heap:=h',toks:=t' }:=by
 have nc:∀b u,H b=some u->b∉ch:=fun b u e z=>by
  have:=(hf b z).1;rw[e]at this;cases this
 refine I.step (g':=s.gens) (d':=s.drawn) (ch:=ch) (fun b hb=>⟨(hf b hb).2.2.2.1,(hf b hb).2.1,(hf b hb).2.2.2.2.1,(hf b hb).2.2.2.2.2⟩) (fun b ob _ _ hc e _=>k b ob hc e) (fun b ob _ _ hc e _=>⟨ob.slots,k b ob hc e⟩)
  (fun b ob _ e n=>n) (fun b ob hc e=>⟨ob,k b ob hc e⟩) (fun b xs e=>e) (fun b ob xs e=>e) (fun b ps e=>⟨#[],by rw[e];simp⟩) (fun m hm=>?_) (fun b u e=>?_) I.bare
 ·obtain⟨ob,es,ep,ho,r⟩:=hm
  exact⟨ob,es,ep,k _ ob (fun z=>(hf _ z).2.1 rfl) ho,r⟩
 ·refine(I.hok b u e).stay (fun c v hc q=>k c v ?_ q) (fun c q=>q) fun c xs q=>q
  rcases hc with z|z
  ·rw[z];exact nc b u e
  ·exact nc c _ z
noncomputable def Ite(S:Src)(K:Fg)(a:Addr):It:=
 ⟨fun i H=>∃xs x,S.Sq K H a xs/\xs[i]?=some x,fun i H x H'=>∃T v,H T=none/\x=.ref T/\H'=upd H T (.tup [.int i,v])/\∀xs,S.Sq K H a xs->xs[i]?=some v,fun i H=>∃xs,S.Sq K H a xs/\xs.length=i⟩
theorem Af{P:Program}{w:World}{K:Fg}{elts:List Expr}{k0:Nat}{pos:Pos}(S:Src)(a e it:Addr)(hl:S.icls≠"enumerate"):
  cp P w K (.Tuple elts k0 pos) (Ite S K a) [e,it] e (fun i h=>(∃old,IsEnum h e it i old)/\S.It h it a i) where
 mem:=by simp
 obj:=fun i h st b hb=>by
  obtain⟨⟨old,he⟩,hi⟩:=st;rcases FW.mp hb with rfl|hb
  ·exact⟨_,he,fun v z=>nomatch z⟩
  ·obtain rfl:=FR.mp hb
   obtain⟨o,ho,_,hd⟩:=S.isIt hi;exact⟨o,ho,fun v z=>by rw[hd]at z;cases z⟩
 keep:=fun i h h' st k=>by
  obtain⟨⟨old,he⟩,hi⟩:=st;exact⟨⟨old,k e (by simp) _ he⟩,S.itKeep hi fun o q=>k it (by simp) o q⟩
 item:=by
  intro X hP hw hK hc i pins s σ H E I hf st hg;subst hP hw hK;obtain⟨xs,x,hq,hx⟩:=hg;obtain⟨its,rv,p,hz⟩:=S.get I hq;obtain⟨⟨old,he⟩,hi⟩:=st;obtain⟨u,hu,ru⟩:=rv.get hx;obtain⟨oa,na,hoa,hda⟩:=S.isSeq p;obtain⟨oi,hoi,hci,hdi⟩:=S.isIt hi;have nei:e≠it:=fun z=>by
   have he':s.heap.get? e=some _:=he;rw[z,hoi]at he';cases he';exact hl (by simpa using hci.symm)
  have nae:e≠a:=S.off I hq (hf e (by simp));have nai:a≠it:=fun z=>by
   rw[z,hoi]at hoa;cases hoa;rw[hdi]at hda;cases hda
  have hlt:i<its.toArray.size:=by
   have:=(FS.mp hu).1;simpa using this
  refine wpAny_pyNext_enum_itemD (S.draws (A:=X.A.in1) (show X.A.in1.handled=none from I.ok.hd hc) it a nai its.toArray) he ⟨hi,p⟩ hlt nei (by simp[nei,nae]) fun y h1 tk hP ho hs1 hT hsz hk=>⟨_,rfl,?_⟩;have hy:y=u:=by
   have:its.toArray[i]?=some u:=by simpa using hu
   rw[this]at hP;exact(F1 hP).symm
  subst hy;refine wpAny_letOwnedTupleGo_enum ho fun h2 he2 hs2=>?_;have elt:e<s.heap.objs.size:=F4 he;have hT2:h2.get? s.heap.objs.size=some { cls:=.type "tuple",data:=.seq #[.int i tk,y] }:=hs2.extBut _ _ (Ef (FU _) elt) hT;have kept:∀b ob,b∉[e,it]->s.heap.get? b=some ob->h2.get? b=some ob:=fun b ob hb q=>by
   have h1':b≠e:=fun z=>hb (by simp[z]);exact hs2.extBut _ _ h1' (hk b ob h1' (fun z=>hb (by simp[z])) q)
  refine⟨.ref s.heap.objs.size,upd H s.heap.objs.size (.tup [.int i,x]),?_,rfl,⟨_,x,I.fresh,rfl,rfl,fun ys hy=>by rw[S.inj I hy hq];exact hx⟩,⟨⟨_,he2⟩,S.itKeep hs1.1 fun o q=>hs2.extBut _ _ (Hn nei) q⟩,fun b hb=>?_⟩
  ·refine I.turns (t':=tk+1) hf kept (FU _) ⟨(by show 2<=FY;decide),[.int i tk,y],.cons ⟨tk,rfl⟩ (.cons ru .nil),_,hT2,rfl,⟨0,rfl⟩,rfl⟩
  ·have lt:b<s.heap.objs.size:=by
    rcases FW.mp hb with rfl|hb
    ·exact elt
    ·obtain rfl:=FR.mp hb
     exact F4 hoi
   rw[aO (lm lt (FU _))];exact(hf b hb).1
 done:=by
  intro X hP hw hK hc i pins s σ H E I hf st hg;subst hP hw hK;obtain⟨xs,hq,hx⟩:=hg;obtain⟨its,rv,p,hz⟩:=S.get I hq;obtain⟨⟨old,he⟩,hi⟩:=st;obtain⟨oa,na,hoa,hda⟩:=S.isSeq p;obtain⟨oi,hoi,hci,hdi⟩:=S.isIt hi;have nai:a≠it:=fun z=>by
   rw[z,hoi]at hoa;cases hoa;rw[hdi]at hda;cases hda
  have hsz:i=its.toArray.size:=by
   have:=rv.length;simp only[F8];omega
  subst hsz;exact wpAny_pyNext_enum_endD (S.draws (A:=X.A.in1) (show X.A.in1.handled=none from I.ok.hd hc) it a nai its.toArray) he ⟨hi,p⟩ fun h' hx'=>⟨rfl,I.turnsN (t':=s.toks) hf fun b ob hb q=>hx' b ob (fun z=>hb (by simp[z])) q⟩
 self:=fun _ _ _ _ _ st h=>by
  obtain⟨⟨old,he⟩,_⟩:=st;exact Nv he h
section
variable{X:Cx}{elts:List Expr}{k0:Nat}{tpos:Pos}
theorem Bt(S:Src)(l:Addr)(its:Array Value):
  Meets (Builtin.«enumerate.__new__» ⟨[.type "enumerate",.ref l],[]⟩) (fun _ R s=>S.Is s.heap l its/\
   R (.ok (.ret (.ref (s.heap.push { cls:=.type S.icls,data:=.fields #[.ref l,.int 0 0] }).objs.size)))
    { s with heap:=(s.heap.push { cls:=.type S.icls,data:=.fields #[.ref l,.int 0 0] }).push { cls:=.type "enumerate",data:=.fields #[.none,.bool false,.ref s.heap.objs.size,rawInt 0,.none,.none] } }):=
 .of_wp fun prog w A R s h=>by
  obtain⟨hp,g,d,tk,os⟩:=s;obtain⟨hl,h⟩:=h;have hsub:=sub_enumerate;have hL:S.Is (NJ ⟨hp,g,d,tk,os⟩) l its:=hl
  wp_walk
  refine wpAny_stack_any fun st=>FT ?_
  split
  ·rename_i c _ _ _ _ _
   cases (c==HY "enumerate")
   ·wp_walk using S.iter hL
    exact⟨_,rfl,h⟩
   ·wp_walk using S.iter hL
    exact⟨_,rfl,h⟩
  ·wp_walk using S.iter hL
   exact⟨_,rfl,h⟩
theorem Ag(S:Src){prog:Program}{w:World}{A:Around}{E:Value->Shared->Prop}{s:Shared}{l:Addr}{its:Array Value}{Q:Value->Shared->Prop}(hL:S.Is s.heap l its)
  (h:∀h',IsEnum h' (s.heap.objs.size+1) s.heap.objs.size 0 .none->S.It h' s.heap.objs.size l 0->(∀b o,s.heap.get? b=some o->h'.get? b=some o)->Q (.ref (s.heap.objs.size+1)) { s with heap:=h' }):
  wpAny (model prog w) A (call (.type "enumerate") [.ref l]) Q E s:=by
 refine Nh F.called_enumerate (by decide) (F.typeCall_enumerate_1 _) (F.newCall_enumerate_1 _) (fun obj=>MC obj _) F.entry_enumerate_new (Bt S l its) ⟨hL,?_⟩;have hz:(s.heap.push { cls:=.type S.icls,data:=.fields #[.ref l,.int 0 0] }).objs.size=s.heap.objs.size+1:=GR ..;show _/\_;rw[hz];have he:=F9 (s.heap.push { cls:=.type S.icls,data:=.fields #[.ref l,.int 0 0] }) (o:={ cls:=.type "enumerate",data:=.fields #[.none,.bool false,.ref s.heap.objs.size,rawInt 0,.none,.none] }) rfl;rw[hz]at he;exact⟨⟨_,he,rfl⟩,h _ he (S.mkI (FP _ (F9 _ rfl)) rfl rfl) fun b o q=>FP _ (FP _ q)⟩
noncomputable def lv(S:Src)(K:Fg)(ta:TA):TI:=fun σ H R=>ta σ H fun vs H1=>∃a xs,vs=[.ref a]/\S.Sq K H1 a xs/\R (Ite S K a) H1
theorem kK(S:Src){a:Expr}{ta:TA}{p pos:Pos}(hg:Gl X "enumerate")(hm:X.mg "enumerate"=none)(hS:S.icls≠"enumerate")(ha:PA X [a] ta)(hs:Gf [a] X.env=[(false,eval a X.env)]:=by rfl):
  PI X (.Tuple elts k0 tpos) (.Call (.Name "enumerate" p) [a] [] pos) (lv S X.K ta):=by
 intro pins s σ H R I h;refine Call_ (i5 I hg hm boot_enumerate (Hl (thn (ha pos pins s σ H _ I h) fun us s1 ⟨vs,H1,I1,r1,q1⟩=>?_) hs rfl));obtain⟨l,xs,e,hq,q⟩:=q1;subst e;obtain⟨u,rfl,ru⟩:=r1.one;cases ru;obtain⟨its,rv,p',hz⟩:=S.get I1 hq;refine Ag S p' fun h' he hi kp=>Nv he ?_;have I2:Inv X pins σ H1 { s1 with heap:=h' }:=I1.kept (t':=s1.toks) kp;refine⟨s1.heap.objs.size+1,[s1.heap.objs.size+1,s1.heap.objs.size],_,_,H1,rfl,I2,Af S l _ _ hS,⟨⟨_,he⟩,hi⟩,fun b hb=>?_,q⟩;have hb':s1.heap.objs.size<=b:=by
  rcases FW.mp hb with rfl|hb
  ·exact L7 _
  ·obtain rfl:=FR.mp hb
   exact FU _
 exact I1.fpOk hb' (I1.hok.fresh hb')
end
end
section
open PySem.Spec
section
variable{X:Cx}
noncomputable def ko(K:Fg):List V->Hp->VK->Prop:=fun xs H Q=>∃x T t b,xs=[x,.ty T]/\dZ K H x t/\GI K t (.type T)=some b/\Q (.bl b) H
theorem eV:bP X (.builtin "isinstance") (ko X.K):=by
 intro pins s σ H xs us Q I r h;obtain⟨x,T,t,b,rfl,ty,e,q⟩:=h;obtain⟨u,v,rfl,ru,rv⟩:=r.two;cases (show v=HY T from rv);exact zT I ru ty e fun tk=>⟨.bl b,H,I.tok tk,rfl,q⟩
theorem wV(K:Fg):GI K (.type "int") (.type "int")=some true:=by unfold GI;rw[if_pos (beq_self_eq_true _)]
theorem vm(K:Fg):GI K (.type "int") (.type "bool")=some false:=by show(if(HY "int"==HY "bool")=true then some true else if LX "bool"=true then(Mj "int").map (·.contains (.type "bool"))else none)=some false;decide+kernel
theorem iF(K:Fg):GI K (.type "tuple") (.type "tuple")=some true:=by unfold GI;rw[if_pos (beq_self_eq_true _)]
theorem wW(K:Fg):GI K (.type "list") (.type "list")=some true:=by unfold GI;rw[if_pos (beq_self_eq_true _)]
theorem C8:∀(bs:List Bool),(F5 bs.length).all (fun i=>bs.getD i false)=bs.all id:=by
 intro bs
 induction bs with
 |nil=>rfl
 |cons b r ih=>
  rw[Gm,Mb,Je,Ks,Je];show(b&&_)=(b&&_);rw[<-ih];rfl
theorem C9{bs:List Bool}{us:List Value}(r:aA (bs.map V.bl) us):us=bs.map G4:=by
 induction bs generalizing us with
 |nil=>cases r;rfl
 |cons b t ih=>
  cases r with
  |cons q r'=>
   rw[F6,<-ih r',show _=G4 b from q]
theorem Inv.walked{pins:List (Addr×Obj)}{σ:St}{H:Hp}{s:Shared}{h':Heap}{tk:Nat}{o:Obj}(I:Inv X pins σ H s)(hk:∀b ob,b∉[s.heap.objs.size]->(s.heap.push o).get? b=some ob->h'.get? b=some ob):Inv X pins σ H { s with heap:=h',toks:=tk }:=
 I.kept fun b ob e=>hk b ob (fun z=>absurd (FR.mp z) (GK (F4 e))) (FP _ e)
theorem mI(hc:X.calm=true):bP X (.builtin "all") (fun xs H Q=>∃(p:Addr)(bs:List Bool),xs=[.ref p]/\SqL X.K H p (bs.map V.bl)/\Q (.bl (bs.all id)) H):=by
 intro pins s σ H xs us Q I r h;obtain⟨p,bs,rfl,hq,q⟩:=h;obtain⟨u,rfl,rx⟩:=r.one;cases rx;obtain⟨its,rv,pl,hz⟩:=I.list hq;have e:=C9 rv;subst e;refine call_all_walk (JW pl.isList ⟨s.heap.objs.size,_,_,_,_,_,fun i=>bs.getD i false,rfl,Walks.list (show X.A.in1.handled=none from I.ok.hd hc) _ p (by obtain⟨o,ho,_⟩:=pl.isList;exact GK (F4 ho)) (bs.map G4).toArray,
  ⟨⟨_,F9 _ rfl,rfl,rfl⟩,pl.isList.push _⟩,?_,fun h' tk hk=>?_⟩)
 ·intro i v s' Q' E' hP hQ
  have hP':(bs.map G4)[i]?=some v:=by simpa using hP
  rw[FZ]at hP';cases e:bs[i]? with
  |none=>rw[e]at hP';cases hP'
  |some b=>
   rw[e]at hP';cases hP';have:bs.getD i false=b:=by rw[FO,e];rfl
   have hQ':Q' (bs.getD i false) s':=hQ;rw[this]at hQ';exact Ic hQ'
 ·refine⟨.bl (bs.all id),H,I.walked hk,?_,q⟩
  show G4 _=G4 _;rw[<-C8];simp
theorem wX(ns:List Int):∀k,k<=ns.length->preSum (fun i=>ns.getD i 0) k=(ns.take k).sum:=by
 intro k
 induction k with
 |zero=>intro _;simp[preSum]
 |succ k ih=>
  intro hk;have hlt:k<ns.length:=hk;rw[preSum,ih (He hlt),Hx,GZ,FN hlt,FO,FN hlt];simp
theorem i8(hc:X.calm=true):bP X (.builtin "sum") (fun xs H Q=>∃(p:Addr)(ns:List Int),xs=[.ref p]/\SqL X.K H p (ns.map V.int)/\Q (.int ns.sum) H):=by
 intro pins s σ H xs us Q I r h;obtain⟨p,ns,rfl,hq,q⟩:=h;obtain⟨u,rfl,rx⟩:=r.one;cases rx;obtain⟨its,rv,pl,hz⟩:=I.list hq;have hlen:ns.length=its.length:=by have:=rv.length;simpa using this
 have ia:=lj rv;refine call_sum_walkG (JW pl.isList ⟨s.heap.objs.size,_,_,_,_,_,fun i=>ns.getD i 0,rfl,Walks.list (show X.A.in1.handled=none from I.ok.hd hc) _ p (by obtain⟨o,ho,_⟩:=pl.isList;exact GK (F4 ho)) its.toArray,
  ⟨⟨_,F9 _ rfl,rfl,rfl⟩,pl.isList.push _⟩,fun b hb=>?_,?_,fun h' tk t' hk=>?_⟩)
 ·have hp:p<s.heap.objs.size:=by
   obtain⟨o,ho,_⟩:=pl.isList;exact F4 ho
  show b<(s.heap.push _).objs.size;rw[GR];rcases FW.mp hb with rfl|hb
  ·exact IW _
  ·obtain rfl:=FR.mp hb
   exact JY hp
 ·intro i v hP
  have hP':its[i]?=some v:=by simpa using hP
  have hlt:i<ns.length:=by
   have:=(FS.mp hP').1;omega
  obtain⟨u',hu',ru'⟩:=rv.get (x:=.int ns[i]) (i:=i) (by rw[FZ,FN hlt]<;>rfl);rw[hP']at hu';cases hu';obtain⟨t,e⟩:=(show∃t,v=Jv ns[i] t from ru');refine⟨t,?_⟩;show v=Jv (ns.getD i 0) t;rw[e,FO,FN hlt];rfl
 ·refine⟨.int ns.sum,H,I.walked hk,⟨t',?_⟩,q⟩
  rw[show its.toArray.size=ns.length by simp;omega,wX ns _ (FU _),GG]
noncomputable def EqE(x y:V)(b:Bool):Prop:=(de x=true/\de y=true/\b=eqV x y)\/(∃a,x=.ref a/\y=.ref a/\b=true)
theorem EqE.at{A:Around}{s:Shared}{x y:V}{b:Bool}{u v:Value}(h:EqE x y b)(ru:aB x u)(rv:aB y v):Gq A s u v b:=by
 rcases h with⟨f1,f2,rfl⟩|⟨a,rfl,rfl,rfl⟩
 ·exact zW ru rv f1 f2
 ·cases ru
  cases rv;exact LW _
noncomputable def Bu(xs ys:List V)(e:Nat->Bool):Prop:=∀j x y,xs[j]?=some x->ys[j]?=some y->EqE x y (e j)
theorem xH{A:Around}{s:Shared}{xs ys:List V}{e:Nat->Bool}{us vs:List Value}(h:Bu xs ys e)(ru:aA xs us)(rv:aA ys vs):
  ∀j (h1:j<us.toArray.size) (h2:j<vs.toArray.size),Gq A s us.toArray[j] vs.toArray[j] (e j):=by
 intro j h1 h2;have h1':j<xs.length:=by rw[ru.length];simpa using h1
 have h2':j<ys.length:=by rw[rv.length];simpa using h2
 obtain⟨u,eu,r1⟩:=ru.get (FN h1');obtain⟨v,ev,r2⟩:=rv.get (FN h2');have q:=(h j _ _ (FN h1') (FN h2')).at (A:=A) (s:=s) r1 r2;have e1:us.toArray[j]=u:=by
  have:=(FS.mp eu).2;simpa using this
 have e2:vs.toArray[j]=v:=by
  have:=(FS.mp ev).2;simpa using this
 rw[e1,e2];exact q
noncomputable def j5(xs ys:List V)(e:Nat->Bool):Bool:=(F5 (min xs.length ys.length)).all e&&xs.length==ys.length
noncomputable def rJ(Sq:Hp->Addr->List V->Prop)(neg:Bool):R2:=fun x y H Q=>∃a b xs ys e,x=.ref a/\y=.ref b/\Sq H a xs/\Sq H b ys/\Bu xs ys e/\Q (.bl (if neg then !j5 xs ys e else j5 xs ys e)) H
theorem Eg(hu:X.A.units<cLine):OpR X (HP .Eq) (rJ (SqT X.K) false):=by
 intro pins s σ H x y v u Q I r1 r2 h;obtain⟨a,b,xs,ys,e,rfl,rfl,ha,hb,he,q⟩:=h;cases r1;cases r2;obtain⟨us,ru,pu,_⟩:=I.tuple ha;obtain⟨vs,rv,pv,_⟩:=I.tuple hb;refine SeqAt.eq_tupleAt (e:=e) pu pv hu (xH he ru rv) ⟨.bl (j5 xs ys e),H,I,?_,q⟩;show G4 _=G4 _;unfold j5;rw[F8,F8,ru.length,rv.length]
theorem Eh(hu:X.A.units<cLine):OpR X (HP .NotEq) (rJ (SqT X.K) true):=by
 intro pins s σ H x y v u Q I r1 r2 h;obtain⟨a,b,xs,ys,e,rfl,rfl,ha,hb,he,q⟩:=h;cases r1;cases r2;obtain⟨us,ru,pu,_⟩:=I.tuple ha;obtain⟨vs,rv,pv,_⟩:=I.tuple hb;refine SeqAt.RcNeAt.tuples (e:=e) pu pv hu (xH he ru rv) _ _ _ _ ⟨.bl (!j5 xs ys e),H,I,?_,q⟩;show G4 _=G4 _;unfold j5;rw[F8,F8,ru.length,rv.length]
end
theorem Ah(ns ms:List Int):Bu (ns.map V.int) (ms.map V.int) (fun j=>decide (ns[j]?=ms[j]?)):=by
 intro j x y hx hy;rw[FZ]at hx hy;cases e1:ns[j]? with
 |none=>rw[e1]at hx;cases hx
 |some n=>
  cases e2:ms[j]? with
  |none=>rw[e2]at hy;cases hy
  |some m=>
   rw[e1]at hx;rw[e2]at hy;cases hx;cases hy;refine .inl ⟨rfl,rfl,?_⟩;show decide (ns[j]?=ms[j]?)=(n==m);rw[e1,e2];by_cases h:n=m
   ·subst h;simp
   ·simp[h]
theorem yr(ns ms:List Int):j5 (ns.map V.int) (ms.map V.int) (fun j=>decide (ns[j]?=ms[j]?))=decide (ns=ms):=by
 unfold j5;rw[FQ,FQ];by_cases h:ns=ms
 ·subst h
  simp
 ·rw[decide_eq_false h]
  by_cases hl:ns.length=ms.length
  ·rw[Bool.and_eq_false_iff]
   left
   rw[<-Bool.not_eq_true,NU];intro q;apply h;apply GW;intro j;by_cases hj:j<ns.length
   ·have:=q j (by rw[Gr];omega)
    exact of_decide_eq_true this
   ·rw[Gd (by omega),Gd (by omega)]
  ·rw[beq_eq_false_iff_ne.mpr hl,Mh]
end
section
open PySem.Spec
noncomputable def FnB(P:Program)(w:World)(K:Fg)(mg:Str->Option Value)(base:Heap)(k:Nat)(x:Str)(ps:List Str)(sp:Sp):Prop:=
 ∃f fd,dJ P w K mg base CX0 k f fd ps sp/\mg x=some (.ref f)/\Jq K (.ref f)=true/\d3 K fd ps []
theorem ak{X:Cx}{k:Nat}{x:Str}{ps:List Str}{sp:Sp}{p pos:Pos}{e:Expr}{es:List Expr}{t:TA}(F:FnB X.prog X.w X.K X.mg X.base k x ps sp)(hr:bK k X.A)(ha:PA X (e::es) t)(hg:Gl X x:=by rfl)
  (hdb:(x==("__debug__":Str))=false:=by decide) (he:Gf (e::es) X.env=(false,eval e X.env)::Gf es X.env:=by rfl) (hpl:(backTo pos (Gf es X.env)).any (·.1)=false:=by rfl):
  PE X (.Call (.Name x p) (e::es) [] pos) (au sp [] E0 t):=by
 obtain⟨f,fd,ok,m,kp,b⟩:=F;exact C1 ok hr hg m kp b .nil uD ha hdb he hpl
structure Def(K:Fg)(mg:Str->Option Value)(x:Str)(st:Stmt)(ps:List Str)(f:Addr)(fd:Gc):Prop where
 fn:Fun K x x st f fd
 m:mg x=some (.ref f)
 b:d3 K fd ps []
theorem Def.ok{P:Program}{w:World}{K:Fg}{mg:Str->Option Value}{base:Heap}{x:Str}{st:Stmt}{N ps:List Str}{f:Addr}{fd:Gc}{k:Nat}{sp:Sp}(D:Def K mg x st ps f fd)(S:ax N ps (am st))(len:∀vs H Q E,sp vs H Q E->vs.length=ps.length)
  (hbody:∀(cdv:Value)(A:Around)(outer:List Env)(s:Shared)(H:Hp)(vs:List V)(Q:VK)(E:XK),bK k (A.deeper (envOfC x (am st) s.heap.objs.size f cdv))->sp vs H Q E->
   ∃t,PSs (lh CX0 P w K mg base N x (am st) f cdv A outer s H E).nox (dL st) t/\t { nx:=fun _ H'=>Q .non H',rt:=Q } (start N vs) H):FnB P w K mg base (k+1) x ps sp:=
 ⟨f,fd,D.fn.ok S len hbody,D.m,D.fn.kp,D.b⟩
theorem dj{X:Cx}:OpR X (IL .Mult) (rI ID fun i j=>.int (i*j)):=opI fun _ _ _ _ _ _ _ hc q=>mul_int q hc
theorem pT:∀(ns:List Int),∀n∈ns,GD n<=LN (ns.map JZ)
 | [],n,h=>(nomatch h)
 |m::r,n,h=>by
  rw[F6,LN];have e:Jx (.int m)=GD m:=by
   rw[Jx];rfl
  rw[e];rcases FW.mp h with rfl|h
  ·omega
  ·have:=pT r n h
   omega
theorem wY{ns:List Int}(h:LA [K4 (ns.map JZ)]=true):∀n∈ns,GD n<=1048576:=by
 intro n hn;have h1:Ml (K4 (ns.map JZ))=true:=by
  unfold LA at h;rw[Je,G3]at h;exact h.1
 unfold Ml at h1;rw[G3]at h1;have h2:Jx (K4 (ns.map JZ))<=2^20:=of_decide_eq_true h1.2;rw[Jx]at h2;have h3:=pT ns n hn;have e:(2:Nat)^20=1048576:=by decide
 omega
noncomputable def d4(K:Fg)(H:Hp)(a:Addr)(ns:List Int):Prop:=SqL K H a (ns.map V.int)/\ns.length<=63/\∀n∈ns,GD n<=1048576
noncomputable def pU(K:Fg):Sp:=fun vs H Q _=>∃(a:Addr)(ns:List Int),vs=[.ref a]/\d4 K H a ns/\∀H',Q (.bl true) H'
theorem Bv{l:PySem.W.OpenLaw}{k:Nat}{q:Program}{loose:List Str}{XP:(Str->Option Value)->Heap->Prop}{YP:World->Heap->Prop}{d:DefRec}{K:Params->Fg}{x:Str}
  (hn:l.most=some 63) (hdf:d.params.defaults=[]) (hr:bK k callerA) (hY:∀(w:World)(h:Heap),YP w h->(K w.params).In h)
  (F:∀(w:World)(mg:Str->Option Value)(fa:Addr)(h:Heap),(K w.params).In h->h.Ns Gn mg->mg d.name=some (.ref fa)->
   ∃fd:Gc,(∀(s:Shared)(u:Value),BindsTo s fd ⟨[u],[]⟩ [(x,u)])/\
    ∀base:Heap,(K w.params).In base->base.Ns Gn mg->dJ l.prog w (K w.params) mg base CX0 k fa fd [x] (pU (K w.params))):
  PySem.W.WalkO q loose XP YP l.row.toRowW d [] (fun f vs=>PySem.call f vs):=by
 intro w s₀ s₁ mg mb G Y fa o pm cd doc dV kV ho hd hcd hD hmg hg args vals as hpre hlay hrd hwl hlo;obtain rfl:dV=.none:=PySem.W.Dflts.none hD hdf;obtain rfl:kV=.none:=PySem.W.Dflts.noKw hD;obtain⟨a,vs,ns,rfl,rfl,hobj,hints,hlen⟩:=Att.Aa hn hpre hwl;have hbits:=wY hlay;have KX:=hY w _ Y;obtain⟨fd,hb,hF⟩:=F w mg fa _ KX G.T.g hmg;have c:=Bs KX G.T.g G.T.b G.T.builtins G.T.nolimit hg hobj hints (Gs hlen (by decide)) hr hF hb (fun H hO hS=>⟨a,ns,rfl,⟨hS,hlen,hbits⟩,fun _=>rfl⟩) fun H e s' z=>z;refine PySem.W.enter_call (Kq c fun r s' hq=>?_);obtain⟨rfl,h2,h3,h4⟩:=hq;exact⟨.inl ⟨.bool true,.bool true,[],rfl,fun _=>rfl,.bool true,Att.Ab l _,fun _=>⟨Nw,fun _ hm=>(nomatch hm)⟩⟩,h2,h3,h4⟩
theorem Ai{J:It}{n:Nat}{g:TG}{tb:TS}{D:ic}{σ:St}{H:Hp}{Y:Nat->Hp->V->Hp->Prop}(Pv:Nat->St->Hp->Prop)(h0:Pv 0 σ H)(hgo:∀i σ H,i<n->Pv i σ H->J.go i H)(hst:∀σ H,Pv n σ H->J.stop n H)
  (hy:∀i σ H x H1,i<n->Pv i σ H->J.yld i H x H1->Y i H x H1) (hs:∀i x σ H H1,i<n->Pv i σ H->Y i H x H1->g x σ H1 fun σ2 H2=>tb { D with nx:=Pv (i+1),ct:=Pv (i+1),bk:=D.nx } σ2 H2) (hd:∀σ H,Pv n σ H->D.nx σ H):
  ∃W:Nat->Nat->St->Hp->Prop,(∃m,W 0 m σ H)/\∀i m σ H,W i m σ H->
   (J.stop i H/\D.nx σ H)\/(J.go i H/\∃N:St->Hp->Prop,(∀σ' H',N σ' H'->∃m',m'<m/\W (i+1) m' σ' H')/\∀x H',J.yld i H x H'->g x σ H' fun σ2 H2=>tb { D with nx:=N,ct:=N,bk:=D.nx } σ2 H2):=by
 refine⟨fun i m σ H=>m=n-i/\i<=n/\Pv i σ H,⟨n,by simp,GH _,h0⟩,?_⟩;rintro i m σ H ⟨rfl,hi,p⟩;by_cases hlt:i<n
 ·exact .inr ⟨hgo i σ H hlt p,Pv (i+1),fun σ' H' p'=>⟨n-(i+1),by omega,rfl,hlt,p'⟩,fun x H' y=>hs i x σ H H' hlt p (hy i σ H x H' hlt p y)⟩
 ·have e:i=n:=by omega
  subst e;exact .inl ⟨hst σ H p,hd σ H p⟩
theorem vo{S:Src}{K:Fg}{a:Addr}{xs:List V}{g:TG}{tb:TS}{D:ic}{σ:St}{H:Hp}(Pv:Nat->St->Hp->Prop)(h0:Pv 0 σ H)(hl:∀i σ H,i<=xs.length->Pv i σ H->S.Sq K H a xs)
  (hs:∀i x T σ H,xs[i]?=some x->Pv i σ H->H T=none->g (.ref T) σ (upd H T (.tup [.int i,x])) fun σ2 H2=>tb { D with nx:=Pv (i+1),ct:=Pv (i+1),bk:=D.nx } σ2 H2) (hd:∀σ H,Pv xs.length σ H->D.nx σ H):
  ∃W:Nat->Nat->St->Hp->Prop,(∃m,W 0 m σ H)/\∀i m σ H,W i m σ H->
   ((Ite S K a).stop i H/\D.nx σ H)\/((Ite S K a).go i H/\∃N:St->Hp->Prop,(∀σ' H',N σ' H'->∃m',m'<m/\W (i+1) m' σ' H')/\∀x H',(Ite S K a).yld i H x H'->g x σ H' fun σ2 H2=>tb { D with nx:=N,ct:=N,bk:=D.nx } σ2 H2):=
 Ai (J:=Ite S K a) (n:=xs.length) (Y:=fun i H x H1=>∃T v,H T=none/\x=.ref T/\H1=upd H T (.tup [.int i,v])/\xs[i]?=some v) Pv h0 (fun i σ H hi w=>⟨xs,xs[i],hl i σ H (He hi) w,by simp[hi]⟩) (fun σ H w=>⟨xs,hl _ σ H (FU _) w,rfl⟩)
  (fun i σ H x H1 hi w y=>by
   obtain⟨T,v,e1,e2,e3,e4⟩:=y;exact⟨T,v,e1,e2,e3,e4 xs (hl i σ H (He hi) w)⟩) (fun i x σ H H1 hi w y=>by
   obtain⟨T,v,e1,rfl,rfl,e4⟩:=y;exact hs i v T σ H e4 w e1) hd
theorem Aj{S:Src}{K:Fg}{a:Addr}{xs:List V}{g:CF TG}{tt:CF TT}{te:CF TE}{σ₀:St}{p:Addr}{Q:VK}{H:Hp}(Pv:Nat->List V->Hp->Prop)(h0:Pv 0 [] (upd H p (.lst [])))(hp:∀i acc H,i<=xs.length->Pv i acc H->H p=some (.lst acc)/\acc.length<=i)(hl:∀i acc H,i<=xs.length->Pv i acc H->S.Sq K H a xs)(hz:xs.length<=FY)
  (hs:∀C s' H' fp,∀i x T acc H,xs[i]?=some x->Pv i acc H->H T=none->g C s' H' fp (.ref T) σ₀ (upd H T (.tup [.int i,x])) fun σ2 H2=>tt C s' H' fp σ2 H2 fun b H3=>if b=true then te C s' H' fp σ2 H3 fun y H4=>H4 p=some (.lst acc)/\Pv (i+1) (acc++[y]) (upd H4 p (.lst (acc++[y])))else Pv (i+1) acc H3)
  (hd:∀acc H,Pv xs.length acc H->Q (.ref p) H):
  ∃W:Nat->Nat->List V->Hp->Prop,(∃m,W 0 m [] (upd H p (.lst [])))/\∀C s' H' fp,bV (Ite S K a) (g C s' H' fp) (tt C s' H' fp) (te C s' H' fp) σ₀ p Q W:=
 kJ (Y:=fun i H x H1=>∃T v,H T=none/\x=.ref T/\H1=upd H T (.tup [.int i,v])/\xs[i]?=some v) Pv h0 hp hz (fun i acc H hi w=>⟨xs,xs[i],hl i acc H (He hi) w,by simp[hi]⟩) (fun acc H w=>⟨xs,hl _ acc H (FU _) w,rfl⟩)
  (fun i acc H x H1 hi w y=>by
   obtain⟨T,v,e1,e2,e3,e4⟩:=y;exact⟨T,v,e1,e2,e3,e4 xs (hl i acc H (He hi) w)⟩) (fun C s' H' fp i x acc H H1 hi w y=>by
   obtain⟨T,v,e1,rfl,rfl,e4⟩:=y;exact hs C s' H' fp i v T acc H e4 w e1) hd
theorem aX{H:Hp}{p:Addr}(h:H p=none)(o:HO):ah H (upd H p o):=fun b u q=>by rw[aO (aP q h)];exact q
theorem ah.upd{H H':Hp}{p:Addr}(s:ah H H')(h:H p=none)(o:HO):ah H (upd H' p o):=fun b u q=>by rw[aO (aP q h)];exact s b u q
theorem ah.tup{K:Fg}{H H':Hp}{a:Addr}{xs:List V}(e:ah H H')(h:SqT K H a xs):SqT K H' a xs:=by
 rcases h with(h|⟨o,h⟩)|h
 ·exact .inl (.inl (e _ _ h))
 ·exact .inl (.inr ⟨o,e _ _ h⟩)
 ·exact .inr h
theorem small{n:Nat}(h:n<=1000):n<=FY:=He (Ad h)
theorem vq{ns:List Int}{k:Int}(h0:0<=k)(h1:k<(ns.length:Int)):atI (ns.map V.int) k=some (.int (ns.getD k.toNat 0)):=by
 have hk:k.toNat<ns.length:=by omega
 have e:k=((k.toNat:Nat):Int):=by omega
 have q:atI (ns.map V.int) ((k.toNat:Nat):Int)=some (.int (ns.getD k.toNat 0)):=dh (by rw[FZ,FN hk,FO,FN hk]<;>rfl);rw[<-e]at q;exact q
theorem gz{c:Bool}{A B:Prop}(h1:c=true->A)(h2:c=false->B):if c=true then A else B:=by
 cases c with
 |true=>rw[if_pos rfl];exact h1 rfl
 |false=>rw[if_neg F3];exact h2 rfl
noncomputable def bG(ns:List Int)(k:Int):Int:=
 if k<(ns.length:Int)then ns.getD k.toNat 0 else
  let n0:=if 0<(ns.length:Int)then ns.getD ((k*7)%(ns.length:Int)).toNat 0*48271+k*7919 else k*7919+5
  let n1:=n0*n0%2147483629
  (n1+k)*(n1+69621)%2147483587
noncomputable def Ei(K:Fg):Sp:=fun vs H Q _=>∃(a:Addr)(ns:List Int)(k:Int),vs=[.ref a,.int k]/\d4 K H a ns/\0<=k/\k<=1000000/\Q (.int (bG ns k)) H
theorem d4.same{K:Fg}{H H':Hp}{a:Addr}{ns:List Int}(h:d4 K H a ns)(s:ah H H'):d4 K H' a ns:=⟨s.seq h.1,h.2⟩
structure Blt(mg:Str->Option Value):Prop where
 len:mg "len"=none
 range:mg "range"=none
 tuple:mg "tuple"=none
 list:mg "list"=none
 int:mg "int"=none
 bool:mg "bool"=none
 str:mg "str"=none
 dict:mg "dict"=none
 sum:mg "sum"=none
 all:mg "all"=none
 min:mg "min"=none
 max:mg "max"=none
 sorted:mg "sorted"=none
 enumerate:mg "enumerate"=none
 zip:mg "zip"=none
 isinstance:mg "isinstance"=none
theorem Ak{ns:List Int}(h:∀n∈ns,GD n<=1048576)(i:Nat):GD (ns.getD i 0)<=1048576:=by
 rw[FO];cases e:ns[i]? with
 |none=>show GD 0<=_;decide
 |some n=>exact h n (F0 e)
end
section
open PySem.Spec
structure gB(z TI TO j1 j2:Addr)(fp1 fp2:List Addr):Prop where
 a1:TI≠z
 a2:TO≠z
 a3:j1≠z
 a4:j2≠z
 a5:TI≠TO
 a6:TI≠j1
 a7:TI≠j2
 a8:TO≠j1
 a9:TO≠j2
 b0:j1≠j2
 b1:z∉fp1
 b2:TO∉fp1
 b3:j2∉fp1
 b4:z∉fp2
 b5:TO∉fp2
 b6:j1∉fp2
section
variable{prog:Program}{w:World}{A:Around}{E:Value->Shared->Prop}{s:Shared}
theorem _root_.PySem.Draws.but{it:Addr}{fp:List Addr}{n i:Nat}{P:Nat->Value->Prop}{St:Nat->Heap->Prop}{h h':Heap}{c:Addr}(D:Draws prog w A it fp n P St)(hst:St i h)(hs:Gp c h h')(hc:c∉fp):St i h':=
 D.frame i _ _ hst fun b hb o e=>hs.extBut b o (fun z=>hc (by rw[<-z];exact hb)) e
theorem tm{z TI TO j1 j2:Addr}{fp1 fp2:List Addr}{n1 n2 k:Nat}{P1 P2:Nat->Value->Prop}{S1 S2:Nat->Heap->Prop}{a b:Value}{Q:Value->Shared->Prop}(Z:gB z TI TO j1 j2 fp1 fp2)
  (D1:Draws prog w A j1 fp1 n1 P1 S1) (D2:Draws prog w A j2 fp2 n2 P2 S2) (hz:IsZip s.heap z TI TO .none) (hTI:IsPair s.heap TI (.ref j1) (.ref j2)) (hTO:IsPair s.heap TO a b) (h1:S1 k s.heap) (h2:S2 k s.heap) (l1:k<n1) (l2:k<n2)
  (hQ:∀x y h' tk,P1 k x->P2 k y->IsZip h' z TI TO (rawInt s.heap.objs.size)->(∃a b,IsPair h' TO a b)->S1 (k+1) h'->S2 (k+1) h'->IsPair h' s.heap.objs.size x y->
   (∀c o,c∉[z,TI,TO,j1,j2]->s.heap.get? c=some o->h'.get? c=some o)->IsPair h' TI (.ref j1) (.ref j2)->Q (.ref s.heap.objs.size) { s with heap:=h',toks:=tk }):
  wpAny (model prog w) A (Builtin.«zip.__next__» ⟨[.ref z],[]⟩) (fun fin s'=>∃v,fin=.done (.ret v)/\Q v s') E s:=by
 obtain⟨hp,g,d,tk₀,os⟩:=s;show wpAny _ _ (field (.ref z) 2>>=_) _ _ _;refine FM (GM hz rfl (x:=.bool false) rfl ?_);show wpAny _ _ (field (.ref z) 3>>=_) _ _ _;refine FM (GM hz rfl (x:=.ref TI) rfl ?_);refine FM (G7 hTI rfl ?_);show wpAny _ _ (Gz (.ref z)>>=_) _ _ _;refine FM ?_;unfold Gz;refine FM (GM hz rfl (x:=.none) rfl (FT ?_));simp only[if_true];refine FM (Jw ?_);refine FM (GM hz rfl (x:=.ref TO) rfl ?_);refine FM (Il hz (by simp) fun g1 hz1 hs1=>?_);replace hz1:IsZip g1 z TI TO .ellipsis:=hz1;replace hs1:Gp z hp g1:=hs1;refine FM ?_;simp only[NV,Od,JF,KQ];refine FM (FM (Lh ?_));show wpAny _ _ (Gw (.ref j1)>>=_) _ _ _;refine FM (D1.item k ⟨g1,g,d,tk₀,os⟩ _ _ l1 (D1.but h1 hs1 Z.b1) fun x g2 tk1 px st1 hs2=>FT ?_);replace hs2:Gp j1 g1 g2:=hs2;have hTO2:IsPair g2 TO a b:=hs2.extBut _ _ Z.a8 (hs1.extBut _ _ Z.a2 hTO);refine FM (G7 hTO2 rfl ?_);refine FM (Kt hTO2 fun g3 hTO3 hs3=>?_);replace hTO3:IsPair g3 TO x b:=hTO3;replace hs3:Gp TO g2 g3:=hs3;refine FM (Mc (FT ?_));refine FM (FM (Lh ?_));show wpAny _ _ (Gw (.ref j2)>>=_) _ _ _;refine FM (D2.item k ⟨g3,g,d,tk1,os⟩ _ _ l2 (D2.but (D2.but (D2.but h2 hs1 Z.b4) hs2 Z.b6) hs3 Z.b5) fun y g4 tk2 py st2 hs4=>FT ?_);replace hs4:Gp j2 g3 g4:=hs4;have hTO4:IsPair g4 TO x b:=hs4.extBut _ _ Z.a9 hTO3;refine FM (G7 hTO4 rfl ?_);refine FM (Kt hTO4 fun g5 hTO5 hs5=>?_);replace hTO5:IsPair g5 TO x y:=hTO5;replace hs5:Gp TO g4 g5:=hs5;refine FM (Mc (FT (FT ?_)));refine FM (G7 hTO5 rfl ?_);refine FM (wpAny_newTuple ?_);have hsz:g5.objs.size=hp.objs.size:=by rw[hs5.1,hs4.1,hs3.1,hs2.1,hs1.1]
 have hz5:IsZip g5 z TI TO .ellipsis:=hs5.extBut _ _ Z.a2.symm (hs4.extBut _ _ Z.a4.symm (hs3.extBut _ _ Z.a2.symm (hs2.extBut _ _ Z.a3.symm hz1)));have k5:∀c o,c≠z->c≠TO->c≠j1->c≠j2->hp.get? c=some o->g5.get? c=some o:=fun c o c1 c2 c3 c4 e=>
  hs5.extBut _ _ c2 (hs4.extBut _ _ c4 (hs3.extBut _ _ c2 (hs2.extBut _ _ c3 (hs1.extBut _ _ c1 e))))
 have st15:S1 (k+1) g5:=D1.but (D1.but (D1.but st1 hs3 Z.b2) hs4 Z.b3) hs5 Z.b2;have st25:S2 (k+1) g5:=D2.but st2 hs5 Z.b5;have zlt:z<g5.objs.size:=F4 hz5;show wpAny _ _ (JM (.ref z) (.ref g5.objs.size)>>=_) _ _ _;refine FM ?_;unfold JM;have hz6:IsZip (g5.push { cls:=.type "tuple",data:=.seq #[x,y] }) z TI TO .ellipsis:=FP _ hz5;refine FM (Il hz6 (by simp) fun g7 hz7 hs7=>?_);replace hz7:IsZip g7 z TI TO (rawInt g5.objs.size):=hz7;refine Il hz7 (by simp) fun g8 hz8 hs8=>?_;replace hz8:IsZip g8 z TI TO (rawInt g5.objs.size):=hz8;have up:∀c o,c≠z->g5.get? c=some o->g8.get? c=some o:=fun c o c1 e=>hs8.extBut _ _ c1 (hs7.extBut _ _ c1 (FP _ e));have hT8:IsPair g8 g5.objs.size x y:=hs8.extBut _ _ (Iq zlt) (hs7.extBut _ _ (Iq zlt) (F9 _ rfl));rw[hsz]at hz8 hT8;refine FT ⟨_,rfl,?_⟩;show Q (.ref g5.objs.size) _;rw[hsz];exact hQ x y g8 tk2 px py hz8 ⟨x,y,up _ _ Z.a2 hTO5⟩ (D1.frame _ _ _ st15 fun c hc o e=>up c o (fun q=>Z.b1 (by rw[<-q];exact hc)) e) (D2.frame _ _ _ st25 fun c hc o e=>up c o (fun q=>Z.b4 (by rw[<-q];exact hc)) e) hT8
  (fun c o hc e=>by
   simp only[FW,GL,or_false,not_or]at hc;exact up c o hc.1 (k5 c o hc.1 hc.2.2.1 hc.2.2.2.1 hc.2.2.2.2 e)) (up _ _ Z.a1 (k5 _ _ Z.a1 Z.a5 Z.a6 Z.a7 hTI))
theorem vt{z TI TO j1 j2:Addr}{fp1 fp2:List Addr}{n1 n2 k:Nat}{P1 P2:Nat->Value->Prop}{S1 S2:Nat->Heap->Prop}{a b:Value}{Q:Fin->Shared->Prop}(Z:gB z TI TO j1 j2 fp1 fp2)
  (D1:Draws prog w A j1 fp1 n1 P1 S1) (D2:Draws prog w A j2 fp2 n2 P2 S2) (hz:IsZip s.heap z TI TO .none) (hTI:IsPair s.heap TI (.ref j1) (.ref j2)) (hTO:IsPair s.heap TO a b) (h1:S1 k s.heap) (h2:S2 k s.heap) (l:k=min n1 n2)
  (hE:∀h' e tk,(∀c o,c∉[z,TI,TO,j1,j2]->s.heap.get? c=some o->h'.get? c=some o)->(∃o,h'.get? e=some o/\o.cls=.type "StopIteration")->E (.ref e) { s with heap:=h',toks:=tk }):
  wpAny (model prog w) A (Builtin.«zip.__next__» ⟨[.ref z],[]⟩) Q E s:=by
 obtain⟨hp,g,d,tk₀,os⟩:=s;have kp:∀{h':Heap},(∀c o,c≠z->c≠TO->c≠j1->c≠j2->hp.get? c=some o->h'.get? c=some o)->∀c o,c∉[z,TI,TO,j1,j2]->hp.get? c=some o->h'.get? c=some o:=fun{h'} q c o hc e=>by
  simp only[FW,GL,or_false,not_or]at hc;exact q c o hc.1 hc.2.2.1 hc.2.2.2.1 hc.2.2.2.2 e
 show wpAny _ _ (field (.ref z) 2>>=_) _ _ _;refine FM (GM hz rfl (x:=.bool false) rfl ?_);show wpAny _ _ (field (.ref z) 3>>=_) _ _ _;refine FM (GM hz rfl (x:=.ref TI) rfl ?_);refine FM (G7 hTI rfl ?_);show wpAny _ _ (Gz (.ref z)>>=_) _ _ _;refine FM ?_;unfold Gz;refine FM (GM hz rfl (x:=.none) rfl (FT ?_));simp only[if_true];refine FM (Jw ?_);refine FM (GM hz rfl (x:=.ref TO) rfl ?_);refine FM (Il hz (by simp) fun g1 hz1 hs1=>?_);replace hz1:IsZip g1 z TI TO .ellipsis:=hz1;replace hs1:Gp z hp g1:=hs1;refine FM ?_;simp only[NV,Od,JF,KQ];refine FM (FM (Lh ?_));show wpAny _ _ (Gw (.ref j1)>>=_) _ _ _;by_cases hk:k=n1
 ·subst hk
  refine FM (D1.done ⟨g1,g,d,tk₀,os⟩ _ _ (D1.but h1 hs1 Z.b1) fun g2 e hs2 he=>?_);replace hs2:KW j1 g1 g2:=hs2;obtain⟨oe,hoe,hce⟩:=he;have hz2:IsZip g2 z TI TO .ellipsis:=hs2 _ _ Z.a3.symm hz1;have nez:e≠z:=fun q=>by
   subst q;rw[hz2]at hoe;cases hoe;simp at hce
  refine Il hz2 (by simp) fun g3 _ hs3=>hE g3 e tk₀ (kp fun c o c1 _ c3 _ q=>hs3.extBut _ _ c1 (hs2 _ _ c3 (hs1.extBut _ _ c1 q))) ⟨oe,hs3.extBut _ _ nez hoe,hce⟩
 ·have hlt:k<n1:=by omega
  have hk2:k=n2:=by omega
  refine FM (D1.item k ⟨g1,g,d,tk₀,os⟩ _ _ hlt (D1.but h1 hs1 Z.b1) fun x g2 tk1 px st1 hs2=>FT ?_);replace hs2:Gp j1 g1 g2:=hs2;have hTO2:IsPair g2 TO a b:=hs2.extBut _ _ Z.a8 (hs1.extBut _ _ Z.a2 hTO);refine FM (G7 hTO2 rfl ?_);refine FM (Kt hTO2 fun g3 hTO3 hs3=>?_);replace hs3:Gp TO g2 g3:=hs3;refine FM (Mc (FT ?_));refine FM (FM (Lh ?_));show wpAny _ _ (Gw (.ref j2)>>=_) _ _ _;subst hk2;refine FM (D2.done ⟨g3,g,d,tk1,os⟩ _ _ (D2.but (D2.but (D2.but h2 hs1 Z.b4) hs2 Z.b6) hs3 Z.b5) fun g4 e hs4 he=>?_);replace hs4:KW j2 g3 g4:=hs4;obtain⟨oe,hoe,hce⟩:=he;have hz4:IsZip g4 z TI TO .ellipsis:=hs4 _ _ Z.a4.symm (hs3.extBut _ _ Z.a2.symm (hs2.extBut _ _ Z.a3.symm hz1));have nez:e≠z:=fun q=>by
   subst q;rw[hz4]at hoe;cases hoe;simp at hce
  refine Il hz4 (by simp) fun g5 _ hs5=>hE g5 e tk1 (kp fun c o c1 c2 c3 c4 q=>hs5.extBut _ _ c1 (hs4 _ _ c4 (hs3.extBut _ _ c2 (hs2.extBut _ _ c3 (hs1.extBut _ _ c1 q))))) ⟨oe,hs5.extBut _ _ nez hoe,hce⟩
end
noncomputable abbrev zh1(S1:Src)(h:Heap)(l1:Addr):Heap:=h.push { cls:=.type S1.icls,data:=.fields #[.ref l1,.int 0 0] }
noncomputable abbrev zh2(S1 S2:Src)(h:Heap)(l1 l2:Addr):Heap:=(zh1 S1 h l1).push { cls:=.type S2.icls,data:=.fields #[.ref l2,.int 0 0] }
noncomputable abbrev zh3(S1 S2:Src)(h:Heap)(l1 l2:Addr):Heap:=(zh2 S1 S2 h l1 l2).push { cls:=.type "tuple",data:=.seq #[.ref h.objs.size,.ref (zh1 S1 h l1).objs.size] }
noncomputable abbrev zh4(S1 S2:Src)(h:Heap)(l1 l2:Addr):Heap:=(zh3 S1 S2 h l1 l2).push { cls:=.type "tuple",data:=.seq #[.none,.none] }
noncomputable abbrev zh5(S1 S2:Src)(h:Heap)(l1 l2:Addr):Heap:=(zh4 S1 S2 h l1 l2).push { cls:=.type "zip",data:=.fields #[.none,.bool false,.bool false,.ref (zh2 S1 S2 h l1 l2).objs.size,.ref (zh3 S1 S2 h l1 l2).objs.size] }
theorem xI(S1 S2:Src)(l1 l2:Addr)(xs ys:Array Value):
  Meets (Builtin.«zip.__new__» ⟨[.type "zip",.ref l1,.ref l2],[]⟩) (fun _ R s=>S1.Is s.heap l1 xs/\S2.Is s.heap l2 ys/\R (.ok (.ret (.ref (zh4 S1 S2 s.heap l1 l2).objs.size))) { s with heap:=zh5 S1 S2 s.heap l1 l2 }):=
 .of_wp fun prog w A R s h=>by
  obtain⟨hp,g,d,tk,os⟩:=s;obtain⟨q1,q2,h⟩:=h;have hsub:=sub_zip;have hL1:S1.Is (NJ ⟨hp,g,d,tk,os⟩) l1 xs:=q1;have hL2:S2.Is (NJ ⟨zh1 S1 hp l1,g,d,tk,os⟩) l2 ys:=S2.isKeep q2 fun o e=>FP _ e
  wp_walk using S1.iter hL1,S2.iter hL2
  exact⟨_,rfl,h⟩
noncomputable def Itz(S1 S2: Src)(K: Fg)(a b: Addr): It:=
  ⟨fun i H=> ∃xs ys x y, S1.Sq K H a xs ∧ S2.Sq K H b ys ∧ xs[i]? = some x ∧ ys[i]? = some y,
   fun i H x H'=> ∃T u v, H T= none ∧ x= .ref T ∧ H'= upd H T (.tup [u, v]) ∧ ∀xs ys, S1.Sq K H a xs → S2.Sq K H b ys → xs[i]? = some u ∧ ys[i]? = some v,
   fun i H=> ∃xs ys, S1.Sq K H a xs ∧ S2.Sq K H b ys ∧ min xs.length ys.length= i⟩
theorem zap{z TI TO j1 j2 a b:Addr}(nd:[z,TI,TO,j1,j2].Nodup)(h1:∀c∈[z,TI,TO,j1,j2],c≠a)(h2:∀c∈[z,TI,TO,j1,j2],c≠b):gB z TI TO j1 j2 [j1,a] [j2,b]:=by
 simp only[Hi,FW,GL,or_false,not_or]at nd;obtain⟨⟨c1,c2,c3,c4⟩,⟨c5,c6,c7⟩,⟨c8,c9⟩,c10,_⟩:=nd;have g1:=h1 z (by simp);have g2:=h1 TO (by simp);have g3:=h1 j2 (by simp);have g4:=h2 z (by simp);have g5:=h2 TO (by simp);have g6:=h2 j1 (by simp);exact⟨Hn c1,Hn c2,Hn c3,Hn c4,c5,c6,c7,c8,c9,c10,by simp[c3,g1],by simp[c8,g2],by simp[Hn c10,g3],by simp[c4,g4],by simp[c9,g5],by simp[c10,g6]⟩
theorem Bw{P:Program}{w:World}{K:Fg}{elts:List Expr}{k0:Nat}{pos:Pos}(S1 S2:Src)(a b z TI TO j1 j2:Addr)(nd:[z,TI,TO,j1,j2].Nodup):
  cp P w K (.Tuple elts k0 pos) (Itz S1 S2 K a b) [z,TI,TO,j1,j2] z (fun i h=>IsZip h z TI TO .none/\IsPair h TI (.ref j1) (.ref j2)/\(∃u v,IsPair h TO u v)/\S1.It h j1 a i/\S2.It h j2 b i) where
 mem:=by simp
 obj:=fun i h st c hc=>by
  obtain⟨q1,q2,⟨u,v,q3⟩,q4,q5⟩:=st;simp only[FW,GL,or_false]at hc;rcases hc with rfl|rfl|rfl|rfl|rfl
  ·exact⟨_,q1,fun v z=>nomatch z⟩
  ·exact⟨_,q2,fun v z=>nomatch z⟩
  ·exact⟨_,q3,fun v z=>nomatch z⟩
  ·obtain⟨o,ho,_,hd⟩:=S1.isIt q4
   exact⟨o,ho,fun v z=>by rw[hd]at z;cases z⟩
  ·obtain⟨o,ho,_,hd⟩:=S2.isIt q5
   exact⟨o,ho,fun v z=>by rw[hd]at z;cases z⟩
 keep:=fun i h h' st k=>by
  obtain⟨q1,q2,⟨u,v,q3⟩,q4,q5⟩:=st;exact⟨k z (by simp) _ q1,k TI (by simp) _ q2,⟨u,v,k TO (by simp) _ q3⟩,S1.itKeep q4 fun o q=>k j1 (by simp) o q,S2.itKeep q5 fun o q=>k j2 (by simp) o q⟩
 item:=by
  intro X hP hw hK hc i pins s σ H E I hf st hg;subst hP hw hK;obtain⟨xs,ys,x,y,hq1,hq2,hx,hy⟩:=hg;obtain⟨us,r1,p1,_⟩:=S1.get I hq1;obtain⟨vs,r2,p2,_⟩:=S2.get I hq2;obtain⟨q1,q2,⟨u0,v0,q3⟩,q4,q5⟩:=st;obtain⟨u,hu,ru⟩:=r1.get hx;obtain⟨v,hv,rv⟩:=r2.get hy;have Z:=zap nd (fun c hc'=>S1.off I hq1 (hf c hc')) (fun c hc'=>S2.off I hq2 (hf c hc'));have hh:X.A.in1.handled=none:=I.ok.hd hc;have n1:a≠j1:=Hn (S1.off I hq1 (hf j1 (by simp)));have n2:b≠j2:=Hn (S2.off I hq2 (hf j2 (by simp)));have l1:i<us.toArray.size:=by have:=(FS.mp hu).1;simpa using this
  have l2:i<vs.toArray.size:=by have:=(FS.mp hv).1;simpa using this
  have hT:s.TypeIs (.ref z) "zip":=⟨_,q1,rfl⟩;unfold pyNext;refine FM (Li (Ho (name:=IX "__next__") hT Ir (G0 Ir hT Ke
   (tm (A:=X.A.in1) Z (S1.draws hh j1 a n1 us.toArray) (S2.draws hh j2 b n2 vs.toArray) q1 q2 q3 ⟨q4,p1⟩ ⟨q5,p2⟩ l1 l2 fun x' y' h' tk px py z1 z2 z3 z4 z5 z6 z7=>FT ?_) (J0 _))))
  have ex:x'=u:=by
   have:us.toArray[i]?=some u:=by simpa using hu
   rw[this]at px;exact(F1 px).symm
  have ey:y'=v:=by
   have:vs.toArray[i]?=some v:=by simpa using hv
   rw[this]at py;exact(F1 py).symm
  subst ex ey;refine⟨_,rfl,wpAny_letOwnedTupleGo_zip z1 fun h2 w1 hs2=>?_⟩;have nz:∀c,c∈[TI,TO,j1,j2]->c≠z:=fun c hc' e=>by
   subst e;exact(Hi.mp nd).1 hc'
  have zlt:z<s.heap.objs.size:=F4 q1;have hT2:h2.get? s.heap.objs.size=some { cls:=.type "tuple",data:=.seq #[x',y'] }:=hs2.extBut _ _ (Ef (FU _) zlt) z5;have kept:∀c ob,c∉[z,TI,TO,j1,j2]->s.heap.get? c=some ob->h2.get? c=some ob:=fun c ob hc' q=>hs2.extBut _ _ (fun e=>hc' (by simp[e])) (z6 c ob hc' q);obtain⟨u1,v1,z2⟩:=z2;refine⟨.ref s.heap.objs.size,upd H s.heap.objs.size (.tup [x,y]),?_,rfl,⟨_,x,y,I.fresh,rfl,rfl,fun xs' ys' h1 h2=>by rw[S1.inj I h1 hq1,S2.inj I h2 hq2];exact⟨hx,hy⟩⟩,
   ⟨w1,hs2.extBut _ _ (nz TI (by simp)) z7,⟨u1,v1,hs2.extBut _ _ (nz TO (by simp)) z2⟩,S1.itKeep z3.1 fun o q=>hs2.extBut _ _ (nz j1 (by simp)) q,S2.itKeep z4.1 fun o q=>hs2.extBut _ _ (nz j2 (by simp)) q⟩,fun c hc'=>?_⟩
  ·exact I.turns (t':=tk) hf kept (FU _) ⟨(by show 2<=FY;decide),[x',y'],.cons ru (.cons rv .nil),_,hT2,rfl,⟨0,rfl⟩,rfl⟩
  ·have lt:c<s.heap.objs.size:=by
    have st':IsZip s.heap z TI TO .none/\IsPair s.heap TI (.ref j1) (.ref j2)/\(∃u v,IsPair s.heap TO u v)/\S1.It s.heap j1 a i/\S2.It s.heap j2 b i:=⟨q1,q2,⟨u0,v0,q3⟩,q4,q5⟩;simp only[FW,GL,or_false]at hc';rcases hc' with rfl|rfl|rfl|rfl|rfl
    ·exact zlt
    ·exact F4 q2
    ·exact F4 q3
    ·obtain⟨o,ho,_⟩:=S1.isIt q4
     exact F4 ho
    ·obtain⟨o,ho,_⟩:=S2.isIt q5
     exact F4 ho
   rw[aO (lm lt (FU _))];exact(hf c hc').1
 done:=by
  intro X hP hw hK hc i pins s σ H E I hf st hg;subst hP hw hK;obtain⟨xs,ys,hq1,hq2,hi⟩:=hg;obtain⟨us,r1,p1,_⟩:=S1.get I hq1;obtain⟨vs,r2,p2,_⟩:=S2.get I hq2;obtain⟨q1,q2,⟨u0,v0,q3⟩,q4,q5⟩:=st;have Z:=zap nd (fun c hc'=>S1.off I hq1 (hf c hc')) (fun c hc'=>S2.off I hq2 (hf c hc'));have hh:X.A.in1.handled=none:=I.ok.hd hc;have n1:a≠j1:=Hn (S1.off I hq1 (hf j1 (by simp)));have n2:b≠j2:=Hn (S2.off I hq2 (hf j2 (by simp)));have hT:s.TypeIs (.ref z) "zip":=⟨_,q1,rfl⟩;have hl:i=min us.toArray.size vs.toArray.size:=by
   have:=r1.length;have:=r2.length;simp only[F8];omega
  unfold pyNext;refine FM (Li (Ho (name:=IX "__next__") hT Ir (G0 Ir hT Ke
   (vt (A:=X.A.in1) Z (S1.draws hh j1 a n1 us.toArray) (S2.draws hh j2 b n2 vs.toArray) q1 q2 q3 ⟨q4,p1⟩ ⟨q5,p2⟩ hl fun h' e tk kp he=>?_) (J0 _))))
  obtain⟨o,ho,hcl⟩:=he;refine FM (IZ (T:="StopIteration") (b:=true) ⟨o,ho,hcl⟩ Mm ?_);exact FT ⟨rfl,I.turnsN (t':=tk) hf kp⟩
 self:=fun _ _ _ _ _ st h=>LB st.1 h
section
variable{X:Cx}{elts:List Expr}{k0:Nat}{tpos:Pos}
noncomputable def lz(S1 S2:Src)(K:Fg)(ta:TA):TI:=fun σ H R=>ta σ H fun vs H1=>∃a b xs ys,vs=[.ref a,.ref b]/\S1.Sq K H1 a xs/\S2.Sq K H1 b ys/\R (Itz S1 S2 K a b) H1
theorem jR(S1 S2:Src){a b:Expr}{ta:TA}{p pos:Pos}(hg:Gl X "zip")(hm:X.mg "zip"=none)(ha:PA X [a,b] ta)(hs:Gf [a,b] X.env=[(false,eval a X.env),(false,eval b X.env)]:=by rfl)(hs2:Gf [b] X.env=[(false,eval b X.env)]:=by rfl):
  PI X (.Tuple elts k0 tpos) (.Call (.Name "zip" p) [a,b] [] pos) (lz S1 S2 X.K ta):=by
 intro pins s σ H R I h;refine Call_ (i5 I hg hm boot_zip (Hl (thn (ha pos pins s σ H _ I h) fun us s1 ⟨vs,H1,I1,r1,q1⟩=>?_) (by rw[hs,hs2]) (by rw[hs2];rfl)));obtain⟨l1,l2,xs,ys,e,hq1,hq2,q⟩:=q1;subst e;obtain⟨u,v,rfl,ru,rv⟩:=r1.two;cases ru;cases rv;obtain⟨us1,_,p1,_⟩:=S1.get I1 hq1;obtain⟨us2,_,p2,_⟩:=S2.get I1 hq2;refine Nh F.called_zip (by decide) (NW _ _) (Oe _ _) (fun obj=>MD obj _ _) Of (xI S1 S2 l1 l2 us1.toArray us2.toArray) ⟨p1,p2,?_⟩;generalize hn:s1.heap.objs.size=n;have z1:(zh1 S1 s1.heap l1).objs.size=n+1:=by rw[GR,hn]
 have z2:(zh2 S1 S2 s1.heap l1 l2).objs.size=n+2:=by rw[GR,z1]
 have z3:(zh3 S1 S2 s1.heap l1 l2).objs.size=n+3:=by rw[GR,z2]
 have z4:(zh4 S1 S2 s1.heap l1 l2).objs.size=n+4:=by rw[GR,z3]
 have g5:(zh5 S1 S2 s1.heap l1 l2).get? (zh4 S1 S2 s1.heap l1 l2).objs.size=some _:=F9 _ rfl;have g4:(zh5 S1 S2 s1.heap l1 l2).get? (zh3 S1 S2 s1.heap l1 l2).objs.size=some _:=FP _ (F9 _ rfl);have g3:(zh5 S1 S2 s1.heap l1 l2).get? (zh2 S1 S2 s1.heap l1 l2).objs.size=some _:=FP _ (FP _ (F9 _ rfl));have g2:(zh5 S1 S2 s1.heap l1 l2).get? (zh1 S1 s1.heap l1).objs.size=some _:=FP _ (FP _ (FP _ (F9 _ rfl)));have g1:(zh5 S1 S2 s1.heap l1 l2).get? s1.heap.objs.size=some _:=FP _ (FP _ (FP _ (FP _ (F9 _ rfl))));have kp:∀c o,s1.heap.get? c=some o->(zh5 S1 S2 s1.heap l1 l2).get? c=some o:=fun c o e=>
  FP _ (FP _ (FP _ (FP _ (FP _ e))))
 show _/\_;rw[z2,z3,z4]at g5;rw[z1,z2,hn]at g3;rw[z3]at g4;rw[z1]at g2;rw[hn]at g1;rw[z4];refine⟨⟨_,g5,rfl⟩,LB g5 ?_⟩;have I2:Inv X pins σ H1 { s1 with heap:=zh5 S1 S2 s1.heap l1 l2 }:=I1.kept (t':=s1.toks) kp;refine⟨n+4,[n+4,n+2,n+3,n,n+1],_,_,H1,rfl,I2,Bw S1 S2 l1 l2 _ _ _ _ _ (by simp),⟨g5,g3,⟨_,_,g4⟩,S1.mkI g1 rfl rfl,S2.mkI g2 rfl rfl⟩,fun c hc=>?_,q⟩;have hc':s1.heap.objs.size<=c:=by
  rw[hn];simp only[FW,GL,or_false]at hc;rcases hc with rfl|rfl|rfl|rfl|rfl
  ·exact HS _ _
  ·exact HS _ _
  ·exact HS _ _
  ·exact FU _
  ·exact HS _ _
 exact I1.fpOk hc' (I1.hok.fresh hc')
end
end
section
open PySem.Spec
section
variable{X:Cx}
noncomputable def Cy(K:Fg):R2:=fun x y H Q=>∃a b xs ys,x=.ref a/\y=.ref b/\SqT K H a xs/\SqT K H b ys/\xs.length+ys.length<=FY/\
 (xs=[]->Q (.ref b) H)/\(xs≠[]->ys=[]->Q (.ref a) H)/\(xs≠[]->ys≠[]->∀p,H p=none->Q (.ref p) (upd H p (.tup (xs++ys))))
theorem Da:OpR X (IL .Add) (Cy X.K):=by
 intro pins s σ H x y v u Q I rx ry h;obtain⟨a,b,xs,ys,rfl,rfl,ha,hb,hz,q0,q1,q2⟩:=h;by_cases hx:xs=[]
 ·cases rx
  cases ry;obtain⟨its,r1,p1,_⟩:=I.tuple ha;obtain⟨its2,r2,p2,_⟩:=I.tuple hb;obtain⟨⟨cls,dd,data,sl⟩,ho,hc,n,hd⟩:=id p1;obtain⟨⟨cls2,dd2,data2,sl2⟩,ho2,hc2,n2,hd2⟩:=id p2;simp only at hc hd hc2 hd2;subst hc hd hc2 hd2;have e:its=[]:=r1.nil_iff.mpr hx;exact Nc ⟨_,ho,rfl⟩ ⟨_,ho2,rfl⟩ Ly MP J4 JS (JL _ _)
   (tuple_addW0 a b its.toArray its2.toArray n n2 dd dd2 sl sl2 (by simp[e])) ⟨ho,ho2,⟨.ref b,H,I,rfl,q0 hx⟩⟩
 ·exact C5 pins s σ H _ _ v u Q I rx ry ⟨a,b,xs,ys,rfl,rfl,ha,hb,hx,hz,q1 hx,q2 hx⟩
theorem tu{x:V}:∀{xs:List V} {us:List Value},aA xs us->xs.all de=true->us.countP (eqU x)=xs.countP fun y=>eqV y x
 |_,_,.nil,_=>rfl
 |y::xs,u::us,.cons r t,f=>by
  rw[Je,G3]at f;rw[NY,NY,vg r f.1,tu t f.2]
noncomputable def tBT(r:V->List V->Hp->VK->Prop)(to:TE)(t:TA):TE:=fun σ H Q=>to σ H fun x H1=>(∃a xs,x=.ref a/\H1 a=some (.tup xs))/\t σ H1 fun xs H2=>r x xs H2 Q
theorem E7{o e:Expr}{es:List Expr}{to:TE}{t:TA}{name:Str}{apos cpos:Pos}{id:String}{r:V->List V->Hp->VK->Prop}(pa:PlainAttrs "tuple")(slot:Slot "tuple" name id)(hty:typeOf (.builtin id)=pure (.type "method_descriptor"))(hm:MtR X id r)(ho:PE X o to)(ha:PA X (e::es) t)
  (hbase:Jz o name X.env (eval o X.env)=eval o X.env:=by rfl)
  (hfew:((backTo cpos (Gf (e::es) X.env)).all (fun x=>!x.1)&&(Kc cpos (Jl [] X.env)).all (fun x=>x.1.isSome)
   &&decide ((e::es).length+([]:List Keyword).length+(if([]:List Keyword).isEmpty then 0 else 1)<30))=true:=by rfl)
  (hline:(apos.endLine==cpos.line)=true:=by rfl) (hs:Gf (e::es) X.env=(false,eval e X.env)::Gf es X.env:=by rfl) (hplain:(backTo cpos (Gf es X.env)).any (·.1)=false:=by rfl):
  PE X (.Call (.Attribute o name apos) (e::es) [] cpos) (tBT r to t):=by
 intro pins s σ H Q I h;refine J5 hbase hfew hline rfl (thn (ho pins s σ H _ I h) fun v s1 ⟨x,H1,I1,r1,ty,q1⟩=>?_);obtain⟨a,xs,rfl,hx⟩:=ty;cases r1;obtain⟨_,its,_,o',ho',hc',_,hd'⟩:=I1.hok a _ hx;refine⟨"tuple",id,pa,slot,hty,⟨o',ho',hc'⟩,fun b e=>?_,?_⟩
 ·cases e
  exact⟨o',ho',hd'⟩
 have hA:=ha cpos pins s1 σ H1 _ I1 q1;rw[hs]at hA ⊢;refine J6 (by show(false||(backTo cpos (Gf es X.env)).any (·.1))=false;rw[hplain]<;>rfl) (Kr ?_);exact thn hA fun us s2 ⟨vs,H2,I2,r2,q2⟩=>hm pins s2 σ H2 (.ref a) vs (.ref a) us Q I2 rfl r2 q2
noncomputable def xJ:V->List V->Hp->VK->Prop:=fun x vs H Q=>∃l xs y,x=.ref l/\vs=[y]/\H l=some (.tup xs)/\de y=true/\xs.all de=true/\Q (.int (xs.countP fun z=>eqV z y:Nat)) H
theorem Al:MtR X "tuple.count" xJ:=by
 intro pins s σ H x vs v us Q I rx rv h;obtain⟨l,xs,y,rfl,rfl,hH,fy,fx,q⟩:=h;cases rx;obtain⟨u,rfl,ru⟩:=rv.one;obtain⟨_,its,r,⟨cls,dd,data,sl⟩,ho,hc,⟨n,hd⟩,hdd⟩:=I.hok l _ hH;simp only at hc hd hdd;subst hc hd hdd;refine JO LC ⟨_,ho,rfl⟩ PySem.F.entry_tuple_count (PySem.F.args_tuple_count_2 _ _) (SeqAt.tuple_countAt l its.toArray n none sl u (eqU y)) ⟨ho,fun z hz=>jP ru fy r fx z (by simpa using hz),?_⟩;refine⟨.int (xs.countP fun z=>eqV z y:Nat),H,I.tok _,⟨s.toks,?_⟩,q⟩;show Jv ((its.toArray.toList.countP (eqU y):Nat):Int) s.toks=_;rw[show its.toArray.toList=its from rfl,tu r fx]
theorem mJ(hc:X.calm=true):bP X (.builtin "max") (fun xs H Q=>∃(p:Addr)(ns:List Int),xs=[.ref p]/\SqL X.K H p (ns.map V.int)/\ns≠[]/\∀M,M∈ns->(∀a∈ns,a<=M)->Q (.int M) H):=by
 intro pins s σ H xs us Q I r h;obtain⟨p,ns,rfl,hq,hne,q⟩:=h;obtain⟨u,rfl,rx⟩:=r.one;cases rx;obtain⟨its,rv,pl,hz⟩:=I.list hq;have hi:=lj rv;obtain⟨zs,ez⟩:=(hi.allInts).items;have hl:s.heap.IsList p (intItems zs):=by rw[<-ez];exact pl.isList
 have hnum:zs.toList.map (·.1)=ns:=by
  rw[<-nums_intItems,<-ez];exact hi.numsOf
 have hsz:zs.size=ns.length:=by rw[<-hnum];simp
 have hpos:0<zs.size:=by
  rw[hsz];exact KG.mpr hne
 refine max_intList (I.ok.hd hc) hl hpos fun v h' tk hv hk=>?_;obtain⟨t,rfl⟩:=intItems_at hv;obtain⟨h1,h2⟩:=argBest_gt (numAt zs) (zs.size-1);refine⟨.int _,H,I.kept hk,⟨t,rfl⟩,q _ ?_ fun a ha=>?_⟩
 ·rw[numAt_eq,hnum]
  exact getD_mem (by omega)
 ·rw[<-hnum]at ha
  obtain⟨j,hj,rfl⟩:=mem_getD ha;rw[FQ,Ja]at hj;rw[<-numAt_eq];exact h2 j (by omega)
noncomputable def vv:V->List V->Hp->VK->Prop:=fun x vs H Q=>∃(l:Addr)(ns:List Int)(m:Int)(j:Nat),x=.ref l/\vs=[.int m]/\H l=some (.lst (ns.map V.int))/\ns[j]?=some m/\(∀i,i<j->ns[i]?≠some m)/\j<=1000/\Q (.int j) H
theorem Bx:MtR X "list.index" vv:=by
 intro pins s σ H x vs v us Q I rx rv h;obtain⟨l,ns,m,j,rfl,rfl,hH,hj,hno,h1000,q⟩:=h;cases rx;obtain⟨u,rfl,t,rfl⟩:=rv.one;obtain⟨z,its,n,r,hl,e⟩:=I.lstM hH;have at_:∀(i:Nat)(hi:i<its.toArray.size),∃k t',ns[i]?=some k/\its.toArray[i]=.int k t':=fun i hi=>by
  have hi':i<ns.length:=by
   rw[FQ]at hl;have:i<its.length:=by simpa using hi
   omega
  obtain⟨w',hw,rw'⟩:=r.get (i:=i) (x:=.int ns[i]) (by rw[FZ,FN hi']<;>rfl);obtain⟨t',e'⟩:=(show∃t',w'=Jv ns[i] t' from rw');have:=(FS.mp hw).2;exact⟨ns[i],t',FN hi',by rw[<-e'];simpa using this⟩
 have hjs:j<its.toArray.size:=by
  have:=(FS.mp hj).1;rw[FQ]at hl;simp only[F8];omega
 refine JO LO ⟨_,e,rfl⟩ PySem.F.entry_list_index (PySem.F.args_list_index_2 _ _) (SeqAt.list_indexAt l its.toArray n none #[] (.int m t) (eqU (.int m)) j hjs (by omega) ?_ ?_) ⟨e,fun y hy=>?_,?_⟩
 ·obtain⟨k,t',e1,e2⟩:=at_ j hjs
  rw[e2];rw[hj]at e1;cases e1;exact beq_self_eq_true m
 ·intro i hi hlt
  obtain⟨k,t',e1,e2⟩:=at_ i hi;rw[e2];show(k==m)=false;exact beq_eq_false_iff_ne.mpr fun z=>hno i hlt (by rw[e1,z])
 ·exact jP (x:=.int m) ⟨t,rfl⟩ rfl r (by rw[Ks];simp[de]) y (by simpa using hy)
 ·exact⟨.int j,H,I.tok _,⟨_,rfl⟩,q⟩
end
end
end L2
section
namespace L2
open PySem
section
variable{σ:St}{H:Hp}{Q:VK}{D:ic}{K:Fg}
theorem bp{t u:TS}(h:t { nx:=u D,rt:=D.rt,bk:=D.bk,ct:=D.ct } σ H):ap t u D σ H:=h
theorem em{t u:TS}(h:∀NX:St->Hp->Prop,(∀σ H,u D σ H->NX σ H)->t { nx:=NX,rt:=D.rt,bk:=D.bk,ct:=D.ct } σ H):ap t u D σ H:=h _ fun _ _ h=>h
theorem Am(h:D.nx σ H):aZ D σ H:=h
theorem iG{te:TE}{g:TG}(h:te σ H fun x H1=>g x σ H1 D.nx):az te g D σ H:=h
theorem E8{te:TE}(h:te σ H D.rt):aG te D σ H:=h
theorem Ej{te:TE}(h:te σ H fun _ H1=>D.nx σ H1):dY te D σ H:=h
theorem Cz{c:TT}{t u:TS}(h:c σ H fun b H1=>if b=true then t D σ H1 else u D σ H1):bo c t u D σ H:=h
theorem i9{i:Nat}{v:V}{R:St->Hp->Prop}(h:R (σ.set i (some v)) H):ai i v σ H R:=h
theorem Ek{to ti:TE}{t:va}{v:V}{R:St->Hp->Prop}(h:to σ H fun o H1=>ti σ H1 fun i H2=>t o i v H2 fun H3=>R σ H3):km to ti t v σ H R:=h
theorem kL{p:Addr}{xs:List V}{k:Int}{v:V}{R:Hp->Prop}{j:Nat}(e:H p=some (.lst xs))(hj:ixN xs.length k=some j)(h:R (upd H p (.lst (xs.set j v)))):jw (.ref p) (.int k) v H R:=⟨p,xs,k,j,rfl,rfl,e,hj,h⟩
theorem lA{i:Nat}{v:V}(e:σ[i]?=some (some v))(h:Q v H):ab i σ H Q:=⟨v,e,h⟩
theorem r_c{v:V}(h:Q v H):tC v σ H Q:=h
theorem oU{r:R2}{ta tb:TE}(h:ta σ H fun x H1=>tb σ H1 fun y H2=>r x y H2 Q):tOp r ta tb σ H Q:=h
theorem Fz{r:V->Hp->VK->Prop}{ta:TE}(h:ta σ H fun x H1=>r x H1 Q):tUn r ta σ H Q:=h
theorem FA{g:Int->Int->V}{i j:Int}(h:Q (g i j) H):rI0 g (.int i) (.int j) H Q:=⟨i,j,rfl,rfl,h⟩
theorem r_I{C:Int->Int->Prop}{g:Int->Int->V}{i j:Int}(c:C i j)(h:Q (g i j) H):rI C g (.int i) (.int j) H Q:=⟨i,j,rfl,rfl,c,h⟩
theorem r_U{g:Int->V}{i:Int}(h:Q (g i) H):rU g (.int i) H Q:=⟨i,rfl,h⟩
theorem E9{i j:Int}(h:Q (.bl (decide (i=j))) H):rEq (.int i) (.int j) H Q:=⟨rfl,by rw[show decide (V.int i=V.int j)=decide (i=j)from decide_eq_decide.mpr ⟨fun e=>by injection e,fun e=>by rw[e]⟩];exact h⟩
theorem Fa{i j:Int}(h:Q (.bl (!decide (i=j))) H):rNe (.int i) (.int j) H Q:=⟨rfl,by rw[show decide (V.int i=V.int j)=decide (i=j)from decide_eq_decide.mpr ⟨fun e=>by injection e,fun e=>by rw[e]⟩];exact h⟩
theorem El{t:TE}{R:Bool->Hp->Prop}(h:t σ H fun x H'=>∃k,x=.bl k/\R k H'):ba t σ H R:=h
theorem FB{t:TE}{R:Bool->Hp->Prop}(h:t σ H fun x H'=>∃k,x=.bl k/\R k H'):tB t σ H R:=h
theorem FC{b:Bool}{R:Bool->Prop}(h:R b):∃k,V.bl b=.bl k/\R k:=⟨b,rfl,h⟩
theorem Fb{t u:TT}{R:Bool->Hp->Prop}(h:t σ H fun c H1=>if c=true then u σ H1 R else R false H1):uY t u σ H R:=h
theorem FD{t u:TT}{R:Bool->Hp->Prop}(h:t σ H fun c H1=>if c=true then R true H1 else u σ H1 R):tOr t u σ H R:=h
theorem Fc{t:TT}{R:Bool->Hp->Prop}(h:t σ H fun c H1=>R (!c) H1):dX t σ H R:=h
theorem Em{ta tb:TE}(h:ta σ H fun x H1=>∃c,x=.bl c/\if c=true then tb σ H1 Q else Q (.bl false) H1):ny ta tb σ H Q:=h
theorem Fd{ta tb:TE}(h:ta σ H fun x H1=>∃c,x=.bl c/\if c=true then Q (.bl true) H1 else tb σ H1 Q):Bg ta tb σ H Q:=h
theorem En{ta:TE}(h:ta σ H fun x H1=>∃c,x=.bl c/\Q (.bl (!c)) H1):uA ta σ H Q:=h
theorem FE{t:TT}{ta tb:TE}(h:t σ H fun c H1=>if c=true then ta σ H1 Q else tb σ H1 Q):tIf t ta tb σ H Q:=h
theorem CA{R:List V->Hp->Prop}(h:R [] H):af σ H R:=h
theorem An{ta:TE}{tr:TA}{R:List V->Hp->Prop}(h:ta σ H fun x H1=>tr σ H1 fun xs H2=>R (x::xs) H2):aa ta tr σ H R:=h
theorem Eo{sp:Sp}{E:XK}{t:TA}(h:t σ H fun vs H1=>sp vs H1 Q E):au sp [] E t σ H Q:=by
 show t σ H fun vs H1=>sp (vs++[]) H1 Q E;simpa only[II]using h
theorem FF{r:List V->Hp->VK->Prop}{t:TA}(h:t σ H fun vs H1=>r vs H1 Q):tCB r t σ H Q:=h
theorem FG{T:String}{r:V->List V->Hp->VK->Prop}{to:TE}{t:TA}(h:to σ H fun x H1=>tyV K T x H1/\t σ H1 fun xs H2=>r x xs H2 Q):tBM K T r to t σ H Q:=h
theorem FH{r:V->Option Int->Option Int->Hp->VK->Prop}{te:TE}{tl th:TO}(h:te σ H fun x H1=>tl σ H1 fun l H2=>th σ H2 fun u H3=>r x l u H3 Q):tSl r te tl th σ H Q:=h
theorem By{R:Option Int->Hp->Prop}(h:R none H):ig σ H R:=h
theorem Ep{t:TE}{R:Option Int->Hp->Prop}(h:t σ H fun x H1=>∃i,x=.int i/\R (some i) H1):li t σ H R:=h
theorem Fe{i:Int}{R:Int->Prop}(h:R i):∃j,V.int i=.int j/\R j:=⟨i,rfl,h⟩
theorem Ff{wi:TI}{g:TG}{tb:TS} (h:wi σ H fun J H1=>∃W:Nat->Nat->St->Hp->Prop,(∃m,W 0 m σ H1)/\∀i m σ H,W i m σ H->
  (J.stop i H/\D.nx σ H)\/(J.go i H/\∃N:St->Hp->Prop,(∀σ' H',N σ' H'->∃m',m'<m/\W (i+1) m' σ' H')/\∀x H',J.yld i H x H'->g x σ H' fun σ2 H2=>tb { D with nx:=N,ct:=N,bk:=D.nx } σ2 H2)):cc wi g tb D σ H:=h
theorem Er{wi:TI}{g:CF TG}{tt:CF TT}{te:CF TE}{ix:List (Option Nat)} (h:wi σ H fun J H1=>∀p,H1 p=none->
  ∃W:Nat->Nat->List V->Hp->Prop,(∃m,W 0 m [] (upd H1 p (.lst [])))/\∀C s' H' fp,bV J (g C s' H' fp) (tt C s' H' fp) (te C s' H' fp) (sub ix σ) p Q W):b8 wi g tt te ix σ H Q:=h
section
variable{R:It->Hp->Prop}
theorem Db{tl:TE}(h:tl σ H fun x H1=>∃a,x=.ref a/\(∃xs,SqL K H1 a xs)/\R (Itl K a) H1):dc K tl σ H R:=h
theorem Es{tl:TE}(h:tl σ H fun x H1=>∃a,x=.ref a/\(∃xs,SqT K H1 a xs)/\R (Itt K a) H1):mz K tl σ H R:=h
theorem Dc{ta:TA}(h:ta σ H fun vs H1=>∃j:Int,vs=[.int j]/\-(2^62)<=j/\j<2^62/\R (Itr 0 j.toNat) H1):dD ta σ H R:=h
theorem De{S:Src}{ta:TA}(h:ta σ H fun vs H1=>∃a xs,vs=[.ref a]/\S.Sq K H1 a xs/\R (Ite S K a) H1):lv S K ta σ H R:=h
theorem Et{S1 S2:Src}{ta:TA}(h:ta σ H fun vs H1=>∃a b xs ys,vs=[.ref a,.ref b]/\S1.Sq K H1 a xs/\S2.Sq K H1 b ys/\R (Itz S1 S2 K a b) H1):lz S1 S2 K ta σ H R:=h
end
noncomputable def Off(l:Addr)(H H':Hp):Prop:=∀b,b≠l->H' b=H b
theorem fq{l:Addr}{o:HO}:Off l H (upd H l o):=fun b hb=>aO hb
theorem ah.off{H0 H':Hp}{l:Addr}(s:ah H0 H)(h:H0 l=none)(o:Off l H H'):ah H0 H':=fun b u q=>by rw[o b (aP q h)];exact s b u q
noncomputable def dg(H H':Hp):Prop:=∀b xs,H b=some (.tup xs)->H' b=some (.tup xs)
theorem dg.refl(H:Hp):dg H H:=fun _ _ h=>h
theorem ah.keep{H':Hp}(s:ah H H'):dg H H':=fun b _ h=>s b _ h
theorem dg.trans{H1 H2:Hp}(a:dg H H1)(b:dg H1 H2):dg H H2:=fun c o h=>b c o (a c o h)
theorem Off.keep{H':Hp}{l:Addr}{xs:List V}(o:Off l H H')(e:H l=some (.lst xs)):dg H H':=fun b ys q=>by
 rw[o b (yd q e (by intro z;cases z))];exact q
theorem ik{l:Addr}{xs:List V}{y:V}(e:H l=some (.lst xs))(hz:xs.length<FY)(h:∀H',Off l H H'->H' l=some (.lst (xs++[y]))->Q .non H'):fo (.ref l) [y] H Q:=⟨l,xs,y,rfl,rfl,e,hz,h _ fq av⟩
theorem nH{l:Addr}{xs:List V}(e:H l=some (.lst xs)):tyV K "list" (.ref l) H:=.inl ⟨rfl,xs,SqL.of e⟩
theorem bH{l:Addr}{xs:List V}{i:Int}{v:V}(e:SqL K H l xs)(hv:atI xs i=some v)(h:Q v H):b9 K (.ref l) (.int i) H Q:=⟨l,xs,i,v,rfl,rfl,e,hv,h⟩
theorem aI{l:Addr}{xs:List V}{i:Int}{v:V}(e:SqT K H l xs)(hv:atI xs i=some v)(h:Q v H):bU K (.ref l) (.int i) H Q:=⟨l,xs,i,v,rfl,rfl,e,hv,h⟩
end
theorem cT{p A B:Prop}[Decidable p](h1:p->A)(h2:¬p->B):if decide p=true then A else B:=by
 by_cases h:p
 ·rw[if_pos (decide_eq_true h)];exact h1 h
 ·rw[if_neg (by rw[decide_eq_false h];exact F3)];exact h2 h
theorem vx{p A B:Prop}[Decidable p](h1:¬p->A)(h2:p->B):if(!decide p)=true then A else B:=by
 by_cases h:p
 ·rw[if_neg (by rw[decide_eq_true h];exact F3)];exact h2 h
 ·rw[if_pos (by rw[decide_eq_false h];rfl)];exact h1 h
theorem cU{p A B:Prop}[Decidable p](h:p)(h1:A):if decide p=true then A else B:=cT (fun _=>h1) (fun n=>absurd h n)
theorem aH{p A B:Prop}[Decidable p](h:¬p)(h1:B):if decide p=true then A else B:=cT (fun n=>absurd n h) (fun _=>h1)
theorem yt{A B:Prop}(h:B):if(!true)=true then A else B:=by exact jm h
theorem Fh{A B:Prop}(h:A):if(!false)=true then A else B:=by exact jQ h
theorem Bz{σ:St}{H:Hp}{R:Bool->Hp->Prop}(h:R true H):bI σ H R:=h
theorem uE{B:(St->Hp->Prop)->Prop}{R:St->Hp->Prop}(h:B R):∃N:St->Hp->Prop,(∀σ' H',N σ' H'->R σ' H')/\B N:=⟨R,fun _ _ h=>h,h⟩
theorem uF{c:TT}{tb:TS}{D:ic}{σ:St}{H:Hp}(W:Nat->St->Hp->Prop)(m:Nat)(h0:W m σ H)(h:∀m σ H,W m σ H->c σ H fun b H1=>if b=true then∃N:St->Hp->Prop,(∀σ' H',N σ' H'->∃m',m'<m/\W m' σ' H')/\tb { D with nx:=N,ct:=N,bk:=D.nx } σ H1 else D.nx σ H1):
  jN c tb D σ H:=⟨W,⟨m,h0⟩,h⟩
noncomputable def cH(K:Fg):List V->Hp->VK->Prop:=fun xs H Q=>∃p ys,xs=[.ref p]/\(SqL K H p ys\/SqT K H p ys)/\Q (.int ys.length) H
noncomputable def oV(K:Fg):List V->Hp->VK->Prop:=fun xs H Q=>∃(p:Addr)(ns:List Int),xs=[.ref p]/\SqL K H p (ns.map V.int)/\Q (.int ns.sum) H
noncomputable def BA(K:Fg):List V->Hp->VK->Prop:=fun xs H Q=>∃(p:Addr)(bs:List Bool),xs=[.ref p]/\SqL K H p (bs.map V.bl)/\Q (.bl (bs.all id)) H
noncomputable def rK(K:Fg):List V->Hp->VK->Prop:=fun xs H Q=>∃(p:Addr)(ns:List Int),xs=[.ref p]/\SqL K H p (ns.map V.int)/\ns≠[]/\∀M,M∈ns->(∀a∈ns,a<=M)->Q (.int M) H
noncomputable def yu:List V->Hp->VK->Prop:=fun xs H Q=>∃i j,xs=[.int i,.int j]/\Q (.int (if j<i then j else i)) H
noncomputable def CB:List V->Hp->VK->Prop:=fun xs H Q=>∃i j,xs=[.int i,.int j]/\Q (.int (if j>i then j else i)) H
noncomputable def Eu:List V->Hp->VK->Prop:=fun xs H Q=>(∃i,xs=[.int i]/\Q (.int i) H)\/∃k,xs=[.bl k]/\Q (.int (if k then 1 else 0)) H
noncomputable def Ev(K:Fg):List V->Hp->VK->Prop:=fun xs H Q=>∃p ys,xs=[.ref p]/\((SqL K H p ys/\∀l,H l=none->Q (.ref l) (upd H l (.tup ys)))\/(SqT K H p ys/\Q (.ref p) H))
section
variable{K:Fg}{H:Hp}{Q:VK}
theorem j6{l:Addr}{ys:List V}(e:SqL K H l ys)(h:Q (.int ys.length) H):cH K [.ref l] H Q:=⟨l,ys,rfl,.inl e,h⟩
theorem rL{l:Addr}{ys:List V}(e:SqT K H l ys)(h:Q (.int ys.length) H):cH K [.ref l] H Q:=⟨l,ys,rfl,.inr e,h⟩
theorem yv{l:Addr}{ns:List Int}(e:SqL K H l (ns.map V.int))(h:Q (.int ns.sum) H):oV K [.ref l] H Q:=⟨l,ns,rfl,e,h⟩
theorem Ew{i j:Int}(h:Q (.int (if j<i then j else i)) H):yu [.int i,.int j] H Q:=⟨i,j,rfl,h⟩
theorem Ex{i j:Int}(h:Q (.int (if j>i then j else i)) H):CB [.int i,.int j] H Q:=⟨i,j,rfl,h⟩
theorem Ey{k:Bool}(h:Q (.int (if k then 1 else 0)) H):Eu [.bl k] H Q:=.inr ⟨k,rfl,h⟩
end
noncomputable def New(H:Hp)(o:HO)(Q:Addr->Hp->Prop):Prop:=∀p H',H p=none->ah H H'->H' p=some o->Q p H'
theorem New.upd{H:Hp}{o:HO}{Q:Addr->Hp->Prop}(h:New H o Q):∀p,H p=none->Q p (upd H p o):=fun p hp=>h p _ hp (aX hp _) av
noncomputable def cq(t:TA):TE:=fun σ H Q=>t σ H fun xs H1=>xs.length<=FY/\New H1 (.tup xs) fun p H2=>Q (.ref p) H2
noncomputable def cX(t:TA):TE:=fun σ H Q=>t σ H fun xs H1=>xs.length<=FY/\New H1 (.lst xs) fun p H2=>Q (.ref p) H2
noncomputable def lB:R2:=fun x y H Q=>∃l b xs zs,x=.ref l/\y=.ref b/\H l=some (.lst xs)/\H b=some (.lst zs)/\xs.length+zs.length<=FY/\New H (.lst (xs++zs)) fun p H2=>Q (.ref p) H2
noncomputable def BB:R2:=fun x y H Q=>∃l k xs,x=.ref l/\y=.int k/\H l=some (.lst xs)/\-(2^63)<=k/\k<2^63/\xs.length*k.toNat<=FY/\New H (.lst (GC k.toNat xs).flatten) fun p H2=>Q (.ref p) H2
noncomputable def gC(K:Fg):List V->Hp->VK->Prop:=fun xs H Q=>∃p ys,xs=[.ref p]/\(SqL K H p ys\/SqT K H p ys)/\New H (.lst ys) fun l H2=>Q (.ref l) H2
noncomputable def jJ(K:Fg):List V->Hp->VK->Prop:=fun xs H Q=>∃p ys,xs=[.ref p]/\SqL K H p ys/\New H (.tup ys) fun l H2=>Q (.ref l) H2
section
variable{σ:St}{H:Hp}{Q:VK}{K:Fg}
theorem Fi{t:TA}(h:t σ H fun xs H1=>xs.length<=FY/\New H1 (.tup xs) fun p H2=>Q (.ref p) H2):cq t σ H Q:=h
theorem nI{t:TA}(h:t σ H fun xs H1=>xs.length<=FY/\New H1 (.lst xs) fun p H2=>Q (.ref p) H2):cX t σ H Q:=h
theorem nJ{l b:Addr}{xs zs:List V}(h1:H l=some (.lst xs))(h2:H b=some (.lst zs))(hz:xs.length+zs.length<=FY)(h:∀p H',H p=none->ah H H'->H' p=some (.lst (xs++zs))->Q (.ref p) H'):lB (.ref l) (.ref b) H Q:=⟨l,b,xs,zs,rfl,rfl,h1,h2,hz,h⟩
theorem kM{p:Addr}{ys:List V}(e:SqL K H p ys)(h:∀l H',H l=none->ah H H'->H' l=some (.lst ys)->Q (.ref l) H'):gC K [.ref p] H Q:=⟨p,ys,rfl,.inl e,h⟩
theorem rM{p:Addr}{ys:List V}(e:SqL K H p ys)(h:∀l H',H l=none->ah H H'->H' l=some (.tup ys)->Q (.ref l) H'):jJ K [.ref p] H Q:=⟨p,ys,rfl,e,h⟩
end
section
variable{g:TG}{tb:TS}{NX:St->Hp->Prop}{RT:VK}{σ:St}{H:Hp}{K:Fg}
theorem d5{j:Int}(n:Nat)(hn:j.toNat=n)(hj:j<=1000000000)(hj0:-1000000000<=j)(Pv:Nat->St->Hp->Prop)(h0:Pv 0 σ H)(hs:∀i σ H,i<n->Pv i σ H->g (.int i) σ H fun σ2 H2=>tb { nx:=Pv (i+1),rt:=RT,bk:=NX,ct:=Pv (i+1) } σ2 H2)(hd:∀σ H,Pv n σ H->NX σ H):
  ∃j':Int,[V.int j]=[.int j']/\-(2^62)<=j'/\j'<2^62/\∃W:Nat->Nat->St->Hp->Prop,(∃m,W 0 m σ H)/\∀i m σ H,W i m σ H->
   ((Itr 0 j'.toNat).stop i H/\NX σ H)\/((Itr 0 j'.toNat).go i H/\∃N:St->Hp->Prop,(∀σ' H',N σ' H'->∃m',m'<m/\W (i+1) m' σ' H')/\∀x H',(Itr 0 j'.toNat).yld i H x H'->g x σ H' fun σ2 H2=>tb { nx:=N,rt:=RT,bk:=NX,ct:=N } σ2 H2):=by
 refine⟨j,rfl,by omega,by omega,?_⟩;subst hn;exact mD (lo:=0) (D:={ nx:=NX,rt:=RT }) Pv h0 (fun i σ H hi p=>by rw[LD];exact hs i σ H hi p) hd
theorem kN{a:Addr}(xs:List V)(hx:SqL K H a xs)(Pv:Nat->St->Hp->Prop)(h0:Pv 0 σ H)(hl:∀i σ H,i<=xs.length->Pv i σ H->SqL K H a xs)(hs:∀i x σ H,xs[i]?=some x->Pv i σ H->g x σ H fun σ2 H2=>tb { nx:=Pv (i+1),rt:=RT,bk:=NX,ct:=Pv (i+1) } σ2 H2)(hd:∀σ H,Pv xs.length σ H->NX σ H):
  ∃a',V.ref a=.ref a'/\(∃xs,SqL K H a' xs)/\∃W:Nat->Nat->St->Hp->Prop,(∃m,W 0 m σ H)/\∀i m σ H,W i m σ H->
   ((Itl K a').stop i H/\NX σ H)\/((Itl K a').go i H/\∃N:St->Hp->Prop,(∀σ' H',N σ' H'->∃m',m'<m/\W (i+1) m' σ' H')/\∀x H',(Itl K a').yld i H x H'->g x σ H' fun σ2 H2=>tb { nx:=N,rt:=RT,bk:=NX,ct:=N } σ2 H2):=
 ⟨a,rfl,⟨xs,hx⟩,oQ (D:={ nx:=NX,rt:=RT }) Pv h0 hl hs hd⟩
theorem vy{a:Addr}(xs:List V)(hx:SqT K H a xs)(Pv:Nat->St->Hp->Prop)(h0:Pv 0 σ H)(hl:∀i σ H,i<=xs.length->Pv i σ H->SqT K H a xs)(hs:∀i x σ H,xs[i]?=some x->Pv i σ H->g x σ H fun σ2 H2=>tb { nx:=Pv (i+1),rt:=RT,bk:=NX,ct:=Pv (i+1) } σ2 H2)(hd:∀σ H,Pv xs.length σ H->NX σ H):
  ∃a',V.ref a=.ref a'/\(∃xs,SqT K H a' xs)/\∃W:Nat->Nat->St->Hp->Prop,(∃m,W 0 m σ H)/\∀i m σ H,W i m σ H->
   ((Itt K a').stop i H/\NX σ H)\/((Itt K a').go i H/\∃N:St->Hp->Prop,(∀σ' H',N σ' H'->∃m',m'<m/\W (i+1) m' σ' H')/\∀x H',(Itt K a').yld i H x H'->g x σ H' fun σ2 H2=>tb { nx:=N,rt:=RT,bk:=NX,ct:=N } σ2 H2):=
 ⟨a,rfl,⟨xs,hx⟩,CW (D:={ nx:=NX,rt:=RT }) Pv h0 hl hs hd⟩
theorem rN{S:Src}{a:Addr}(xs:List V)(hx:S.Sq K H a xs)(Pv:Nat->St->Hp->Prop)(h0:Pv 0 σ H)(hl:∀i σ H,i<=xs.length->Pv i σ H->S.Sq K H a xs)
  (hs:∀i x T σ H H',xs[i]?=some x->Pv i σ H->H T=none->ah H H'->H' T=some (.tup [.int i,x])->g (.ref T) σ H' fun σ2 H2=>tb { nx:=Pv (i+1),rt:=RT,bk:=NX,ct:=Pv (i+1) } σ2 H2) (hd:∀σ H,Pv xs.length σ H->NX σ H):
  ∃a' xs',[V.ref a]=[.ref a']/\S.Sq K H a' xs'/\∃W:Nat->Nat->St->Hp->Prop,(∃m,W 0 m σ H)/\∀i m σ H,W i m σ H->
   ((Ite S K a').stop i H/\NX σ H)\/((Ite S K a').go i H/\∃N:St->Hp->Prop,(∀σ' H',N σ' H'->∃m',m'<m/\W (i+1) m' σ' H')/\∀x H',(Ite S K a').yld i H x H'->g x σ H' fun σ2 H2=>tb { nx:=N,rt:=RT,bk:=NX,ct:=N } σ2 H2):=
 ⟨a,xs,rfl,hx,vo (D:={ nx:=NX,rt:=RT }) Pv h0 hl (fun i x T σ H e p hT=>hs i x T σ H _ e p hT (aX hT _) av) hd⟩
end
theorem vz{α:Type}[DecidableEq α]:∀{xs:List α} {m:α},m∈xs->∃j:Nat,xs[j]?=some m/\∀i:Nat,i<j->xs[i]?≠some m
 |x::r,m,h=>by
  by_cases e:x=m
  ·exact⟨0,by rw[e];rfl,fun i hi=>absurd hi (by omega)⟩
  ·have hm:m∈r:=by
    rcases FW.mp h with h|h
    ·exact absurd h.symm e
    ·exact h
   obtain⟨j,h1,h2⟩:=vz hm;refine⟨j+1,h1,fun i hi=>?_⟩;cases i with
   |zero=>intro z;exact e (F1 z)
   |succ i=>exact h2 i (by omega)
theorem eW{K:Fg}{i j:Nat}{a:Addr}{x y:V}{σ:St}{H:Hp}{R:St->Hp->Prop}(e:SqT K H a [x,y])(h:R ((σ.set i (some x)).set j (some y)) H):gj K 2 (bF (ai i) (bF (ai j) gi)) (.ref a) σ H R:=
 ⟨a,[x,y],rfl,e,rfl,x,[y],rfl,y,[],rfl,rfl,h⟩
noncomputable def bm(H:Hp)(p:Addr)(R:Nat->List V->Hp->Prop)(i:Nat)(acc:List V)(H2:Hp):Prop:=ah H H2/\H2 p=some (.lst acc)/\acc.length<=i/\R i acc H2
theorem bm.put{H H4:Hp}{p:Addr}{R:Nat->List V->Hp->Prop}{i:Nat}{acc:List V}{y:V}(hp:H p=none)(st:∀i acc H H',R i acc H->dg H H'->R i acc H')(s:ah H H4)(e:H4 p=some (.lst acc))(l:acc.length<=i)(r:R (i+1) (acc++[y]) H4):
  H4 p=some (.lst acc)/\bm H p R (i+1) (acc++[y]) (upd H4 p (.lst (acc++[y]))):=
 ⟨e,s.upd hp _,av,by rw[Ga];exact ME l 1,st _ _ _ _ r (fq.keep e)⟩
theorem bm.skip{H H4:Hp}{p:Addr}{R:Nat->List V->Hp->Prop}{i:Nat}{acc:List V}(s:ah H H4)(e:H4 p=some (.lst acc))(l:acc.length<=i)(r:R (i+1) acc H4):bm H p R (i+1) acc H4:=⟨s,e,by omega,r⟩
section
variable{g:CF TG}{tt:CF TT}{te:CF TE}{σ₀:St}{Q:VK}{H:Hp}{K:Fg}
theorem BC{j:Int}(n:Nat)(hn:j.toNat=n)(hj:j<=1000000)(hj0:-1000000<=j)(R:Nat->List V->Hp->Prop)(h0:∀H',ah H H'->R 0 [] H')
  (hs:∀p,H p=none->∀C s' H' fp,∀i acc H2,i<n->bm H p R i acc H2->g C s' H' fp (.int i) σ₀ H2 fun σ2 H3=>tt C s' H' fp σ2 H3 fun b H4=>if b=true then te C s' H' fp σ2 H4 fun y H5=>H5 p=some (.lst acc)/\bm H p R (i+1) (acc++[y]) (upd H5 p (.lst (acc++[y])))else bm H p R (i+1) acc H4)
  (hd:∀p acc H2,H p=none->ah H H2->H2 p=some (.lst acc)->R n acc H2->Q (.ref p) H2):
  ∃j':Int,[V.int j]=[.int j']/\-(2^62)<=j'/\j'<2^62/\∀p,H p=none->∃W:Nat->Nat->List V->Hp->Prop,(∃m,W 0 m [] (upd H p (.lst [])))/\∀C s' H' fp,bV (Itr 0 j'.toNat) (g C s' H' fp) (tt C s' H' fp) (te C s' H' fp) σ₀ p Q W:=by
 refine⟨j,rfl,by omega,by omega,fun p hp=>?_⟩;subst hn;exact lu (lo:=0) (bm H p R) ⟨aX hp _,av,FU _,h0 _ (aX hp _)⟩ (fun i acc H2 _ c=>⟨c.2.1,c.2.2.1⟩) (by rw[FV];omega) (fun C s' H' fp i acc H2 hi c=>by rw[LD];exact hs p hp C s' H' fp i acc H2 hi c) fun acc H2 c=>hd p acc H2 hp c.1 c.2.1 c.2.2.2
theorem gw{a:Addr}(xs:List V)(hx:SqL K H a xs)(hz:xs.length<=1000000)(R:Nat->List V->Hp->Prop)(h0:∀H',ah H H'->R 0 [] H')
  (hs:∀p,H p=none->∀C s' H' fp,∀i x acc H2,xs[i]?=some x->bm H p R i acc H2->g C s' H' fp x σ₀ H2 fun σ2 H3=>tt C s' H' fp σ2 H3 fun b H4=>if b=true then te C s' H' fp σ2 H4 fun y H5=>H5 p=some (.lst acc)/\bm H p R (i+1) (acc++[y]) (upd H5 p (.lst (acc++[y])))else bm H p R (i+1) acc H4)
  (hd:∀p acc H2,H p=none->ah H H2->H2 p=some (.lst acc)->R xs.length acc H2->Q (.ref p) H2):
  ∃a',V.ref a=.ref a'/\(∃xs,SqL K H a' xs)/\∀p,H p=none->∃W:Nat->Nat->List V->Hp->Prop,(∃m,W 0 m [] (upd H p (.lst [])))/\∀C s' H' fp,bV (Itl K a') (g C s' H' fp) (tt C s' H' fp) (te C s' H' fp) σ₀ p Q W:=
 ⟨a,rfl,⟨xs,hx⟩,fun p hp=>tj (bm H p R) ⟨aX hp _,av,FU _,h0 _ (aX hp _)⟩ (fun i acc H2 _ c=>⟨c.2.1,c.2.2.1⟩) (fun i acc H2 _ c=>c.1.seq hx) (by rw[FV];omega) (fun C s' H' fp i x acc H2 hi c=>hs p hp C s' H' fp i x acc H2 hi c) fun acc H2 c=>hd p acc H2 hp c.1 c.2.1 c.2.2.2⟩
theorem Ez{a:Addr}(xs:List V)(hx:SqT K H a xs)(hz:xs.length<=1000000)(R:Nat->List V->Hp->Prop)(h0:∀H',ah H H'->R 0 [] H')
  (hs:∀p,H p=none->∀C s' H' fp,∀i x acc H2,xs[i]?=some x->bm H p R i acc H2->g C s' H' fp x σ₀ H2 fun σ2 H3=>tt C s' H' fp σ2 H3 fun b H4=>if b=true then te C s' H' fp σ2 H4 fun y H5=>H5 p=some (.lst acc)/\bm H p R (i+1) (acc++[y]) (upd H5 p (.lst (acc++[y])))else bm H p R (i+1) acc H4)
  (hd:∀p acc H2,H p=none->ah H H2->H2 p=some (.lst acc)->R xs.length acc H2->Q (.ref p) H2):
  ∃a',V.ref a=.ref a'/\(∃xs,SqT K H a' xs)/\∀p,H p=none->∃W:Nat->Nat->List V->Hp->Prop,(∃m,W 0 m [] (upd H p (.lst [])))/\∀C s' H' fp,bV (Itt K a') (g C s' H' fp) (tt C s' H' fp) (te C s' H' fp) σ₀ p Q W:=
 ⟨a,rfl,⟨xs,hx⟩,fun p hp=>vk (bm H p R) ⟨aX hp _,av,FU _,h0 _ (aX hp _)⟩ (fun i acc H2 _ c=>⟨c.2.1,c.2.2.1⟩) (fun i acc H2 _ c=>c.1.tup hx) (by rw[FV];omega) (fun C s' H' fp i x acc H2 hi c=>hs p hp C s' H' fp i x acc H2 hi c) fun acc H2 c=>hd p acc H2 hp c.1 c.2.1 c.2.2.2⟩
end
section
variable{g:TG}{tb:TS}{NX:St->Hp->Prop}{RT:VK}{σ:St}{H:Hp}{K:Fg}
theorem Ao{S1 S2:Src}{a b:Addr}(xs ys:List V)(hx:S1.Sq K H a xs)(hy:S2.Sq K H b ys)(Pv:Nat->St->Hp->Prop)(h0:Pv 0 σ H)(hl:∀i σ H,Pv i σ H->S1.Sq K H a xs/\S2.Sq K H b ys)
  (hs:∀i x y T σ H H',xs[i]?=some x->ys[i]?=some y->Pv i σ H->H T=none->ah H H'->H' T=some (.tup [x,y])->g (.ref T) σ H' fun σ2 H2=>tb { nx:=Pv (i+1),rt:=RT,bk:=NX,ct:=Pv (i+1) } σ2 H2) (hd:∀σ H,Pv (min xs.length ys.length) σ H->NX σ H):
  ∃a' b' xs' ys',[V.ref a,V.ref b]=[.ref a',.ref b']/\S1.Sq K H a' xs'/\S2.Sq K H b' ys'/\∃W:Nat->Nat->St->Hp->Prop,(∃m,W 0 m σ H)/\∀i m σ H,W i m σ H->
   ((Itz S1 S2 K a' b').stop i H/\NX σ H)\/((Itz S1 S2 K a' b').go i H/\∃N:St->Hp->Prop,(∀σ' H',N σ' H'->∃m',m'<m/\W (i+1) m' σ' H')/\∀x H',(Itz S1 S2 K a' b').yld i H x H'->g x σ H' fun σ2 H2=>tb { nx:=N,rt:=RT,bk:=NX,ct:=N } σ2 H2):=by
 refine⟨a,b,xs,ys,rfl,hx,hy,Ai (J:=Itz S1 S2 K a b) (n:=min xs.length ys.length) (D:={ nx:=NX,rt:=RT }) (Y:=fun i H x H1=>∃T u v,H T=none/\x=.ref T/\H1=upd H T (.tup [u,v])/\xs[i]?=some u/\ys[i]?=some v) Pv h0 (fun i σ H hi w=>?_) (fun σ H w=>?_) (fun i σ H x H1 hi w y=>?_) (fun i x σ H H1 hi w y=>?_) hd⟩
 ·obtain⟨q1,q2⟩:=hl i σ H w
  exact⟨xs,ys,xs[i],ys[i],q1,q2,by simp[show i<xs.length by omega],by simp[show i<ys.length by omega]⟩
 ·obtain⟨q1,q2⟩:=hl _ σ H w
  exact⟨xs,ys,q1,q2,rfl⟩
 ·obtain⟨T,u,v,e1,e2,e3,e4⟩:=y
  obtain⟨q1,q2⟩:=hl _ σ H w;obtain⟨e5,e6⟩:=e4 xs ys q1 q2;exact⟨T,u,v,e1,e2,e3,e5,e6⟩
 ·obtain⟨T,u,v,e1,rfl,rfl,e4,e5⟩:=y
  exact hs i u v T σ H _ e4 e5 w e1 (aX e1 _) av
end
section
variable{K:Fg}{H:Hp}{Q:VK}{a b:Addr}{ns ms:List Int}
theorem Fj(h1:SqT K H a (ns.map V.int))(h2:SqT K H b (ms.map V.int))(h:Q (.bl (decide (ns=ms))) H):rJ (SqT K) false (.ref a) (.ref b) H Q:=⟨a,b,_,_,_,rfl,rfl,h1,h2,Ah ns ms,by rw[yr];exact h⟩
theorem j7{x:V}{T:String}{t:Value}{c:Bool}(ty:dZ K H x t)(e:GI K t (.type T)=some c)(h:Q (.bl c) H):ko K [x,.ty T] H Q:=⟨x,T,t,c,rfl,ty,e,h⟩
end
section
variable{g:CF TG}{tt:CF TT}{te:CF TE}{σ₀:St}{Q:VK}{H:Hp}{K:Fg}
theorem mK{S1 S2:Src}{a b:Addr}(xs ys:List V)(hx:S1.Sq K H a xs)(hy:S2.Sq K H b ys)(kx:∀H',ah H H'->S1.Sq K H' a xs)(ky:∀H',ah H H'->S2.Sq K H' b ys)(hz:xs.length<=1000000)(R:Nat->List V->Hp->Prop)(h0:∀H',ah H H'->R 0 [] H')
  (hs:∀p,H p=none->∀C s' H' fp,∀i x y T acc H2 H3,xs[i]?=some x->ys[i]?=some y->bm H p R i acc H2->H2 T=none->ah H2 H3->H3 T=some (.tup [x,y])->H3 p=some (.lst acc)->g C s' H' fp (.ref T) σ₀ H3 fun σ2 H3=>tt C s' H' fp σ2 H3 fun b H4=>if b=true then te C s' H' fp σ2 H4 fun y H5=>H5 p=some (.lst acc)/\bm H p R (i+1) (acc++[y]) (upd H5 p (.lst (acc++[y])))else bm H p R (i+1) acc H4)
  (hd:∀p acc H2,H p=none->ah H H2->H2 p=some (.lst acc)->R (min xs.length ys.length) acc H2->Q (.ref p) H2):
  ∃a' b' xs' ys',[V.ref a,V.ref b]=[.ref a',.ref b']/\S1.Sq K H a' xs'/\S2.Sq K H b' ys'/\∀p,H p=none->∃W:Nat->Nat->List V->Hp->Prop,(∃m,W 0 m [] (upd H p (.lst [])))/\∀C s' H' fp,bV (Itz S1 S2 K a' b') (g C s' H' fp) (tt C s' H' fp) (te C s' H' fp) σ₀ p Q W:=by
 refine⟨a,b,xs,ys,rfl,hx,hy,fun p hp=>kJ (n:=min xs.length ys.length) (Y:=fun i H x H1=>∃T u v,H T=none/\x=.ref T/\H1=upd H T (.tup [u,v])/\xs[i]?=some u/\ys[i]?=some v) (bm H p R)
  ⟨aX hp _,av,FU _,h0 _ (aX hp _)⟩ (fun i acc H2 _ c=>⟨c.2.1,c.2.2.1⟩) (by rw[FV];omega) (fun i acc H2 hi c=>?_) (fun acc H2 c=>?_) (fun i acc H2 x H3 hi c y=>?_) (fun C s' H' fp i x acc H2 H3 hi c y=>?_) fun acc H2 c=>hd p acc H2 hp c.1 c.2.1 c.2.2.2⟩
 ·exact⟨xs,ys,xs[i],ys[i],kx _ c.1,ky _ c.1,by simp[show i<xs.length by omega],by simp[show i<ys.length by omega]⟩
 ·exact⟨xs,ys,kx _ c.1,ky _ c.1,rfl⟩
 ·obtain⟨T,u,v,e1,e2,e3,e4⟩:=y
  obtain⟨e5,e6⟩:=e4 xs ys (kx _ c.1) (ky _ c.1);exact⟨T,u,v,e1,e2,e3,e5,e6⟩
 ·obtain⟨T,u,v,e1,rfl,rfl,e4,e5⟩:=y
  exact hs p hp C s' H' fp i u v T acc H2 _ e4 e5 c e1 (aX e1 _) av (by rw[aO (aP c.2.1 e1)];exact c.2.1)
noncomputable def oW(K:Fg):V->Option Int->Option Int->Hp->VK->Prop:=fun x lo hi H Q=>∃a xs,x=.ref a/\SqT K H a xs/\¬(HT.sIx xs.length 0 lo=0/\HT.sIx xs.length xs.length hi=xs.length)/\New H (.tup (mF xs lo hi)) fun p H2=>Q (.ref p) H2
theorem uG{a:Addr}{xs:List V}{lo hi:Option Int}(e:SqT K H a xs)(hn:¬(HT.sIx xs.length 0 lo=0/\HT.sIx xs.length xs.length hi=xs.length))(h:∀p H',H p=none->ah H H'->H' p=some (.tup (mF xs lo hi))->Q (.ref p) H'):oW K (.ref a) lo hi H Q:=⟨a,xs,rfl,e,hn,h⟩
theorem lC(x:V)(xs:List V):mF (x::xs) (some 1) none=xs:=by
 unfold mF;have e:HT.sIx (x::xs).length 0 (some 1)=min 1 (x::xs).length:=rfl;rw[e,show min 1 (x::xs).length=1 by simp];show((x::xs).drop 1).take ((x::xs).length-1)=xs;rw[Jm (by simp)];rfl
theorem iH(x:V)(xs:List V):¬(HT.sIx (x::xs).length 0 (some 1)=0/\HT.sIx (x::xs).length (x::xs).length none=(x::xs).length):=fun h=>by
 have e:HT.sIx (x::xs).length 0 (some 1)=min 1 (x::xs).length:=rfl;rw[e,show min 1 (x::xs).length=1 by simp]at h;exact absurd h.1 (by decide)
theorem Fk{x y:Str}(h:Q (.bl (decide (x=y))) H):rEq (.str x) (.str y) H Q:=⟨rfl,by rw[show decide (V.str x=V.str y)=decide (x=y)from decide_eq_decide.mpr ⟨fun e=>by injection e,fun e=>by rw[e]⟩];exact h⟩
noncomputable def yw(kvs:List (Str×V))(a:Addr):R2:=fun x y H Q=>x=.ref a/\∃k v,y=.str k/\kvs.lookup k=some v/\Q v H
theorem CC{kvs:List (Str×V)}{a:Addr}{k:Str}{v:V}(e:kvs.lookup k=some v)(h:Q v H):yw kvs a (.ref a) (.str k) H Q:=⟨rfl,k,v,rfl,e,h⟩
noncomputable def vA(kvs:List (Str×V))(a:Addr)(neg:Bool):R2:=fun x y H Q=>y=.ref a/\∃k,x=.str k/\Q (.bl (if neg then !(kvs.lookup k).isSome else(kvs.lookup k).isSome)) H
end
noncomputable def jn(K:Fg)(a:Addr)(xs:List V):Prop:=∃(o:Obj)(its:Array Value)(n:Nat),K.lookup a=some o/\o.cls=.type "tuple"/\o.data=.seq its n/\its.size<=FY/\aA xs its.toList
theorem jn.sq{K:Fg}{a:Addr}{xs:List V}(h:jn K a xs)(H:Hp):SqT K H a xs:=.inr h
section
variable{H:Hp}{Q:VK}{K:Fg}
theorem BD{l b:Addr}{xs zs:List V}(e:H l=some (.lst xs))(eb:H b=some (.lst zs))(hz:xs.length+zs.length<=FY)(h:∀H',Off l H H'->H' l=some (.lst (xs++zs))->Q .non H'):rF (.ref l) [.ref b] H Q:=⟨l,b,xs,zs,rfl,rfl,e,eb,hz,h _ fq av⟩
theorem nK{a:Addr}{x:V}{xs:List V}{c:Bool}(e:SqT K H a xs)(fx:de x=true)(fs:xs.all de=true)(hc:inV x xs=c)(h:Q (.bl c) H):rIn K false x (.ref a) H Q:=⟨a,xs,rfl,.inr e,fx,fs,by rw[<-hc]at h;exact h⟩
end
theorem Ap(xs:List V)(z:Int){m:Nat}(hl:xs.length=m)(hm:0<m):∃x,atI xs (z%(m:Int))=some x/\x∈xs:=by
 have m1:=IJ z (b:=(m:Int)) (by omega);have m2:=IG z (b:=(m:Int)) (by omega);have hk:(z%(m:Int)).toNat<xs.length:=by omega
 refine⟨xs[(z%(m:Int)).toNat],?_,Hq hk⟩;have e:z%(m:Int)=(((z%(m:Int)).toNat:Nat):Int):=by omega
 have q:atI xs (((z%(m:Int)).toNat:Nat):Int)=some xs[(z%(m:Int)).toNat]:=dh (FN hk);rw[<-e]at q;exact q
end L2
end
local macro_rules | `(tactic| walk_at "rb1")=>`(tactic| first
 | ((with_reducible refine' L2.lA (v:=?v) ?e ?h);(case e=>exact rfl))
 | (with_reducible first|refine L2.Am ?_|refine L2.iG ?_|refine L2.E8 ?_|refine L2.Ej ?_|refine L2.i9 ?_|refine L2.Ek ?_|refine L2.r_c ?_|refine L2.oU ?_|refine L2.Fz ?_|refine L2.FA ?_|refine L2.r_U ?_|refine L2.E9 ?_|refine L2.Fa ?_|refine L2.Fk ?_|refine L2.El ?_|refine L2.FB ?_|refine L2.FC ?_|refine L2.Fe ?_|refine L2.Fb ?_|refine L2.FD ?_|refine L2.Fc ?_|refine L2.Em ?_|refine L2.Fd ?_|refine L2.En ?_|refine L2.FE ?_|refine L2.CA ?_|refine L2.An ?_|refine L2.Eo ?_|refine L2.FF ?_|refine L2.FG ?_|refine L2.FH ?_|refine L2.By ?_|refine L2.Ep ?_|refine L2.Ff ?_|refine L2.Er ?_|refine L2.Db ?_|refine L2.Es ?_|refine L2.Dc ?_|refine L2.De ?_|refine L2.Et ?_|refine L2.Fi ?_|refine L2.nI ?_|refine L2.Ew ?_|refine L2.Ex ?_|refine L2.Ey ?_|refine L2.jQ ?_|refine L2.jm ?_|refine L2.yt ?_|refine L2.Fh ?_|refine L2.Bz ?_)
 | ((with_reducible refine L2.r_I ?_ ?_);(first| (show(0:Int)<_;omega)| (show(0:Int)<_;decide)|exact⟨by decide,by decide,by decide⟩|exact And.intro (by omega) (by omega)|exact(PySem.IntMulOk.of_right (MY (by omega) (by omega)))|exact(PySem.IntMulOk.of_left (MY (by omega) (by omega)))))
 | ((with_reducible refine' L2.j6 (ys:=?y) ?e ?h);(case e=>first|assumption|exact L2.SqL.of (by assumption)))
 | ((with_reducible refine' L2.rL (ys:=?y) ?e ?h);(case e=>first|assumption|exact L2.SqT.of (by assumption)))
 |dsimp only[HU,HV,L2.sub,F6,Jr,List.getElem?_cons_zero,List.getElem?_cons_succ])
local macro_rules | `(tactic| walk_at "rd")=>`(tactic| repeat (first | (with_reducible first | refine L2.bp ?_ | refine L2.Cz ?_) | walk_at "rb1"))
local macro_rules | `(tactic| walk_at "rs")=>`(tactic| repeat (first | (with_reducible refine L2.Cz ?_) | walk_at "rb1"))
local macro_rules | `(tactic| walk_at "ra")=>`(tactic| repeat (walk_at "rb1"))
local macro_rules | `(tactic| right) => `(tactic| walk_at "rd")
local macro_rules | `(tactic| nofun) => `(tactic| walk_at "rs")
namespace L2
open PySem PyProof.Rows
noncomputable abbrev IA:=Option Int
noncomputable abbrev IK:=Sum IA (List IA)
noncomputable abbrev MK:=Sum IA (List IK)
noncomputable def iaV:V->Option IA
 | .non=>some none
 | .bl b=>some (some (if b then 1 else 0))
 | .int i=>some (some i)
 |_=>none
noncomputable def j8(H:Hp)(x:V):IK->Prop
 | .inl a=>iaV x=some a
 | .inr as=>∃c ys,x=.ref c/\H c=some (.tup ys)/\ys.map iaV=as.map some
noncomputable def ca(H:Hp)(x:V):MK->Prop
 | .inl a=>iaV x=some a
 | .inr is=>∃c xs,x=.ref c/\H c=some (.tup xs)/\Paired (j8 H) xs is
noncomputable def gD:MK->Bool
 | .inl _=>false
 | .inr _=>true
theorem j8.keep{H H':Hp}{x:V}{k:IK}(h:j8 H x k)(kp:dg H H'):j8 H' x k:=by
 cases k with
 |inl a=>exact h
 |inr as=>obtain⟨c,ys,e,q,r⟩:=h;exact⟨c,ys,e,kp _ _ q,r⟩
theorem ca.keep{H H':Hp}{x:V}{k:MK}(h:ca H x k)(kp:dg H H'):ca H' x k:=by
 cases k with
 |inl a=>exact h
 |inr as=>obtain⟨c,xs,e,q,r⟩:=h;exact⟨c,xs,e,kp _ _ q,Paired.mapP r fun _ _ z=>j8.keep z kp⟩
theorem tw{H H':Hp}{xs:List V}{ks:List MK}(h:Paired (ca H) xs ks)(kp:dg H H'):Paired (ca H') xs ks:=Paired.mapP h fun _ _ z=>ca.keep z kp
theorem bL{α β:Type}{F:α->β->Prop}:∀{xs:List α} {ys:List β} {i:Nat} {x:α},Paired F xs ys->xs[i]?=some x->∃y,ys[i]?=some y/\F x y
 |_,_,_,_,.nil,e=>by simp at e
 |_,_,0,_,.cons r _,e=>by simp at e;subst e;exact⟨_,rfl,r⟩
 |_,_,i+1,x,.cons _ t,e=>by
  obtain⟨u,h1,h2⟩:=bL (i:=i) (x:=x) t (by simpa using e);exact⟨u,by simpa using h1,h2⟩
theorem pV(H:Hp):∀ns:List Int,Paired (j8 H) (ns.map V.int) (ns.map fun n=>(IB (some n):IK))
 | []=>.nil
 |n::r=>.cons rfl (pV H r)
theorem xK{H:Hp}{c:Addr}{ns:List Int}(e:H c=some (.tup (ns.map V.int))):ca H (.ref c) (.inr (ns.map fun n=>(IB (some n):IK))):=⟨c,_,rfl,e,pV H ns⟩
theorem Off.keepD{H H':Hp}{l:Addr}(o:Off l H H')(h:∀xs,H l≠some (.tup xs)):dg H H':=fun b ys q=>by
 rw[o b (fun z=>by subst z;exact h _ q)];exact q
noncomputable def aM{α:Type}[DecidableEq α](ks:List α):List Nat:=ks.map fun k=>ks.idxOf k
theorem cV{α:Type}[DecidableEq α](ks:List α):(aM ks).length=ks.length:=FQ _
theorem yx{α:Type}[DecidableEq α]{ks:List α}{i:Nat}{k:α}(h:k∈ks.take i):(ks.take i).idxOf k=ks.idxOf k:=by
 have:=Nx (l₁:=ks.take i) (l₂:=ks.drop i) (a:=k);rw[Js,if_pos h]at this;exact this.symm
theorem tz{α:Type}[DecidableEq α]{ks:List α}{i:Nat}{k:α}(hk:ks[i]?=some k)(h:k∉ks.take i):ks.idxOf k=i:=by
 obtain⟨hi,e⟩:=FS.mp hk;have e1:ks=ks.take i++(k::ks.drop (i+1)):=by
  rw[<-e,List.getElem_cons_drop,Js]
 have:=Nx (l₁:=ks.take i) (l₂:=k::ks.drop (i+1)) (a:=k);rw[<-e1,if_neg h,List.idxOf_cons_self,Hb]at this;omega
theorem cN{α:Type}{ks:List α}{i:Nat}{k:α}(hk:ks[i]?=some k):ks.take (i+1)=ks.take i++[k]:=by
 rw[Hx,hk];rfl
theorem oC{α β:Type}[DecidableEq α][DecidableEq β]{f:α->β}(inj:∀a b,f a=f b->a=b)(ks:List α):aM (ks.map f)=aM ks:=by
 unfold aM;rw[I0];refine Hy fun k hk=>?_;show(ks.map f).idxOf (f k)=ks.idxOf k;clear hk
 induction ks with
 |nil=>rfl
 |cons a r ih=>
  rw[F6,Og,Og,ih];by_cases e:a=k
  ·rw[e,beq_self_eq_true,beq_self_eq_true]
  ·rw[beq_eq_false_iff_ne.mpr e,beq_eq_false_iff_ne.mpr (fun z=>e (inj _ _ z))]
theorem pW{α:Type}[DecidableEq α]{ks:List α}{i:Nat}{z:Nat}(h:(aM ks)[i]?=some z):∃k,ks[i]?=some k/\z=ks.idxOf k/\z<=i:=by
 unfold aM at h;rw[FZ]at h;cases e:ks[i]? with
 |none=>rw[e]at h;cases h
 |some k=>
  rw[e]at h;refine⟨k,rfl,(F1 h).symm,?_⟩;rw[<-F1 h];show ks.idxOf k<=i;by_cases q:k∈ks.take i
  ·have:=K5 q
   rw[yx q,Hb]at this;omega
  ·rw[tz e q];exact FU _
section
open PySem.Spec
section
variable{κ:Type}[DecidableEq κ]
noncomputable def eI(kvs:List (κ×V))(k:κ):Option V:=(kvs.find? fun kv=>decide (kv.1=k)).map (·.2)
noncomputable def lD(kvs:List (κ×V))(k:κ)(v:V):List (κ×V):=
 if(kvs.any fun kv=>decide (kv.1=k))=true then kvs.map (fun kv=>if kv.1=k then(kv.1,v)else kv)else kvs++[(k,v)]
theorem dw{p:κ×V}{r:List (κ×V)}{k:κ}(e:p.1=k):eI (p::r) k=some p.2:=by simp[eI,Gu,e]
theorem dz{p:κ×V}{r:List (κ×V)}{k:κ}(e:¬p.1=k):eI (p::r) k=eI r k:=by simp[eI,Gu,e]
theorem oX(k:κ):∀kvs:List (κ×V),(kvs.any fun kv=>decide (kv.1=k))=(eI kvs k).isSome
 | []=>rfl
 |p::r=>by
  rw[J8];by_cases e:p.1=k
  ·simp only[dw e,decide_eq_true e,Bool.true_or,Option.isSome_some]
  ·rw[dz e,decide_eq_false e,Bool.false_or];exact oX k r
theorem vB(k j:κ)(y:V):∀kvs:List (κ×V),eI (kvs.map fun kv=>if kv.1=k then(kv.1,y)else kv) j=(eI kvs j).map fun x=>if j=k then y else x
 | []=>rfl
 |p::r=>by
  have ih:=vB k j y r;rw[F6];by_cases h:p.1=k
  ·rw[if_pos h]
   by_cases e:p.1=j
   ·rw[dw (p:=(p.1,y)) e,dw e,JG,if_pos (e.symm.trans h)]
   ·rw[dz (p:=(p.1,y)) e,dz e,ih]
  ·rw[if_neg h]
   by_cases e:p.1=j
   ·rw[dw (p:=p) e,dw e,JG,if_neg (fun z=>h (e.trans z))]
   ·rw[dz (p:=p) e,dz e,ih]
theorem tD(k j:κ)(y:V):∀kvs:List (κ×V),eI kvs k=none->eI (kvs++[(k,y)]) j=if j=k then some y else eI kvs j
 | [],_=>by
  by_cases e:k=j
  ·rw[if_pos e.symm];exact dw (p:=(k,y)) e
  ·rw[if_neg (fun z=>e z.symm)];exact dz (p:=(k,y)) e
 |p::r,hn=>by
  rw[NZ];have hk:¬p.1=k:=fun z=>by rw[dw z]at hn;cases hn
  rw[dz hk]at hn;have ih:=tD k j y r hn;by_cases e:p.1=j
  ·rw[dw e,dw e,if_neg (fun z=>hk (e.trans z))]
  ·rw[dz e,dz e,ih]
theorem BE(kvs:List (κ×V))(k j:κ)(y:V):eI (lD kvs k y) j=if j=k then some y else eI kvs j:=by
 unfold lD;by_cases a:(kvs.any fun kv=>decide (kv.1=k))=true
 ·rw[if_pos a,vB]
  rw[oX]at a;by_cases e:j=k
  ·obtain⟨x,hx⟩:=Lx.mp a
   rw[if_pos e,e,hx,JG,if_pos rfl]
  ·rw[if_neg e]
   cases eI kvs j with
   |none=>rfl
   |some x=>rw[JG,if_neg e]
 ·rw[if_neg a]
  refine tD k j y kvs ?_;rw[oX]at a;cases q:eI kvs k with
  |none=>rfl
  |some x=>rw[q]at a;exact(a rfl).elim
theorem kr(kvs:List (κ×V))(k:κ)(v:V):(lD kvs k v).length<=kvs.length+1:=by
 unfold lD
 split
 ·rw[FQ];omega
 ·rw[Ga,Gm,Oh];omega
theorem eG.isSome_eq{o:Option V}{u:Option Value}(r:eG o u):o.isSome=u.isSome:=by
 cases o with
 |none=>cases u with
  |none=>rfl
  |some _=>exact(show False from r).elim
 |some _=>cases u with
  |none=>exact(show False from r).elim
  |some _=>rfl
theorem eG.getD{o:Option V}{u:Option Value}{d:V}{d':Value}(r:eG o u)(rd:aB d d'):aB (o.getD d) (u.getD d'):=by
 cases o with
 |none=>cases u with
  |none=>exact rd
  |some _=>exact(show False from r).elim
 |some _=>cases u with
  |none=>exact(show False from r).elim
  |some _=>exact r
theorem KV.val{kvs:List (κ×V)}{vs:List (κ×Value)}(r:KV kvs vs)(k:κ):eG (eI kvs k) (valueAt vs k):=by
 unfold KV at r
 induction r with
 |nil=>exact IE
 | @cons p q ps qs h t ih=>
  obtain⟨h1,h2⟩:=h;by_cases e:p.1=k
  ·have e':q.1=k:=h1.symm.trans e
   have b:valueAt (q::qs) k=some q.2:=by simp[valueAt,Gu,e']
   rw[dw e,b];exact h2
  ·have e':¬q.1=k:=fun z=>e (h1.trans z)
   have b:valueAt (q::qs) k=valueAt qs k:=by simp[valueAt,Gu,e']
   rw[dz e,b];exact ih
theorem KV.any{kvs:List (κ×V)}{vs:List (κ×Value)}(r:KV kvs vs)(k:κ):(kvs.any fun kv=>decide (kv.1=k))=vs.any fun kv=>decide (kv.1=k):=by
 unfold KV at r
 induction r with
 |nil=>rfl
 |cons h t ih=>rw[J8,J8,ih,h.1]
theorem KV.repl{kvs:List (κ×V)}{vs:List (κ×Value)}(r:KV kvs vs)(k:κ){y:V}{u:Value}(ry:aB y u):
  KV (kvs.map fun kv=>if kv.1=k then(kv.1,y)else kv) (vs.map fun kv=>if kv.1=k then(kv.1,u)else kv):=by
 unfold KV at r ⊢
 induction r with
 |nil=>exact .nil
 | @cons p q ps qs h t ih=>
  rw[F6,F6];refine .cons ?_ ih;obtain⟨h1,h2⟩:=h;by_cases e:p.1=k
  ·rw[if_pos e,if_pos (h1.symm.trans e)];exact⟨h1,ry⟩
  ·rw[if_neg e,if_neg (fun z=>e (h1.trans z))];exact⟨h1,h2⟩
theorem KV.put{kvs:List (κ×V)}{vs:List (κ×Value)}(r:KV kvs vs)(k:κ){y:V}{u:Value}(ry:aB y u):KV (lD kvs k y) (stored vs k u):=by
 unfold lD stored;rw[r.any k];by_cases e:(vs.any fun kv=>decide (kv.1=k))=true
 ·rw[if_pos e,if_pos e];exact r.repl k ry
 ·rw[if_neg e,if_neg e];exact Paired.snoc r ⟨rfl,ry⟩
theorem KV.length{kvs:List (κ×V)}{vs:List (κ×Value)}(r:KV kvs vs):kvs.length=vs.length:=GJ r
end
theorem CD{P:Program}{w:World}{k:Key}{u:Value}(r:aB (kV k) u):(gr P w).is k u=true:=by
 cases k with
 |inl i=>obtain⟨t,e⟩:=(show∃t,u=Jv i t from r);subst e;exact wS P w i t
 |inr x=>obtain⟨t,e⟩:=(show∃t,u=LR x t from r);subst e;exact bf P w x t
noncomputable abbrev KT(H:Hp):List (List Key×V)->List (List Key×Addr×Value)->Prop:=Paired fun p q=>p.1=q.1/\H q.2.1=some (.tup (p.1.map kV))/\aB p.2 q.2.2
theorem KT.keeps{H H':Hp}{kvs:List (List Key×V)}{xs:List (List Key×Addr×Value)}(r:KT H kvs xs)(ht:∀b ys,H b=some (.tup ys)->H' b=some (.tup ys)):KT H' kvs xs:=
 Paired.mapP r fun _ _ z=>⟨z.1,ht _ _ z.2.1,z.2.2⟩
section
variable{P:Program}{w:World}{H:Hp}{h:Heap}{a:Addr}
end
section
variable{X:Cx}{pins:List (Addr×Obj)}{σ:St}{H:Hp}{s:Shared}{a:Addr}{y v:V}{u r:Value}{o:Option V}{A:Around}{E:Value->Shared->Prop}
theorem Inv.big(I:Inv X pins σ H s):HH<s.heap.objs.size:=by
 have h:Gn<s.heap.objs.size:=(I.mod.glob.keeps I.bk).lt;exact Nat.lt_trans (by decide) h
theorem xL{h':Heap}{t':Nat}{ob:HO}(I:Inv X pins σ H s)(mu:Mut (H a))(hs:Gp a s.heap h')(he:∃q,h'.get? a=some q)(new:br X.prog X.w (upd H a ob) h' a ob):
  Inv X pins σ (upd H a ob) { s with heap:=h',toks:=t' }:=
 I.write (x:=a) (e:=a) mu (.inl rfl) (fun b q hb z=>(hs.2 b hb).trans z) he new
end
section
variable{X:Cx}{pins:List (Addr×Obj)}{σ:St}{H:Hp}{s:Shared}{a:Addr}{kvs:List (Key×V)}{k:Key}{u:Value}{A:Around}{E:Value->Shared->Prop}
end
noncomputable def BF(i:Expr):Prop:=∀ov iv,L9 i false ov iv=operate [ov,iv] (getItem ov iv)
theorem xM{prog:Program}{w:World}{A:Around}{E:Value->Shared->Prop}{s:Shared}{env:Env}{value slice:Expr}{pos:Pos}{T id:String}{Q:Value->Shared->Prop}
  (hl:Mw (.type T) "__getitem__"=pure (some (.builtin id))) (hs:BF slice)
  (h:wpAny (model prog w) A (eval value env) (fun o s₁=>wpAny (model prog w) A (eval slice env) (fun i s₂=>s₂.TypeIs o T/\wpAny (model prog w) A (getItem o i) Q E s₂) E s₁) E s):
  wpAny (model prog w) A (eval (.Subscript value slice pos) env) Q E s:=by
 refine N8 (Hd h (fun o s₁ h₁=>Hd h₁ (fun i s₂ h₂=>?_) fun _ _ x=>x) fun _ _ x=>x);obtain⟨hT,h₂⟩:=h₂;unfold MQ;refine FM ?_;rw[getitemInPython_of_ne hT.not_modules];refine FM (Hk hT hl ?_);have fin:wpAny (model prog w) A (L9 slice false o i) (fun r s₃=>wpAny (model prog w) A (letTemporaryGo value o r>>=fun _=>pure r) Q E s₃) E s₂:=by
  rw[hs o i];exact wpAny_operating (Hd h₂ (fun r s₃ h₃=>FM (wpAny_letTemporaryGo (FT h₃))) fun _ _ x=>x)
 first
  |exact FT (FM fin)
  |exact FM (FT (FM fin))
  |exact FM fin
section
variable{X:Cx}{o i e value:Expr}{pos pos' tpos:Pos}{td ty tv:TE}
end
section
variable{X:Cx}{pos:Pos}
end
structure M2(X:Cx)(o:Expr)(m:Str)(apos:Pos)(e f:Expr)(cpos:Pos):Prop where
 base:Jz o m X.env (eval o X.env)=eval o X.env
 few:((backTo cpos (Gf [e,f] X.env)).all (fun x=>!x.1)&&(Kc cpos (Jl [] X.env)).all (fun x=>x.1.isSome)
  &&decide (([e,f]:List Expr).length+([]:List Keyword).length+(if([]:List Keyword).isEmpty then 0 else 1)<30))=true
 line:(apos.endLine==cpos.line)=true
 trees:backTo cpos (Gf [e,f] X.env)=[(false,eval e X.env),(false,eval f X.env)]
section
variable{X:Cx}{pins:List (Addr×Obj)}{σ:St}{H:Hp}{s:Shared}{a:Addr}{y d:V}{u r:Value}{o:Option V}{A:Around}{E:Value->Shared->Prop}
end
section
variable{X:Cx}{o e f:Expr}{apos cpos:Pos}{td ty tx:TE}
end
section
variable{X:Cx}{pins:List (Addr×Obj)}{σ:St}{H:Hp}{s:Shared}{a:Addr}{kvs:List (Key×V)}{A:Around}{E:Value->Shared->Prop}
end
section
variable{X:Cx}{pins:List (Addr×Obj)}{σ:St}{H:Hp}{s:Shared}{a:Addr}{y:V}{u:Value}{A:Around}{E:Value->Shared->Prop}
end
end
section
open PySem.Spec
section
variable{prog:Program}{w:World}{A:Around}{E:Value->Shared->Prop}{s:Shared}
theorem oy{b:Bool}{Q:Int->Shared->Prop}(h:Q (hashInt (if b then 1 else 0)) { s with toks:=s.toks+1 }):wpAny (model prog w) A (pyHash (.bool b)) Q E s:=by
 have hr:=rawHash_range (if b then 1 else 0);unfold pyHash;have hv:[G4 b].any Value.onHeap=false:=rfl;refine FM ?_;rw[cRoomFor,if_neg (by rw[hv];exact F3)];refine FT ?_;have hT:s.TypeIs (.bool b) "bool":=rfl;refine FM (Hk hT Jn.lookup ?_);show wpAny _ _ (if(some (MR "int.__hash__")==some Hz)=true then _ else _) Q E s;rw[if_neg (by rw[LF];exact F3)];refine FM (Hk hT Jn.lookup ?_);show wpAny _ _ (Jo (.bool b) "__hash__" _>>=_) Q E s;refine FM (Iu hT Jn (G0 Jn hT entry_int_hash ?_ (args_int_hash _)));cases b with
 |true=>
  refine(show wpAny _ _ (do ret (<-mkInt (rawHash 1))) _ _ s from Ku ?_);show wpAny _ _ (if(decide (-(2:Int)^63<=rawHash 1)&&decide (rawHash 1<2^63))=true then _ else _) Q E _;rw[if_pos (by decide)];exact FT h
 |false=>
  refine(show wpAny _ _ (do ret (<-mkInt (rawHash 0))) _ _ s from Ku ?_);show wpAny _ _ (if(decide (-(2:Int)^63<=rawHash 0)&&decide (rawHash 0<2^63))=true then _ else _) Q E _;rw[if_pos (by decide)];exact FT h
theorem oz{Q:Int->Shared->Prop}(h:Q 4238894112 { s with toks:=s.toks+1 }):wpAny (model prog w) A (pyHash .none) Q E s:=by
 unfold pyHash;have hv:[Hz].any Value.onHeap=false:=rfl;refine FM ?_;rw[cRoomFor,if_neg (by rw[hv];exact F3)];refine FT ?_;have hT:s.TypeIs .none "NoneType":=rfl;refine FM (Hk hT IP.lookup ?_);show wpAny _ _ (if(some (MR "NoneType.__hash__")==some Hz)=true then _ else _) Q E s;rw[if_neg (by rw[LF];exact F3)];refine FM (Hk hT IP.lookup ?_);show wpAny _ _ (Jo .none "__hash__" _>>=_) Q E s;refine FM (Iu hT IP (G0 IP hT PySem.F.entry_NoneType_hash ?_ (PySem.F.args_NoneType_hash_1 _)));refine(show wpAny _ _ (do ret (<-mkInt 4238894112)) _ _ s from Ku ?_);show wpAny _ _ (if(decide (-(2:Int)^63<=4238894112)&&decide ((4238894112:Int)<2^63))=true then _ else _) Q E _;rw[if_pos (by decide)];exact FT h
end
noncomputable def vC:IA->Int
 |none=>4238894112
 |some i=>hashInt i
noncomputable def lE:IA->Value->Bool
 |none,.none=>true
 |some i,.int j _=>i==j
 |some i,.bool b=>i==(if b then 1 else 0)
 |_,_=>false
theorem cY{k:IA}{v:Value}(h:lE k v=true):(k=none/\v=.none)\/(∃i t,k=some i/\v=.int i t)\/∃b,k=some (if b then 1 else 0)/\v=.bool b:=by
 rcases k with _|i<;>cases v<;>(delta lE at h;simp at h)
 ·exact .inl ⟨rfl,rfl⟩
 ·subst h;exact .inr (.inr ⟨_,rfl,rfl⟩)
 ·subst h;exact .inr (.inl ⟨_,_,rfl,rfl⟩)
noncomputable def cu(prog:Program)(w:World):PySem.KeyKind prog w IA where
 is:=lE
 hash:=vC
 inj:=fun v a b ha hb=>by
  rcases cY ha with⟨rfl,rfl⟩|⟨i,t,rfl,rfl⟩|⟨c,rfl,rfl⟩<;>rcases cY hb with⟨rfl,e⟩|⟨j,u,rfl,e⟩|⟨d,rfl,e⟩<;>first|rfl| (cases e;rfl)|cases e
 byValue:=fun k v h=>by
  rcases cY h with⟨rfl,rfl⟩|⟨i,t,rfl,rfl⟩|⟨c,rfl,rfl⟩<;>rfl
 pyHash:=fun hv h=>by
  rcases cY hv with⟨rfl,rfl⟩|⟨i,t,rfl,rfl⟩|⟨c,rfl,rfl⟩
  ·exact oz h
  ·exact NO h
  ·exact oy h
 eqBool:=fun{A E s a b u v Q} hu hv h=>by
  rcases cY hu with⟨rfl,rfl⟩|⟨i,t,rfl,rfl⟩|⟨c,rfl,rfl⟩<;>rcases cY hv with⟨rfl,rfl⟩|⟨j,u,rfl,rfl⟩|⟨d,rfl,rfl⟩
  ·exact LW _ _ _ _ _ (by simpa using h)
  ·exact MU _ _ _ _ _ _ (by simpa using h)
  ·exact Mx _ _ _ _ _ (by simpa using h)
  ·exact MW _ _ _ _ _ _ (by simpa using h)
  ·exact Ng _ _ _ _ _ _ _ _ (by simpa[Kj]using h)
  ·exact MX _ _ _ _ _ _ _ (by simpa[Kj]using h)
  ·exact My _ _ _ _ _ (by simpa using h)
  ·exact MV _ _ _ _ _ _ _ (by simpa[Kj]using h)
  ·refine Mz _ _ _ _ _ _ ?_
   cases c<;>cases d<;>simpa using h
 «strs»:=fun k x t v h=>by
  rcases cY h with⟨rfl,e⟩|⟨i,u,rfl,e⟩|⟨c,rfl,e⟩<;>cases e
noncomputable def jS:IK->Int
 | .inl a=>vC a
 | .inr as=>Oi (Hc (as.map vC))
noncomputable def uH(is:List IK):Int:=Oi (Hc (is.map jS))
noncomputable def kO:IK->Nat
 | .inl _=>1
 | .inr as=>as.length+1
section
variable(prog:Program)(w:World)
noncomputable def cy(h:Heap):IK->Value->Prop
 | .inl a,v=>lE a v=true
 | .inr as,v=>∃b,v=.ref b/\Oj (cu prog w) h as b
noncomputable def fJ(h:Heap)(is:List IK)(a:Addr):Prop:=∃o items n,h.get? a=some o/\o.cls=.type "tuple"/\o.data=.seq items n/\Paired (cy prog w h) is items.toList
end
section
variable{prog:Program}{w:World}
theorem cy.inj{h:Heap}{x y:IK}{v:Value}(hx:cy prog w h x v)(hy:cy prog w h y v):x=y:=by
 cases x with
 |inl a=>cases y with
  |inl b=>rw[(cu prog w).inj v a b hx hy]
  |inr bs=>
   obtain⟨c,rfl,_⟩:=hy;rcases cY hx with⟨_,e⟩|⟨_,_,_,e⟩|⟨_,_,e⟩<;>cases e
 |inr as=>cases y with
  |inl b=>
   obtain⟨c,rfl,_⟩:=hx;rcases cY hy with⟨_,e⟩|⟨_,_,_,e⟩|⟨_,_,e⟩<;>cases e
  |inr bs=>
   obtain⟨c,rfl,h1⟩:=hx;obtain⟨d,e,h2⟩:=hy;cases e;rw[h1.inj h2]
theorem Aq{h:Heap}{xs ys:List IK}{vs:List Value}(p:Paired (cy prog w h) xs vs):Paired (cy prog w h) ys vs->xs=ys:=by
 induction p generalizing ys with
 |nil=>intro q;cases q;rfl
 |cons a t ih=>intro q;cases q with
  |cons b u=>rw[a.inj b,ih u]
theorem fJ.inj{h:Heap}{a:Addr}{x y:List IK}(hx:fJ prog w h x a)(hy:fJ prog w h y a):x=y:=by
 obtain⟨o,items,n,ho,_,hd,hi⟩:=hx;obtain⟨o',items',n',ho',_,hd',hi'⟩:=hy;obtain rfl:o=o':=F1 (ho.symm.trans ho');rw[hd]at hd';injection hd' with h1 _
 subst h1;exact Aq hi hi'
theorem cy.keeps{h h':Heap}{k:IK}{v:Value}{d:Addr}{o:Obj}{es ep}(x:cy prog w h k v)(ho:h.get? d=some o)(hd:o.data=.dict es ep)(hs:Gp d h h'):cy prog w h' k v:=by
 cases k with
 |inl a=>exact x
 |inr as=>obtain⟨b,e,q⟩:=x;exact⟨b,e,q.keeps ho hd hs⟩
theorem fJ.keeps{h h':Heap}{ks:List IK}{a d:Addr}{o:Obj}{es ep}(x:fJ prog w h ks a)(ho:h.get? d=some o)(hd:o.data=.dict es ep)(hs:Gp d h h'):fJ prog w h' ks a:=by
 obtain⟨o',items,n,ho',hc,hd',hi⟩:=x;have hne:a≠d:=by
  rintro rfl;obtain rfl:o'=o:=F1 (ho'.symm.trans ho);rw[hd]at hd';exact nomatch hd'
 exact⟨o',items,n,(hs.2 a hne).trans ho',hc,hd',Paired.mapP hi fun _ _ z=>z.keeps ho hd hs⟩
theorem fJ.typeIs{s:Shared}{ks:List IK}{a:Addr}(x:fJ prog w s.heap ks a):s.TypeIs (.ref a) "tuple":=let⟨o,_,_,ho,hc,_⟩:=x;⟨o,ho,hc⟩
theorem pX{h:Heap}{ks:List IA}{a:Addr}(x:Oj (cu prog w) h ks a):∃items,h.IsTuple a items:=let⟨o,items,n,h1,h2,h3,_⟩:=x;⟨items,o,h1,h2,n,h3⟩
variable{A:Around}{E:Value->Shared->Prop}{s:Shared}
theorem Ar{k:IK}{v:Value}{Q:Int->Shared->Prop}(hu:A.units<cLine)(hk:cy prog w s.heap k v)(h:Q (jS k) { s with toks:=s.toks+kO k }):wpAny (model prog w) A (pyHash v) Q E s:=by
 cases k with
 |inl a=>exact(cu prog w).pyHash (k:=a) hk h
 |inr as=>
  obtain⟨b,rfl,q⟩:=hk;exact wpAny_pyHash_tuple (knd:=cu prog w) hu q h
theorem BG{a:IA}{v:Value}{b:Addr}{items:Array Value}{Q:Bool->Shared->Prop}(hu:A.units<cLine)(hk:lE a v=true)(ht:s.heap.IsTuple b items)(h:Q false s):wpAny (model prog w) A (Ni v (.ref b)) Q E s:=by
 rcases cY hk with⟨rfl,rfl⟩|⟨i,t,rfl,rfl⟩|⟨c,rfl,rfl⟩
 ·exact Gq.none_tuple ht hu _ _ _ _ h
 ·exact Gq.int_tuple _ _ ht hu _ _ _ _ h
 ·exact Gq.bool_tuple _ ht hu _ _ _ _ h
theorem BH{a:IA}{v:Value}{b:Addr}{items:Array Value}{Q:Bool->Shared->Prop}(hu:A.units<cLine)(hk:lE a v=true)(ht:s.heap.IsTuple b items)(h:Q false s):wpAny (model prog w) A (Ni (.ref b) v) Q E s:=by
 rcases cY hk with⟨rfl,rfl⟩|⟨i,t,rfl,rfl⟩|⟨c,rfl,rfl⟩
 ·exact Gq.tuple_none ht hu _ _ _ _ h
 ·exact Gq.tuple_int _ _ ht hu _ _ _ _ h
 ·exact Gq.tuple_bool _ ht hu _ _ _ _ h
theorem Df{x y:IK}{u v:Value}{Q:Bool->Shared->Prop}(hu:A.units<cLine)(hx:cy prog w s.heap x u)(hy:cy prog w s.heap y v)(h:Q (decide (x=y)) s):wpAny (model prog w) A (Ni u v) Q E s:=by
 cases x with
 |inl a=>cases y with
  |inl b=>
   refine(cu prog w).eqBool (a:=a) (b:=b) hx hy ?_;rw[show decide (a=b)=decide ((IB a:IK)=IB b)from decide_eq_decide.mpr ⟨fun e=>by rw[e],fun e=>NG e⟩];exact h
  |inr bs=>
   obtain⟨c,rfl,q⟩:=hy;obtain⟨items,ht⟩:=pX q;refine BG hu hx ht ?_;rw[decide_eq_false (fun e=>nomatch e)]at h;exact h
 |inr as=>cases y with
  |inl b=>
   obtain⟨c,rfl,q⟩:=hx;obtain⟨items,ht⟩:=pX q;refine BH hu hy ht ?_;rw[decide_eq_false (fun e=>nomatch e)]at h;exact h
  |inr bs=>
   obtain⟨c,rfl,q⟩:=hx;obtain⟨d,rfl,q'⟩:=hy;refine wpAny_eqBool_tuple (knd:=cu prog w) hu q q' ?_;rw[show decide (as=bs)=decide ((Ht as:IK)=Ht bs)from decide_eq_decide.mpr ⟨fun e=>by rw[e],fun e=>JD e⟩];exact h
noncomputable def vD(ks:List IK):Nat:=(ks.map kO).sum+1
theorem As{ks:List IK}{a:Addr}{Q:Int->Shared->Prop}(hu:A.units+1<cLine)(hk:fJ prog w s.heap ks a)(h:Q (uH ks) { s with toks:=s.toks+vD ks }):
  wpAny (model prog w) A (pyHash (.ref a)) Q E s:=by
 have hT:=hk.typeIs;obtain⟨o,items,n,ho,_,hd,hi⟩:=hk;have hu0:A.units<cLine:=by omega
 unfold pyHash
 first|unfold pyHashByItsType|skip
 first|refine FM (wpAny_cRoomFor_or (.inr hu0) ?_)|skip
 refine FM (Hk hT J1.lookup ?_);show wpAny _ _ (if(some (MR "tuple.__hash__")==some Hz)=true then _ else _) Q E s;rw[if_neg (by rw[LF];exact F3)];refine FM (Hk hT J1.lookup ?_);show wpAny _ _ (Jo (.ref a) "__hash__" _>>=_) Q E s;refine FM (Iu hT J1 (G0 J1 hT F.entry_tuple_hash ?_ (F.args_tuple_hash_1 _)));show wpAny _ _ (Lg (.ref a)>>=_) _ _ s;refine FM (K6 ho hd ?_);refine FM ?_;rw[<-Ji];refine Kf _
  (fun cB (b:Array Int) s'=>∃done left,ks=done++left/\Paired (cy prog w s.heap) left cB/\b.toList=done.map jS/\s'={ s with toks:=s.toks+(done.map kO).sum })
  _ ?_ ?_ _ _ ⟨[],ks,rfl,hi,rfl,rfl⟩
 ·rintro x cB b s' ⟨done,left,rfl,hl,hb,rfl⟩
  cases hl with
  | @cons k _ ks' _ h1 hl'=>
   refine FM (Ar (k:=k) hu h1 ?_);have e:(done.map kO).sum+kO k=((done++[k]).map kO).sum:=by simp
   first
    |exact FT ⟨done++[k],ks',by simp,hl',by simp[hb],by rw[<-e];simp[Lj]⟩
    |exact FM (FT (FT ⟨done++[k],ks',by simp,hl',by simp[hb],by rw[<-e];simp[Lj]⟩))
 ·rintro b s' ⟨done,left,rfl,hl,hb,rfl⟩
  cases hl;rw[II]at h;show wpAny _ _ (retInt (Hc b.toList)) _ _ _;rw[hb];refine Ku ?_;show wpAny _ _ (if(decide (-(2:Int)^63<=Hc (done.map jS))&&decide (Hc (done.map jS)<2^63))=true then _ else _) Q E _;unfold uH Oi vD at h;by_cases hr:(decide (-(2:Int)^63<=Hc (done.map jS))&&decide (Hc (done.map jS)<2^63))=true
  ·rw[if_pos hr]
   rw[if_pos hr]at h;exact FT (by simpa[Lj]using h)
  ·rw[if_neg hr]
   rw[if_neg hr]at h;exact FM (Jw (FT (by simpa[Lj]using h)))
theorem yy{x y:List IK}{a b:Addr}{P:Fin->Shared->Prop}(hu:A.units<cLine)(hx:fJ prog w s.heap x a)(hy:fJ prog w s.heap y b)(h:P (.done (.ret (.bool (decide (x=y))))) s):
  wpAny (model prog w) A (Builtin.«tuple.__eq__» ⟨[.ref a,.ref b],[]⟩) P E s:=by
 have hTb:=hy.typeIs;obtain⟨oa,xs,na,hoa,_,hda,hia⟩:=hx;obtain⟨ob,ys,nb,hob,_,hdb,hib⟩:=hy;show wpAny _ _ (Ol (.ref b) (.type "tuple")>>=_) _ _ s;refine FM (IZ hTb Kk ?_);simp only[JB,GY,if_false];refine FM (K6 hoa hda ?_);refine FM (K6 hob hdb ?_);refine FM ?_;refine Kf _
  (fun cB r s'=>r.1=none/\s'=s/\∃x' y' xs' ys',cB=List.zip xs' ys'/\Paired (cy prog w s.heap) x' xs'/\Paired (cy prog w s.heap) y' ys'/\decide (x'=y')=decide (x=y)/\(xs'.length==ys'.length)=(xs.size==ys.size))
  _ ?_ ?_ _ _ ⟨rfl,rfl,x,y,xs.toList,ys.toList,rfl,hia,hib,rfl,by simp⟩
 ·rintro⟨u,v⟩ cB r s' ⟨hr,rfl,x',y',xs',ys',hz,hx',hy',hdec,hlen⟩
  cases hx' with
  |nil=>simp at hz
  | @cons k1 u' x'' xs'' h1 hx''=>
   cases hy' with
   |nil=>simp at hz
   | @cons k2 v' y'' ys'' h2 hy''=>
    simp only[Ha,LY,Prod.mk.injEq]at hz;obtain⟨⟨rfl,rfl⟩,rfl⟩:=hz;refine FM (Df (x:=k1) (y:=k2) hu h1 h2 ?_);by_cases hk:k1=k2
    ·subst hk
     rw[decide_eq_true rfl];simp only[JB,GY,if_false];refine FT ⟨rfl,rfl,x'',y'',xs'',ys'',rfl,hx'',hy'',?_,by simpa using hlen⟩;rw[<-hdec];by_cases hxy:x''=y''
     ·simp[hxy]
     ·simp[hxy]
    ·rw[decide_eq_false hk]
     simp only[Bool.not_false,if_true];have hf:decide (x=y)=false:=by rw[<-hdec];simp[hk]
     rw[hf]at h;exact FM (FT (FT (FT h)))
 ·rintro⟨r1,r2⟩ s' ⟨hr,rfl,x',y',xs',ys',hz,hx',hy',hdec,hlen⟩
  simp only at hr;subst hr;refine FT ?_;have hfin:(xs.size==ys.size)=decide (x=y):=by
   rw[<-hdec,<-hlen];cases hx' with
   |nil=>
    cases hy' with
    |nil=>simp
    |cons _ _=>simp
   |cons _ _=>
    cases hy' with
    |nil=>simp
    |cons _ _=>simp at hz
  show P (.done (.ret (.bool (xs.size==ys.size)))) s';rw[hfin];exact h
theorem At{x y:List IK}{a b:Addr}{Q:Bool->Shared->Prop}(hu:A.units+1<cLine)(hx:fJ prog w s.heap x a)(hy:fJ prog w s.heap y b)(h:Q (decide (x=y)) s):
  wpAny (model prog w) A (eqBool (.ref a) (.ref b)) Q E s:=by
 unfold eqBool
 try with_reducible refine HX ?_
 show wpAny _ _ (if(Gi a==Gi b)=true then _ else _) Q E s;by_cases hab:(Gi a==Gi b)=true
 ·rw[if_pos hab]
  have e:a=b:=by have:=eq_of_beq hab;injection this
  subst e;obtain rfl:=hx.inj hy;exact FM (Jw (FT (by simpa using h)))
 ·rw[if_neg hab]
  exact FM (wpAny_richCompare_same_room (op:=.Eq) hx.typeIs hy.typeIs Kv
   (G0 Kv hx.typeIs F.entry_tuple_eq (yy hu hx hy ⟨_,rfl,(fun e=>nomatch e),Ic h⟩) (F.args_tuple_eq_2 _ _)) (by omega))
theorem wZ{n:Nat}{ks:List IA}{a:Addr}{Q:Bool->Shared->Prop}(hk:Oj (cu prog w) s.heap ks a)(h:Q true s):wpAny (model prog w) A (LZ (n+1) (.ref a)) Q E s:=by
 have hT:=hk.typeIs;obtain⟨o,items,_,ho,_,hd,hi⟩:=hk;unfold LZ;refine FM (Hk hT Kv.lookup ?_);show wpAny _ _ (Ol (.ref a) (.type "tuple")>>=_) _ _ s;refine FM (IZ hT Kk ?_);simp only[JB,GY,if_false];refine FM (G7 ho hd ?_);refine FM ?_;show wpAny _ _ (forIn items _ _) _ _ s;rw[<-Ji];refine Kf _ (fun cB r s'=>r.1=none/\s'=s/\∀v∈cB,carriedByValue v=true) _ ?_ ?_ _ _ ⟨rfl,rfl,hi.byValue⟩
 ·rintro v cB r s' ⟨hr,rfl,hall⟩
  rw[Ny _ (hall v F2)];refine FM (FT ?_);simp only[JB,GY,if_false];exact FT ⟨rfl,rfl,fun u hu'=>hall u (FX _ hu')⟩
 ·rintro⟨r1,r2⟩ s' ⟨hr,rfl,_⟩
  simp only at hr;subst hr;exact FT h
theorem BI{ks:List IK}{a:Addr}{Q:Bool->Shared->Prop}(hk:fJ prog w s.heap ks a)(h:Q true s):wpAny (model prog w) A (LZ 8 (.ref a)) Q E s:=by
 have hT:=hk.typeIs;obtain⟨o,items,n,ho,_,hd,hi⟩:=hk;unfold LZ;refine FM (Hk hT Kv.lookup ?_);show wpAny _ _ (Ol (.ref a) (.type "tuple")>>=_) _ _ s;refine FM (IZ hT Kk ?_);simp only[JB,GY,if_false];refine FM (G7 ho hd ?_);refine FM ?_;show wpAny _ _ (forIn items _ _) _ _ s;rw[<-Ji];refine Kf _ (fun cB r s'=>r.1=none/\s'=s/\∃ks,Paired (cy prog w s.heap) ks cB) _ ?_ ?_ _ _ ⟨rfl,rfl,ks,hi⟩
 ·rintro v cB r s' ⟨hr,rfl,ks,hall⟩
  cases hall with
  | @cons k _ ks' _ h1 hl=>
   refine FM ?_;have fin:wpAny (model prog w) A (LZ 7 v) (fun b s2=>b=true/\s2=s') E s':=by
    cases k with
    |inl a'=>rw[Ny _ ((cu prog w).byValue _ _ h1)];exact FT ⟨rfl,rfl⟩
    |inr as=>obtain⟨b,rfl,q⟩:=h1;exact wZ (n:=6) q ⟨rfl,rfl⟩
   refine Hd fin (fun b s2 ⟨e1,e2⟩=>?_) fun _ _ x=>x;subst e1 e2;simp only[JB,GY,if_false];exact FT ⟨rfl,rfl,ks',hl⟩
 ·rintro⟨r1,r2⟩ s' ⟨hr,rfl,_⟩
  simp only at hr;subst hr;exact FT h
end
noncomputable def kP(prog:Program)(w:World):HeapKind prog w (List IK) where
 is:=fJ prog w
 hash:=uH
 draws:=vD
 room:=fun A=>A.units+1<cLine
 inj:=fun hx hy=>hx.inj hy
 keeps:=fun x ho hd hs=>x.keeps ho hd hs
 pyHash:=fun hu hk h=>As hu hk h
 eqBool:=fun hu hx hy h=>At hu hx hy h
 quiet:=fun hk h=>BI hk h
noncomputable def DA(a:Addr)(kvs:List (IA×V))(h:Heap):Prop:=kvs.length<=FY/\(a==HH)=false/\∃(P:Program)(w:World)(vs:List (IA×Value)),KV kvs vs/\h.DictOf (cu P w) a vs
noncomputable def ZX:List (List IK×Addr×V)->List (List IK×Addr×Value)->Prop:=Paired fun z x=>z.1=x.1/\z.2.1=x.2.1/\aB z.2.2 x.2.2
noncomputable def DB(a:Addr)(zs:List (List IK×Addr×V))(h:Heap):Prop:=zs.length<=FY/\(a==HH)=false/\∃xs:List (List IK×Addr×Value),ZX zs xs/\
 ∃o es ep,h.get? a=some o/\o.ExactDict/\o.data=.dict es ep/\es.toList=xs.map (fun x=>⟨uH x.1,.ref x.2.1,x.2.2⟩)/\(xs.map (·.1)).Nodup
noncomputable def dA(a:Addr)(kvs:List (IA×V)):HO:=.ext (DA a kvs)
noncomputable def dB(a:Addr)(zs:List (List IK×Addr×V)):HO:=.ext (DB a zs)
noncomputable def atZ(zs:List (List IK×Addr×V))(k:List IK):Option V:=(zs.find? fun p=>decide (p.1=k)).map (·.2.2)
noncomputable def Dx(H:Hp)(a:Addr)(s:Bool)(f:MK->Option V)(n:Nat):Prop:=
 (s=false/\∃kvs,H a=some (dA a kvs)/\(∀k,eI kvs k=f (.inl k))/\kvs.length<=n)\/
 (s=true/\∃zs,H a=some (dB a zs)/\(∀z∈zs,ca H (.ref z.2.1) (.inr z.1))/\(∀k,atZ zs k=f (.inr k))/\zs.length<=n)
section
variable{H H':Hp}{a b:Addr}{s:Bool}{f g:MK->Option V}{n m:Nat}
theorem Dx.ext(h:Dx H a s f n):∃φ,H a=some (.ext φ):=by
 rcases h with⟨_,kvs,e,_⟩|⟨_,zs,e,_⟩
 ·exact⟨_,e⟩
 ·exact⟨_,e⟩
theorem Dx.keep(h:Dx H a s f n)(e:H' a=H a)(kp:dg H H'):Dx H' a s f n:=by
 rcases h with⟨hs,kvs,h1,h2⟩|⟨hs,zs,h1,h2,h3⟩
 ·exact .inl ⟨hs,kvs,e.trans h1,h2⟩
 ·exact .inr ⟨hs,zs,e.trans h1,fun z hz=>(h2 z hz).keep kp,h3⟩
theorem Dx.same(h:Dx H a s f n)(q:ah H H'):Dx H' a s f n:=by
 obtain⟨φ,h1⟩:=h.ext;exact h.keep ((q _ _ h1).trans h1.symm) q.keep
theorem Dx.ne_lst{xs:List V}(h:Dx H a s f n)(e:H b=some (.lst xs)):b≠a:=by
 obtain⟨φ,h1⟩:=h.ext;exact yd e h1 (fun z=>nomatch z)
theorem Dx.le(h:Dx H a s f n)(e:n<=m):Dx H a s f m:=by
 rcases h with⟨hs,kvs,h1,h2,h3⟩|⟨hs,zs,h1,h2,h3,h4⟩
 ·exact .inl ⟨hs,kvs,h1,h2,Gs h3 e⟩
 ·exact .inr ⟨hs,zs,h1,h2,h3,Gs h4 e⟩
theorem Dx.congr(h:Dx H a s f n)(e:∀k,f k=g k):Dx H a s g n:=by
 rcases h with⟨hs,kvs,h1,h2,h3⟩|⟨hs,zs,h1,h2,h3,h4⟩
 ·exact .inl ⟨hs,kvs,h1,fun k=>(h2 k).trans (e _),h3⟩
 ·exact .inr ⟨hs,zs,h1,h2,fun k=>(h3 k).trans (e _),h4⟩
end
end
theorem Dx.off{H H':Hp}{a l:Addr}{s:Bool}{f:MK->Option V}{n:Nat}{xs:List V}(h:Dx H a s f n)(e:H l=some (.lst xs))(o:Off l H H'):Dx H' a s f n:=
 h.keep (o a (h.ne_lst e).symm) (o.keep e)
noncomputable def pY:TE:=fun _ H Q=>∃s,∀p H',H p=none->ah H H'->Dx H' p s (fun _=>none) 0->Q (.ref p) H'
theorem xN{σ:St}{H:Hp}{Q:VK}(s:Bool)(h:∀p H',H p=none->ah H H'->Dx H' p s (fun _=>none) 0->Q (.ref p) H'):pY σ H Q:=⟨s,h⟩
noncomputable def uI:R2:=fun x y H Q=>∃a s f n k v,x=.ref a/\Dx H a s f n/\ca H y k/\gD k=s/\f k=some v/\Q v H
noncomputable def iI(f:MK->Option V)(k:MK)(v:V):MK->Option V:=fun j=>if j=k then some v else f j
noncomputable def yz:va:=fun o i v H R=>∃a s f n k,o=.ref a/\Dx H a s f n/\ca H i k/\gD k=s/\n<FY/\∀H',Off a H H'->Dx H' a s (iI f k v) (n+1)->R H'
noncomputable def vE:V->List V->Hp->VK->Prop:=fun x ys H Q=>∃a s f n k y v,x=.ref a/\ys=[y,v]/\Dx H a s f n/\ca H y k/\gD k=s/\n<FY/\(∀u,f k=some u->Q u H)/\
 (f k=none->∀H',Off a H H'->Dx H' a s (iI f k v) (n+1)->Q v H')
noncomputable def tXM(r:V->List V->Hp->VK->Prop)(to:TE)(t:TA):TE:=fun σ H Q=>to σ H fun x H1=>(∃a s f n,x=.ref a/\Dx H1 a s f n)/\t σ H1 fun ys H2=>r x ys H2 Q
section
variable{σ:St}{H:Hp}{Q:VK}{a:Addr}{s:Bool}{f:MK->Option V}{n:Nat}{k:MK}{y v:V}
theorem Au(d:Dx H a s f n)(hk:ca H y k)(hs:gD k=s)(e:f k=some v)(h:Q v H):uI (.ref a) y H Q:=⟨a,s,f,n,k,v,rfl,d,hk,hs,e,h⟩
theorem EA{R:Hp->Prop}(d:Dx H a s f n)(hk:ca H y k)(hs:gD k=s)(hn:n<FY)(h:∀H',Off a H H'->Dx H' a s (iI f k v) (n+1)->R H'):yz (.ref a) y v H R:=⟨a,s,f,n,k,rfl,d,hk,hs,hn,h⟩
theorem Dg(d:Dx H a s f n)(hk:ca H y k)(hs:gD k=s)(hn:n<FY)(h1:∀u,f k=some u->Q u H)(h2:f k=none->∀H',Off a H H'->Dx H' a s (iI f k v) (n+1)->Q v H'):vE (.ref a) [y,v] H Q:=⟨a,s,f,n,k,y,v,rfl,rfl,d,hk,hs,hn,h1,h2⟩
theorem FI{r:V->List V->Hp->VK->Prop}{to:TE}{t:TA}(h:to σ H fun x H1=>(∃a s f n,x=.ref a/\Dx H1 a s f n)/\t σ H1 fun ys H2=>r x ys H2 Q):tXM r to t σ H Q:=h
end
section
variable{α:Type}[DecidableEq α]{ks:List α}{i:Nat}{k:α}
noncomputable def dN(ks:List α)(i:Nat):α->Option V:=fun k=>if k∈ks.take i then some (.int (ks.idxOf k:Nat))else none
theorem yA(hk:ks[i]?=some k)(h:k∈ks.take i)(j:α):dN ks i j=dN ks (i+1) j:=by
 unfold dN;rw[cN hk];by_cases q:j∈ks.take i
 ·rw[if_pos q,if_pos (G8 _ q)]
 ·rw[if_neg q,if_neg]
  intro z;rcases Gv.mp z with z|z
  ·exact q z
  ·rw[FR.mp z]at q;exact q h
theorem pZ(hk:ks[i]?=some k)(h:k∉ks.take i)(j:α):(if j=k then some (V.int (i:Nat))else dN ks i j)=dN ks (i+1) j:=by
 unfold dN;rw[cN hk];by_cases q:j=k
 ·subst q
  rw[if_pos rfl,if_pos (by simp),tz hk h]
 ·rw[if_neg q]
  by_cases z:j∈ks.take i
  ·rw[if_pos z,if_pos (G8 _ z)]
  ·rw[if_neg z,if_neg]
   intro w;rcases Gv.mp w with w|w
   ·exact z w
   ·exact q (FR.mp w)
theorem mL(h:k∈ks.take i):dN ks i k=some (.int (ks.idxOf k:Nat)):=if_pos h
theorem w5(h:k∉ks.take i):dN ks i k=none:=if_neg h
theorem oE(k:α):none=dN ks 0 k:=(if_neg (by simp)).symm
theorem vF(hk:ks[i]?=some k):(aM ks).take (i+1)=(aM ks).take i++[ks.idxOf k]:=cN (by unfold aM;rw[FZ,hk];rfl)
end
end L2
section
namespace KM
noncomputable def aR:Nat->Nat
 |0=>1
 |n+1=>aR n*(n+1)
noncomputable def choose:Nat->Nat->Nat
 |_,0=>1
 |0,_+1=>0
 |n+1,k+1=>choose n k+choose n (k+1)
theorem gl:∀n,0<aR n
 |0=>by decide
 |n+1=>NK (gl n) (Nj n)
theorem iJ(n:Nat):choose n 0=1:=by cases n<;>rfl
theorem j9:∀(n k:Nat),n<k->choose n k=0
 |_,0,h=>absurd h (JH _)
 |0,_+1,_=>rfl
 |n+1,k+1,h=>by rw[choose,j9 n k (by omega),j9 n (k+1) (by omega)]
theorem oF:∀n,choose n n=1
 |0=>rfl
 |n+1=>by rw[choose,oF n,j9 n (n+1) (by omega)]
theorem fL:∀(n k:Nat),k<=n->choose n k*(aR k*aR (n-k))=aR n
 |n,0,_=>by rw[iJ,aR,Nat.sub_zero,NL,NL]
 |0,_+1,h=>absurd h (by omega)
 |n+1,k+1,h=>by
  rw[choose,NM];by_cases hk:k=n
  ·subst hk
   rw[oF,j9 k (k+1) (by omega),LG];simp[aR]
  ·have hk':k+1<=n:=by omega
   have e1:=fL n k (by omega);have e2:=fL n (k+1) hk';have s1:n+1-(k+1)=n-k:=by omega
   have s2:n-k=(n-(k+1))+1:=by omega
   rw[s1];have a1:choose n k*(aR (k+1)*aR (n-k))=(k+1)*aR n:=by
    rw[<-e1,aR];simp only[Hs,HR,Ig]
   have a2:choose n (k+1)*(aR (k+1)*aR (n-k))=(n-k)*aR n:=by
    have s3:aR (n-k)=aR (n-(k+1))*(n-k):=by
     rw[s2,aR,<-s2]
    rw[<-e2,s3];simp only[Hs,HR,Ig]
   rw[a1,a2,<-NM,aR,HR]
   congr 1
   omega
theorem w6(n k:Nat)(h:k+1<=n):choose n k*(n-k)/(k+1)=choose n (k+1):=by
 have e1:=fL n k (by omega);have e2:=fL n (k+1) h;have s2:n-k=(n-(k+1))+1:=by omega
 have p:0<aR k*aR (n-(k+1)):=NK (gl _) (gl _);have q:choose n k*(n-k)=choose n (k+1)*(k+1):=by
  have:choose n k*(n-k)*(aR k*aR (n-(k+1)))=choose n (k+1)*(k+1)*(aR k*aR (n-(k+1))):=by
   have l:choose n k*(n-k)*(aR k*aR (n-(k+1)))=aR n:=by
    rw[<-e1,show aR (n-k)=aR (n-(k+1))*(n-k) by rw[s2,aR,<-s2]];simp only[Hs,HR,Ig]
   have r:choose n (k+1)*(k+1)*(aR k*aR (n-(k+1)))=aR n:=by
    rw[<-e2,aR];simp only[Hs,HR,Ig]
   rw[l,r]
  exact JC p this
 rw[q,Nat.mul_div_cancel _ (Nj k)]
noncomputable def bR:Nat->List Nat->Nat
 |_,[]=>1
 |n,s::r=>choose n s*bR (n-s) r
theorem lG:∀(ss:List Nat)(n:Nat),ss.sum<=n->bR n ss*((ss.map aR).foldr (· * ·) 1*aR (n-ss.sum))=aR n
 | [],n,_=>by simp[bR]
 |s::r,n,h=>by
  rw[Gk]at h;have ih:=lG r (n-s) (by omega);have c:=fL n s (by omega);rw[bR,F6,List.foldr_cons,Gk,<-c,<-ih,Nat.sub_sub];simp only[Hs,HR,Ig]
end KM
end
section
namespace KM
noncomputable def ka(room:List Nat)(w:List Nat):List Nat:=(F5 room.length).filter fun j=>decide (w.count j<room.getD j 0)
noncomputable def grow(room:List Nat)(ws:List (List Nat)):List (List Nat):=ws.flatMap fun w=>(ka room w).map fun j=>w++[j]
noncomputable def aW(room:List Nat):Nat->List (List Nat)
 |0=>[[]]
 |i+1=>grow room (aW room i)
noncomputable def words:Nat->List Nat->Nat
 |0,_=>1
 |n+1,r=>(((F5 r.length).filter fun j=>decide (0<r.getD j 0)).map fun j=>words n (r.set j (r.getD j 0-1))).sum
noncomputable def left(room w:List Nat):List Nat:=(F5 room.length).map fun j=>room.getD j 0-w.count j
theorem jT(room w:List Nat):(left room w).length=room.length:=by unfold left;rw[FQ,G5]
theorem vG(room w:List Nat)(j:Nat)(h:j<room.length):(left room w).getD j 0=room.getD j 0-w.count j:=by
 unfold left;rw[FO,FZ,GO h];rfl
theorem Av(room w:List Nat)(j:Nat)(h:j<room.length):left room (w++[j])=(left room w).set j ((left room w).getD j 0-1):=by
 apply GW;intro k;by_cases hk:k<room.length
 ·have e1:(left room (w++[j]))[k]?=some (room.getD k 0-(w++[j]).count k):=by
   unfold left;rw[FZ,GO hk];rfl
  rw[e1,IC,vG room w j h,jT];by_cases hjk:j=k
  ·subst hjk
   rw[if_pos rfl,if_pos h,Jp];simp;omega
  ·rw[if_neg hjk]
   unfold left;rw[FZ,GO hk,Jp];simp[Kw,hjk]
 ·rw[Gd (by rw[jT];omega),Gd (by rw[Hj,jT];omega)]
theorem yB(room w:List Nat):ka room w=(F5 (left room w).length).filter fun j=>decide (0<(left room w).getD j 0):=by
 unfold ka;rw[jT];apply Nz;intro j hj;rw[Gr]at hj;rw[vG room w j hj];by_cases h:w.count j<room.getD j 0
 ·simp[h]
  omega
 ·simp[h]
  omega
noncomputable def nN(room:List Nat):Nat->List (List Nat)->List (List Nat)
 |0,ws=>ws
 |n+1,ws=>nN room n (grow room ws)
theorem kt(room:List Nat):∀n i,nN room n (aW room i)=aW room (i+n)
 |0,i=>rfl
 |n+1,i=>by
  rw[nN,show grow room (aW room i)=aW room (i+1)from rfl,kt room n (i+1)]
  congr 1
  omega
theorem kb(f:List Nat->Nat)(room:List Nat):∀ws:List (List Nat),((grow room ws).map f).sum=(ws.map fun w=>((ka room w).map fun j=>f (w++[j])).sum).sum
 | []=>rfl
 |w::r=>by
  have ih:=kb f room r;unfold grow at ih ⊢;rw[J2,Gj,GZ,ih,F6,Gk,I0];rfl
theorem mM(room:List Nat):∀(n:Nat)(ws:List (List Nat)),(nN room n ws).length=(ws.map fun w=>words n (left room w)).sum
 |0,ws=>by
  rw[nN]
  induction ws with
  |nil=>rfl
  |cons w r ih=>rw[Gm,ih,F6,Gk,words];omega
 |n+1,ws=>by
  rw[nN,mM room n,kb]
  congr 1
  apply Hy;intro w _;rw[words,yB]
  congr 1
  apply Hy;intro j hj;have hj':=Ip.mp hj;rw[Gr,jT]at hj';rw[Av room w j hj'.1]
noncomputable def bT(r:List Nat):Nat:=(r.map aR).foldr (· * ·) 1
theorem fr(a:Nat)(r:List Nat):bT (a::r)=aR a*bT r:=rfl
theorem mN:∀r,0<bT r
 | []=>by decide
 |a::r=>NK (gl a) (mN r)
theorem tE:∀(r:List Nat)(j:Nat),j<r.length->0<r.getD j 0->bT r=bT (r.set j (r.getD j 0-1))*r.getD j 0
 | [],j,h,_=>absurd h (by simp)
 |a::r,0,_,h=>by
  have h':0<a:=h;show bT (a::r)=bT ((a-1)::r)*a;rw[fr,fr];obtain⟨b,rfl⟩:∃b,a=b+1:=⟨a-1,by omega⟩;rw[show b+1-1=b by omega,aR];simp only[Hs,HR,Ig]
 |a::r,j+1,h,hp=>by
  have ih:=tE r j (by simpa using h) hp;show bT (a::r)=bT (a::r.set j (r.getD j 0-1))*r.getD j 0;rw[fr,fr,ih];simp only[Hs,HR,Ig]
theorem rO:∀(r:List Nat)(j:Nat),j<r.length->0<r.getD j 0->(r.set j (r.getD j 0-1)).sum+1=r.sum
 | [],j,h,_=>absurd h (by simp)
 |a::r,0,_,h=>by
  have h':0<a:=h;show((a-1)::r).sum+1=(a::r).sum;rw[Gk,Gk];omega
 |a::r,j+1,h,hp=>by
  have ih:=rO r j (by simpa using h) hp;show(a::r.set j (r.getD j 0-1)).sum+1=(a::r).sum;rw[Gk,Gk];omega
theorem rP(c:Nat)(f:Nat->Nat):∀l:List Nat,(l.map f).sum*c=(l.map fun j=>f j*c).sum
 | []=>by simp
 |a::r=>by rw[F6,Gk,NM,rP c f r,F6,Gk]
theorem vH(r:List Nat):(((F5 r.length).filter fun j=>decide (0<r.getD j 0)).map fun j=>r.getD j 0).sum=r.sum:=by
 have go:∀(l:List Nat)(g:Nat->Nat),((l.filter fun j=>decide (0<g j)).map g).sum=(l.map g).sum:=by
  intro l g
  induction l with
  |nil=>rfl
  |cons a t ih=>
   rw[HW];by_cases h:0<g a
   ·rw[if_pos (by simpa using h),F6,Gk,ih,F6,Gk]
   ·rw[if_neg (by simpa using h),ih,F6,Gk]
    omega
 rw[go]
 congr 1
 apply GW;intro k;rw[FZ];by_cases hk:k<r.length
 ·rw[GO hk,FN hk]
  show some (r.getD k 0)=some r[k];rw[FO,FN hk];rfl
 ·rw[Gd (by simpa using hk),Gd (by simpa using hk)]
  rfl
theorem lH:∀(n:Nat)(r:List Nat),r.sum=n->words n r*bT r=aR n
 |0,r,h=>by
  have:bT r=1:=by
   induction r with
   |nil=>rfl
   |cons a t ih=>
    rw[Gk]at h;have ha:a=0:=by omega
    subst ha;rw[fr,ih (by omega)];rfl
  rw[words,this];rfl
 |n+1,r,h=>by
  rw[words,rP];have e:((F5 r.length).filter fun j=>decide (0<r.getD j 0)).map (fun j=>words n (r.set j (r.getD j 0-1))*bT r)=((F5 r.length).filter fun j=>decide (0<r.getD j 0)).map (fun j=>r.getD j 0*aR n):=by
   apply Hy;intro j hj;have hj':=Ip.mp hj;rw[Gr]at hj';have hp:0<r.getD j 0:=of_decide_eq_true hj'.2;rw[tE r j hj'.1 hp,<-Hs,lH n _ (by have:=rO r j hj'.1 hp;omega),HR]
  rw[e,<-rP,vH,h,aR,HR]
theorem BJ(room:List Nat):left room []=room:=by
 apply GW;intro k;unfold left;rw[FZ];by_cases hk:k<room.length
 ·rw[GO hk,FN hk]
  show some (room.getD k 0-([]:List Nat).count k)=some room[k];rw[FO,FN hk];simp
 ·rw[Gd (by simpa using hk),Gd (by simpa using hk)]
  rfl
theorem mO(room:List Nat):(aW room room.sum).length*bT room=aR room.sum:=by
 have e:=kt room room.sum 0;rw[Nat.zero_add]at e;rw[<-e,mM];show(List.map (fun w=>words room.sum (left room w)) [[]]).sum*bT room=aR room.sum;rw[F6,Jr,Gk,Jt,BJ,Nat.add_zero];exact lH _ _ rfl
structure yC(room:List Nat)(i:Nat)(w:List Nat):Prop where
 len:w.length=i
 all:∀j∈w,j<room.length
 cnt:∀j,j<room.length->w.count j<=room.getD j 0
theorem bB(room:List Nat):∀i,∀w∈aW room i,yC room i w
 |0,w,h=>by
  have:w=[]:=by simpa[aW]using h
  subst this;exact⟨rfl,fun _ h=>(nomatch h),fun j _=>by simp⟩
 |i+1,w,h=>by
  rw[aW,grow,Kg]at h;obtain⟨v,hv,h⟩:=h;obtain⟨j,hj,rfl⟩:=Gh.mp h;have b:=bB room i v hv;have hj':=Ip.mp hj;rw[Gr]at hj';have hc:v.count j<room.getD j 0:=of_decide_eq_true hj'.2;refine⟨by rw[Ga,b.len];rfl,fun k hk=>?_,fun k hk=>?_⟩
  ·rcases Gv.mp hk with hk|hk
   ·exact b.all k hk
   ·rw[FR]at hk
    omega
  ·rw[Jp]
   by_cases e:j=k
   ·subst e
    rw[Lr];omega
   ·have:=b.cnt k hk
    rw[List.count_singleton,if_neg (by simpa using e)];omega
theorem p0:∀(n:Nat)(w:List Nat),(∀j∈w,j<n)->((F5 n).map fun j=>w.count j).sum=w.length
 |n,[], _=>by
  have:((F5 n).map fun j=>([]:List Nat).count j)=(F5 n).map fun _=>0:=by simp
  rw[this];have go:∀m,((F5 m).map fun _=>0).sum=0:=by
   intro m
   induction m with
   |zero=>rfl
   |succ m ih=>rw[Iv,Gj,GZ,ih];rfl
  exact go n
 |n,a::w,h=>by
  have ih:=p0 n w fun j hj=>h j (FX _ hj);have ha:a<n:=h a F2;rw[Gm,<-ih];clear ih h;have go:∀m,((F5 m).map fun j=>(a::w).count j).sum=((F5 m).map fun j=>w.count j).sum+(if a<m then 1 else 0):=by
   intro m
   induction m with
   |zero=>simp
   |succ m ih=>
    rw[Iv,Gj,GZ,Gj,GZ,ih];simp only[F6,Jr,Gk,Jt,Kw];by_cases e:a=m
    ·subst e
     rw[if_neg (Hr a),if_pos (IW a),if_pos (beq_self_eq_true a)];omega
    ·rw[if_neg (show¬(a==m)=true by simpa using e)]
     by_cases hl:a<m
     ·rw[if_pos hl,if_pos (show a<m+1 by omega)]
      omega
     ·rw[if_neg hl,if_neg (show¬a<m+1 by omega)]
      omega
  rw[go,if_pos ha]
theorem p7(room:List Nat):(F5 room.length).map (fun j=>room.getD j 0)=room:=by
 apply GW;intro k;rw[FZ];by_cases hk:k<room.length
 ·rw[GO hk,FN hk]
  show some (room.getD k 0)=some room[k];rw[FO,FN hk];rfl
 ·rw[Gd (by simpa using hk),Gd (by simpa using hk)]
  rfl
noncomputable def lex:List Nat->List Nat->Bool
 | [],[]=>false
 | [],_::_=>true
 |_::_,[]=>false
 |a::x,b::y=>if a=b then lex x y else decide (a<b)
theorem vI:∀(x y:List Nat)(i j:Nat),x.length=y.length->lex x y=true->lex (x++[i]) (y++[j])=true
 | [],[],_,_,_,h=>by cases h
 | [],_::_,_,_,h,_=>by simp at h
 |_::_,[],_,_,h,_=>by simp at h
 |a::x,b::y,i,j,hl,h=>by
  show(if a=b then lex (x++[i]) (y++[j])else decide (a<b))=true;have h':(if a=b then lex x y else decide (a<b))=true:=h;by_cases e:a=b
  ·rw[if_pos e]at h' ⊢
   exact vI x y i j (by simpa using hl) h'
  ·rw[if_neg e]at h' ⊢
   exact h'
theorem vJ:∀(x:List Nat)(i j:Nat),i<j->lex (x++[i]) (x++[j])=true
 | [],i,j,h=>by
  show(if i=j then lex [] []else decide (i<j))=true;rw[if_neg (by omega)];exact decide_eq_true h
 |a::x,i,j,h=>by
  show(if a=a then lex (x++[i]) (x++[j])else decide (a<a))=true;rw[if_pos rfl];exact vJ x i j h
theorem mP(room:List Nat):∀i,(aW room i).Pairwise fun x y=>lex x y=true
 |0=>LP _ _
 |i+1=>by
  have ih:=mP room i;have hb:=bB room i;show(grow room (aW room i)).Pairwise _;generalize aW room i=ws at ih hb;unfold grow
  induction ws with
  |nil=>exact Nw
  |cons w r ih2=>
   rw[J2,MF];rw[K7]at ih;refine⟨?_,ih2 ih.2 fun v hv=>hb v (FX _ hv),fun x hx y hy=>?_⟩
   ·rw[List.pairwise_map]
    have sub:(ka room w).Pairwise fun a b=>a<b:=(J7).sublist (List.filter_sublist);exact sub.imp fun{a b} h=>vJ w a b h
   ·obtain⟨a,_,rfl⟩:=Gh.mp hx
    rw[Kg]at hy;obtain⟨v,hv,hy⟩:=hy;obtain⟨b,_,rfl⟩:=Gh.mp hy;exact vI w v a b (by rw[(hb w F2).len,(hb v (FX _ hv)).len]) (ih.1 v hv)
end KM
end
section
namespace KM
theorem Aw(n k:Nat):choose n k<=2^n:=by
 induction n generalizing k with
 |zero=>cases k<;>simp[choose]
 |succ n ih=>
  cases k with
  |zero=>rw[iJ];exact Nat.one_le_two_pow
  |succ k=>
   rw[choose,Nat.pow_succ];have:=ih k;have:=ih (k+1);omega
theorem vK{n i:Nat}(h:i+1<=n):((choose n i:Nat):Int)*((n:Int)-(0+(i:Int)))/(0+(i:Int)+1)=((choose n (i+1):Nat):Int):=by
 have e1:(n:Int)-(0+(i:Int))=((n-i:Nat):Int):=by omega
 have e2:(0+(i:Int)+1)=((i+1:Nat):Int):=by omega
 rw[e1,e2,<-L5,<-N0,w6 n i h]
theorem oG(n:Nat)(ss:List Nat)(h:ss.sum<=n):bR n ss*bT (ss++[n-ss.sum])=aR n:=by
 have e:bT (ss++[n-ss.sum])=(ss.map aR).foldr (· * ·) 1*aR (n-ss.sum):=by
  generalize n-ss.sum=k
  induction ss with
  |nil=>simp[bT]
  |cons a r ih=>
   have hr:r.sum<=n:=by rw[Gk]at h;omega
   show aR a*bT (r++[k])=aR a*(r.map aR).foldr (· * ·) 1*aR k;rw[ih hr,Hs]
 rw[e];exact lG ss n h
theorem iK{n:Nat}{ss:List Nat}(h:ss.sum<=n):(aW (ss++[n-ss.sum]) n).length=bR n ss:=by
 have e1:=oG n ss h;have hs:(ss++[n-ss.sum]).sum=n:=by
  rw[GZ,Gk,Jt];omega
 have e2:=mO (ss++[n-ss.sum]);rw[hs]at e2;exact JC (mN _) (e2.trans e1.symm)
theorem words_pos(n:Nat)(r:List Nat)(h:r.sum=n):0<words n r:=by
 have e:=lH n r h;have f:=gl n;rcases K8 (words n r)with z|z
 ·rw[z,Nat.zero_mul]at e
  omega
 ·exact z
theorem BK{room w:List Nat}{i:Nat}(h:yC room i w):(left room w).sum+i=room.sum:=by
 have go:∀m,m<=room.length->((F5 m).map fun j=>room.getD j 0-w.count j).sum+((F5 m).map fun j=>w.count j).sum=((F5 m).map fun j=>room.getD j 0).sum:=by
  intro m
  induction m with
  |zero=>intro _;rfl
  |succ m ih=>
   intro hm;have:=ih (by omega);have:=h.cnt m (by omega);simp only[Iv,Gj,GZ,F6,Jr,Gk,Jt]at *;omega
 have e:=go room.length (FU _);rw[p0 room.length w h.all,p7,h.len]at e;exact e
theorem BL{room:List Nat}{i:Nat}(h:i<=room.sum):(aW room i).length<=(aW room room.sum).length:=by
 have e:=kt room (room.sum-i) i;rw[show i+(room.sum-i)=room.sum by omega]at e;rw[<-e,mM];have hb:=bB room i;generalize aW room i=ws at hb
 induction ws with
 |nil=>exact GH _
 |cons w r ih=>
  rw[F6,Gk,Gm];have:=ih fun v hv=>hb v (FX _ hv);have:=words_pos (room.sum-i) (left room w) (by have:=BK (hb w F2);omega);omega
theorem EB:∀(rs:List Nat)(m:Nat),rs.foldl (fun f s=>f/aR s) (m*bT rs)=m
 | [],m=>by simp[bT]
 |a::r,m=>by
  rw[Ob,fr];have e:m*(aR a*bT r)/aR a=m*bT r:=by
   rw[<-Hs,HR m,Hs,Nat.mul_div_cancel_left _ (gl a)]
  rw[e];exact EB r m
noncomputable def dO(room w:List Nat)(k:Nat):List Nat:=(F5 k).filter fun j=>decide (w.count j<room.getD j 0)
theorem oH(room w:List Nat):dO room w room.length=ka room w:=rfl
theorem vL(room w:List Nat)(k:Nat):dO room w (k+1)=dO room w k++(if w.count k<room.getD k 0 then[k]else[]):=by
 unfold dO;rw[Iv,K9];by_cases h:w.count k<room.getD k 0
 ·rw[if_pos h,JT (by simpa using h)]
  rfl
 ·rw[if_neg h,JU (by simpa using h)]
  rfl
theorem Ax(room:List Nat)(ws:List (List Nat))(i:Nat)(w:List Nat)(h:ws[i]?=some w):grow room (ws.take (i+1))=grow room (ws.take i)++(ka room w).map fun j=>w++[j]:=by
 unfold grow;rw[Hx,h,KH];simp
theorem vM(room:List Nat)(ws:List (List Nat))(i:Nat):(grow room (ws.take i)).length<=(grow room ws).length:=by
 have:grow room ws=grow room (ws.take i)++grow room (ws.drop i):=by
  unfold grow;rw[<-KH,Js]
 rw[this,Ga];omega
end KM
end
namespace L2
open PySem PyProof.Rows
section
variable{K:Fg}{vs:List V}{H:Hp}{Q:VK}{E:XK}
noncomputable def Ay:V->Bool
 | .int _=>true
 |_=>false
noncomputable def bY:V->Int->Int->Bool
 | .int i,lo,hi=>decide (lo<=i)&&decide (i<=hi)
 |_,_,_=>false
noncomputable def dE(K:Fg)(H:Hp)(x:V):Prop:=∃t b1 b2,dZ K H x t/\GI K t (.type "int")=some b1/\GI K t (.type "bool")=some b2/\(b1&& !b2)=Ay x
theorem dE.int{K:Fg}{H:Hp}(i:Int):dE K H (.int i):=⟨_,_,_,.int i,wV K,vm K,rfl⟩
theorem Az{K:Fg}{H H':Hp}{x:V}{t:Value}(h:dZ K H x t)(s:ah H H'):dZ K H' x t:=by
 cases h with
 |non=>exact .non
 |bl b=>exact .bl b
 |int i=>exact .int i
 |str x=>exact .str x
 |flt x=>exact .flt x
 |lst e=>exact .lst (s _ _ e)
 |frz e=>exact .frz (s _ _ e)
 |tup e=>exact .tup (s _ _ e)
 |dK e=>exact .dK (s _ _ e)
 |dT e=>exact .dT (s _ _ e)
 |ins e cl ha hn htk hm=>exact .ins (s _ _ e) cl ha hn htk hm
theorem dE.same{K:Fg}{H H':Hp}{x:V}(h:dE K H x)(s:ah H H'):dE K H' x:=by
 obtain⟨t,b1,b2,ty,r⟩:=h;exact⟨t,b1,b2,Az ty s,r⟩
noncomputable def Dh(K:Fg):Sp:=fun vs H Q _=>∃x,vs=[x]/\dE K H x/\Q (.bl (Ay x)) H
noncomputable abbrev fM(K:Fg):Sp:=Dh K
noncomputable def p8(K:Fg):TS:=(aG (ny (tCB (ko K) (aa (ab 0) (aa (tC (.ty "int")) af))) (uA (tCB (ko K) (aa (ab 0) (aa (tC (.ty "bool")) af))))))
theorem w9(h:fM K vs H Q E):p8 K { nx:=fun _ H'=>Q .non H',rt:=Q } (start ["thing"] vs) H:=by
 obtain⟨x,rfl,⟨t,b1,b2,ty,k1,k2,e⟩,q⟩:=h;refine⟨_,rfl,_,_,_,_,rfl,ty,k1,_,rfl,gz (fun c=>?_) (fun c=>?_)⟩
 ·subst c
  refine⟨_,rfl,_,_,_,_,rfl,ty,k2,_,rfl,?_⟩;rw[<-e,Ka]at q;exact q
 ·subst c
  rw[<-e,KL]at q;exact q
noncomputable def BM(K:Fg):Sp:=fun vs H Q _=>∃x lo hi,vs=[x,.int lo,.int hi]/\dE K H x/\Q (.bl (bY x lo hi)) H
noncomputable abbrev cZ(K:Fg):Sp:=BM K
noncomputable def oI(K:Fg):TS:=(aG (ny (au (fM K) [] E0 (aa (ab 0) af)) (zN (rI0 fun i j=>.bl (decide (i<=j))) (rI0 fun i j=>.bl (decide (i<=j))) (ab 1) (ab 0) (ab 2))))
theorem vN(h:cZ K vs H Q E):oI K { nx:=fun _ H'=>Q .non H',rt:=Q } (start ["thing","least","most"] vs) H:=by
 obtain⟨x,lo,hi,rfl,pl,q⟩:=h;refine⟨_,rfl,x,rfl,pl,_,rfl,gz (fun c=>?_) (fun c=>?_)⟩
 ·cases x with
  |int i=>
   refine⟨_,rfl,_,rfl,_,_,rfl,rfl,_,rfl,gz (fun d=>?_) (fun d=>?_)⟩
   ·refine⟨_,rfl,_,_,rfl,rfl,?_⟩
    have q':Q (.bl (decide (lo<=i)&&decide (i<=hi))) H:=q;rw[d,Ka]at q';exact q'
   ·have q':Q (.bl (decide (lo<=i)&&decide (i<=hi))) H:=q
    rw[d,KL]at q';exact q'
  |_=>cases c
 ·cases x with
  |int i=>cases c
  |_=>exact q
noncomputable def ku(zs:List V):Int:=(zs.map fun z=>match z with | .int i=>i|_=>0).sum
noncomputable def CG(x:V)(zs:List V):Bool:=match x with
 | .int c=>(decide (0<=c)&&decide (c<=12))&&(decide (1<=zs.length)&&decide (zs.length<=5))&&zs.all (fun z=>bY z 0 c)&&decide (ku zs<=c)
 |_=>false
theorem rQ{zs:List V}{lo hi:Int}(h:zs.all (fun z=>bY z lo hi)=true):∃ns:List Int,zs=ns.map V.int/\ku zs=ns.sum:=by
 induction zs with
 |nil=>exact⟨[],rfl,rfl⟩
 |cons z r ih=>
  rw[Je,G3]at h;obtain⟨ns,e,es⟩:=ih h.2;cases z with
  |int i=>
   refine⟨i::ns,by rw[e];rfl,?_⟩;show i+ku r=(i::ns).sum;rw[es,Gk]
  |_=>exact absurd h.1 F3
noncomputable def CH(K:Fg)(H:Hp)(y:V)(zs:Option (List V)):Prop:=match zs with
 |some zs=>∃a,y=.ref a/\(H a=some (.lst zs)\/∃o,H a=some (.frz o (.lst zs)))/\zs.length<=1000/\∀z∈zs,dE K H z
 |none=>∃t,dZ K H y t/\GI K t (.type "list")=some false
noncomputable def p9(x:V):Option (List V)->Bool
 |some zs=>CG x zs
 |none=>false
noncomputable def EC(K:Fg):Sp:=fun vs H Q _=>∃x y zs,vs=[x,y]/\dE K H x/\CH K H y zs/\∀H',ah H H'->Q (.bl (p9 x zs)) H'
noncomputable abbrev lI(K:Fg):Sp:=EC K
noncomputable def tF(K:Fg):TS:=(ap (bo (dX (tB (au (cZ K) [] E0 (aa (ab 0) (aa (tC (.int 0)) (aa (tC (.int 12)) af)))))) (aG (tC (.bl false))) aZ)
 (ap (bo (tOr (dX (tB (tCB (ko K) (aa (ab 1) (aa (tC (.ty "list")) af))))) (dX (tB (au (cZ K) [] E0 (aa (tCB (cH K) (aa (ab 1) af)) (aa (tC (.int 1)) (aa (tC (.int 5)) af))))))) (aG (tC (.bl false))) aZ)
 (aG (ny (tCB (BA K) (aa (b8 (dc K (ab 1)) (fun _ _ _ _=>(ai 0)) (fun _ _ _ _=>bI) (fun _ _ _ _=>(au (cZ K) [] E0 (aa (ab 0) (aa (tC (.int 0)) (aa (ab 1) af))))) [none,some 0]) af)) (tOp (rI0 fun i j=>.bl (decide (i<=j))) (tCB (oV K) (aa (ab 1) af)) (ab 0))))))
theorem yD(h:lI K vs H Q E):tF K { nx:=fun _ H'=>Q .non H',rt:=Q } (start ["cards","sizes"] vs) H:=by
 obtain⟨x,y,zs,rfl,px,hz,q⟩:=h;refine⟨_,rfl,x,0,12,rfl,px,_,rfl,gz (fun c=>?_) (fun c=>?_)⟩
 ·
  have e:p9 x zs=false:=by
   have c':bY x 0 12=false:=by simpa using c
   cases zs with
   |none=>rfl
   |some zs=>
    cases x with
    |int i=>
     show((decide (0<=i)&&decide (i<=12))&&(decide (1<=zs.length)&&decide (zs.length<=5))&&zs.all (fun z=>bY z 0 i)&&decide (ku zs<=i))=false;rw[show(decide (0<=i)&&decide (i<=12))=false from c'];rfl
    |_=>rfl
  have:=q H (ah.refl H);rw[e]at this;exact this
 ·have c':bY x 0 12=true:=by simpa using c
  cases x with
  |int i=>
   cases zs with
   |none=>
    obtain⟨t,ty,k⟩:=hz;refine⟨_,rfl,_,_,_,_,rfl,ty,k,_,rfl,jQ (jQ ?_)⟩;exact q H (ah.refl H)
   |some zs=>
    obtain⟨a,rfl,ha,hlen,hp⟩:=hz;have hS:SqL K H a zs:=ha.elim (fun h=>.inl (.inl h)) (fun h=>.inl (.inr h));have ty:dZ K H (.ref a) (.type "list"):=ha.elim (fun h=>.lst h) (fun⟨o,h⟩=>.frz h);refine⟨_,rfl,_,_,_,_,rfl,ty,wW K,_,rfl,jm ?_⟩;refine⟨_,rfl,a,_,rfl,.inl hS,_,1,5,rfl,dE.int _,_,rfl,gz (fun d=>?_) (fun d=>?_)⟩
    ·have e:p9 (.int i) (some zs)=false:=by
      have d0:bY (.int (zs.length:Int)) 1 5=false:=by simpa using d
      have d':(decide ((1:Int)<=(zs.length:Int))&&decide ((zs.length:Int)<=5))=false:=d0;show((decide (0<=i)&&decide (i<=12))&&(decide (1<=zs.length)&&decide (zs.length<=5))&&zs.all (fun z=>bY z 0 i)&&decide (ku zs<=i))=false;have e1:decide (1<=zs.length)=decide ((1:Int)<=(zs.length:Int)):=decide_eq_decide.mpr (by omega);have e2:decide (zs.length<=5)=decide ((zs.length:Int)<=5):=decide_eq_decide.mpr (by omega);rw[e1,e2,d',Mh];rfl
     have:=q H (ah.refl H);rw[e]at this;exact this
    ·have d0:bY (.int (zs.length:Int)) 1 5=true:=by simpa using d
     have d':(decide ((1:Int)<=(zs.length:Int))&&decide ((zs.length:Int)<=5))=true:=d0;have e0:p9 (.int i) (some zs)=(zs.all (fun z=>bY z 0 i)&&decide (ku zs<=i)):=by
      show((decide (0<=i)&&decide (i<=12))&&(decide (1<=zs.length)&&decide (zs.length<=5))&&zs.all (fun z=>bY z 0 i)&&decide (ku zs<=i))=_;have e1:decide (1<=zs.length)=decide ((1:Int)<=(zs.length:Int)):=decide_eq_decide.mpr (by omega);have e2:decide (zs.length<=5)=decide ((zs.length:Int)<=5):=decide_eq_decide.mpr (by omega);rw[e1,e2,d',show(decide (0<=i)&&decide (i<=12))=true from c',Ka,Ka]
     rw[e0]at q;refine⟨_,rfl,a,rfl,⟨_,hS⟩,fun p hp'=>tj (K:=K) (a:=a) (xs:=zs) (fun k acc H2=>acc=((zs.take k).map fun z=>bY z 0 i).map V.bl/\ah H H2/\H2 p=some (.lst acc)) ⟨rfl,aX hp' _,av⟩ ?_ ?_ (small hlen) ?_ ?_⟩
     ·rintro k acc H2 hk ⟨rfl,s2,e2⟩
      exact⟨e2,by rw[FQ,FQ,Hb];omega⟩
     ·rintro k acc H2 hk ⟨rfl,s2,e2⟩
      exact s2.seq hS
     ·rintro _ _ _ _ k z acc H2 hzk ⟨rfl,s2,e2⟩
      refine⟨_,rfl,_,rfl,z,0,i,rfl,(hp z (F0 hzk)).same s2,e2,?_,s2.upd hp' _,av⟩;rw[Hx,hzk,Gj,Gj];rfl
     ·rintro acc H2 ⟨rfl,s2,e2⟩
      rw[GG]at e2;refine⟨p,_,rfl,SqL.of e2,_,rfl,?_⟩;have ea:(zs.map fun z=>bY z 0 i).all id=zs.all fun z=>bY z 0 i:=by
       rw[Ks];rfl
      rw[ea];refine gz (fun g=>?_) (fun g=>?_)
      ·obtain⟨ns,en,es⟩:=rQ g
       rw[g,Ka,es]at q;refine⟨_,rfl,a,ns,rfl,by rw[<-en];exact s2.seq hS,_,rfl,_,_,rfl,rfl,?_⟩;exact q H2 s2
      ·rw[g,KL]at q
       exact q H2 s2
  |_=>exact absurd c' F3
noncomputable def AA:Sp:=fun vs H Q _=>∃n k:Nat,vs=[.int n,.int k]/\k<=n/\n<=50/\Q (.int (KM.choose n k:Nat)) H
noncomputable abbrev lJ(K:Fg):Sp:=AA
noncomputable def tG(K:Fg):TS:=(ap (az (tC (.int 1)) (ai 2))
 (ap (cc (dD (aa (ab 1) af)) (ai 3) (az (tOp (rI fI fun i j=>.int (i/j)) (tOp (rI ID fun i j=>.int (i*j)) (ab 2) (tOp (rI0 fun i j=>.int (i-j)) (ab 0) (ab 3))) (tOp (rI0 fun i j=>.int (i+j)) (ab 3) (tC (.int 1)))) (ai 2)))
 (aG (ab 2))))
theorem yE(h:lJ K vs H Q E):tG K { nx:=fun _ H'=>Q .non H',rt:=Q } (start ["many","taken","ways","step"] vs) H:=by
 obtain⟨n,k,rfl,hk,hn,q⟩:=h;refine⟨_,rfl,_,rfl,by omega,by omega,mD (lo:=0) (n:=((k:Nat):Int).toNat) (fun i σ H2=>∃st,σ=[some (.int n),some (.int k),some (.int (KM.choose n i:Nat)),st]/\H2=H) ⟨none,by rw[KM.iJ];rfl,rfl⟩ ?_ ?_⟩
 ·rintro i σ H2 hi ⟨st,rfl,rfl⟩
  have hi':i+1<=n:=by omega
  refine⟨_,rfl,_,rfl,_,rfl,_,_,rfl,rfl,_,_,rfl,rfl,.of_right (Ld (by omega) (by omega)),_,rfl,_,_,rfl,rfl,_,_,rfl,rfl,⟨by omega,by omega⟩,?_⟩;dsimp only;rw[KM.vK hi'];exact⟨_,rfl,rfl⟩
 ·rintro σ H2 ⟨st,rfl,rfl⟩
  refine⟨_,rfl,?_⟩;rw[show((k:Nat):Int).toNat=k by omega];exact q
structure il(c:Nat)(ss:List Nat):Prop where
 c12:c<=12
 l1:1<=ss.length
 l5:ss.length<=5
 sum:ss.sum<=c
noncomputable def aq(ss:List Nat):List V:=ss.map fun(s:Nat)=>V.int ((s:Nat):Int)
theorem cO(ss:List Nat):aq ss=(ss.map fun(s:Nat)=>((s:Nat):Int)).map V.int:=by unfold aq;rw[I0];rfl
theorem aS(ss:List Nat):(aq ss).length=ss.length:=FQ _
theorem gm:∀ss:List Nat,(ss.map fun(s:Nat)=>((s:Nat):Int)).sum=((ss.sum:Nat):Int)
 | []=>rfl
 |a::r=>by rw[F6,Gk,Gk,gm r];omega
theorem gE:∀{ss:List Nat} {s:Nat},s∈ss->s<=ss.sum
 |a::r,s,h=>by
  rw[Gk];rcases FW.mp h with rfl|h
  ·omega
  ·have:=gE h
   omega
theorem BN{c:Nat}{ss:List Nat}(p:il c ss):CG (.int c) (aq ss)=true:=by
 have h1:=p.c12;have h2:=p.l1;have h3:=p.l5;have h4:=p.sum;show((decide ((0:Int)<=(c:Int))&&decide ((c:Int)<=12))&&(decide (1<=(aq ss).length)&&decide ((aq ss).length<=5))&&(aq ss).all (fun z=>bY z 0 c)&&decide (ku (aq ss)<=c))=true;have e1:(aq ss).all (fun z=>bY z 0 c)=true:=by
  unfold aq;rw[Ks,NU];intro s hs;have:=gE hs;show(decide ((0:Int)<=(s:Int))&&decide ((s:Int)<=(c:Int)))=true;rw[decide_eq_true (by omega),decide_eq_true (by omega)];rfl
 have e2:ku (aq ss)=((ss.sum:Nat):Int):=by
  rw[<-gm];unfold ku aq;rw[I0];rfl
 rw[e1,e2,aS,decide_eq_true (by omega),decide_eq_true (by omega),decide_eq_true h2,decide_eq_true h3,decide_eq_true (by omega)];rfl
theorem BO{K:Fg}{H:Hp}{a:Addr}{ss:List Nat}(h:H a=some (.lst (aq ss)))(hl:ss.length<=1000):CH K H (.ref a) (some (aq ss)):=
 ⟨a,rfl,.inl h,by rw[aS];exact hl,fun z hz=>by
  obtain⟨s,_,rfl⟩:=Gh.mp hz;exact dE.int _⟩
noncomputable def Fl(K:Fg):Sp:=fun vs H Q _=>∃(c:Nat)(a:Addr)(ss:List Nat),vs=[.int c,.ref a]/\H a=some (.lst (aq ss))/\il c ss/\∀H',ah H H'->Q (.int (KM.bR c ss:Nat)) H'
noncomputable abbrev kB(K:Fg):Sp:=Fl K
noncomputable def qa(K:Fg):TS:=(ap (bo (dX (tB (au (lI K) [] E0 (aa (ab 0) (aa (ab 1) af))))) mw aZ)
 (ap (az (tC (.int 1)) (ai 2))
 (ap (az (ab 0) (ai 3))
 (ap (cc (dc K (ab 1)) (ai 4) (ap (az (tOp (rI ID fun i j=>.int (i*j)) (ab 2) (au (lJ K) [] E0 (aa (ab 3) (aa (ab 4) af)))) (ai 2))
 (az (tOp (rI0 fun i j=>.int (i-j)) (ab 3) (ab 4)) (ai 3))))
 (aG (ab 2))))))
theorem xa(h:kB K vs H Q E):qa K { nx:=fun _ H'=>Q .non H',rt:=Q } (start ["cards","sizes","many","left","size"] vs) H:=by
 obtain⟨c,a,ss,rfl,ha,p,q⟩:=h;have h12:=p.c12;have h5:=p.l5;refine⟨_,rfl,_,rfl,_,_,some (aq ss),rfl,dE.int _,BO ha (by omega),fun H1 s1=>⟨_,rfl,?_⟩⟩;rw[show p9 (.int c) (some (aq ss))=true from BN p];refine jm ?_;refine⟨_,rfl,?_⟩;refine⟨_,rfl,a,rfl,⟨_,SqL.of (s1 _ _ ha)⟩,oQ (K:=K) (a:=a) (xs:=aq ss) (fun i σ H2=>∃(m l:Nat)(st:Option V),σ=[some (.int c),some (.ref a),some (.int m),some (.int l),st]/\H2=H1/\m*KM.bR l (ss.drop i)=KM.bR c ss/\(ss.drop i).sum<=l/\l<=12)
  ⟨1,c,none,rfl,rfl,by rw[NL];rfl,p.sum,h12⟩ (fun i σ H2 _ ⟨_,_,_,_,e,_⟩=>by subst e;exact SqL.of (s1 _ _ ha)) ?_ ?_⟩
 ·rintro i x σ H2 hx ⟨m,l,st,rfl,rfl,hm,hs,hl⟩
  obtain⟨z,hz,rfl⟩:∃z:Nat,ss[i]?=some z/\x=.int (z:Int):=by
   unfold aq at hx;rw[FZ]at hx;cases e:ss[i]? with
   |none=>rw[e]at hx;cases hx
   |some z=>rw[e]at hx;exact⟨z,rfl,(F1 hx).symm⟩
  have hd:ss.drop i=z::ss.drop (i+1):=by
   obtain⟨h1,h2⟩:=FS.mp hz;rw[Ls h1,h2]
  rw[hd,Gk]at hs;rw[hd,KM.bR]at hm;have hle:=KM.Aw l z;have h2:(2:Nat)^l<=2^12:=Nat.pow_le_pow_right (by decide) hl;refine⟨_,rfl,_,rfl,_,rfl,l,z,rfl,by omega,by omega,_,_,rfl,rfl,.of_right (Ld (by omega) (by omega)),?_⟩;refine⟨_,rfl,_,rfl,_,_,rfl,rfl,m*KM.choose l z,l-z,some (.int (z:Int)),?_,rfl,by rw[Hs];exact hm,by omega,by omega⟩;have e1:((m:Nat):Int)*((KM.choose l z:Nat):Int)=((m*KM.choose l z:Nat):Int):=(L5 _ _).symm;have e2:((l:Nat):Int)-((z:Nat):Int)=((l-z:Nat):Int):=by omega
  dsimp only;rw[e1,e2];rfl
 ·rintro σ H2 ⟨m,l,st,rfl,rfl,hm,hs,hl⟩
  refine⟨_,rfl,?_⟩;rw[aS,List.drop_length,KM.bR,Nat.mul_one]at hm;rw[hm];exact q _ s1
noncomputable def bt(H:Hp)(p:Addr)(ws:List (List Nat)):Prop:=∃rs:List Addr,H p=some (.lst (rs.map V.ref))/\Paired (fun(a:Addr)(w:List Nat)=>H a=some (.tup (aq w))) rs ws
theorem iL{H H':Hp}{rs:List Addr}{ws:List (List Nat)}(h:Paired (fun(a:Addr)(w:List Nat)=>H a=some (.tup (aq w))) rs ws)(s:∀a xs,H a=some (.tup xs)->H' a=some (.tup xs)):Paired (fun(a:Addr)(w:List Nat)=>H' a=some (.tup (aq w))) rs ws:=
 Paired.mapP h fun a w e=>s _ _ e
theorem jy{α β:Type}{F:α->β->Prop}:∀{l:List α} {m:List β} {i:Nat} {a:α},Paired F l m->l[i]?=some a->∃b,m[i]?=some b/\F a b
 |_,_,_,_,.nil,h=>by simp at h
 |_,_,0,_,.cons r _,h=>by simp at h;subst h;exact⟨_,rfl,r⟩
 |_,_,i+1,a,.cons _ t,h=>by
  obtain⟨b,h1,h2⟩:=jy (i:=i) (a:=a) t (by simpa using h);exact⟨b,by simpa using h1,h2⟩
theorem lK{α β:Type}{F:α->β->Prop}:∀{l:List α} {m:List β} {l':List α} {m':List β},Paired F l m->Paired F l' m'->Paired F (l++l') (m++m')
 |_,_,_,_,.nil,h=>h
 |_,_,_,_,.cons r t,h=>.cons r (lK t h)
theorem yF(w:List Nat)(j:Nat):(aq w).countP (fun z=>eqV z (.int (j:Int)))=w.count j:=by
 unfold aq;rw[List.countP_map,List.count_eq_countP]
 congr 1
 funext k
 show((k:Int)==(j:Int))=(k==j);by_cases h:k=j
 ·subst h;simp
 ·rw[beq_eq_false_iff_ne.mpr h,beq_eq_false_iff_ne.mpr (by omega)]
theorem AB(w:List Nat):(aq w).all de=true:=by unfold aq;rw[Ks];simp[de]
noncomputable def ED(K:Fg):Sp:=fun vs H Q _=>∃(b r:Addr)(ws:List (List Nat))(room:List Nat),vs=[.ref b,.ref r]/\bt H b ws/\H r=some (.lst (aq room))/\room.length<=6/\(KM.grow room ws).length<=2000/\(∀w∈ws,w.length<=12)/\
 ∀(p:Addr)(H':Hp),ah H H'->H p=none->bt H' p (KM.grow room ws)->Q (.ref p) H'
noncomputable abbrev gn(K:Fg):Sp:=ED K
noncomputable def kd(K:Fg):TS:=(ap (az (ym af) (ai 2))
 (ap (cc (dc K (ab 0)) (ai 3) (cc (lv bj K (aa (ab 1) af)) (gj K 2 (bF (ai 4) (bF (ai 5) gi))) (bo (ba (tOp (rI0 fun i j=>.bl (decide (i<j))) (tBT xJ (ab 3) (aa (ab 4) af)) (ab 5))) (dY (tBM K "list" fo (ab 2) (aa (tOp (Cy K) (ab 3) (Bo (aa (ab 4) af))) af))) aZ)))
 (aG (ab 2))))
theorem oY(h:gn K vs H Q E):kd K { nx:=fun _ H'=>Q .non H',rt:=Q } (start ["begun","room","longer","deal","who","most"] vs) H:=by
 obtain⟨b,r,ws,room,rfl,⟨rs,hb,hp⟩,hrm,h6,h2000,h12,q⟩:=h;refine⟨(by show 0<=FY;decide),fun l hl=>?_⟩;have sl:ah H (upd H l (.lst [])):=aX hl _;have hrl:ws.length=rs.length:=hp.length.symm;refine⟨_,rfl,b,rfl,⟨_,SqL.of (sl _ _ hb)⟩,oQ (K:=K) (a:=b) (xs:=rs.map V.ref)
  (fun i σ H2=>∃d wh mo:Option V,σ=[some (.ref b),some (.ref r),some (.ref l),d,wh,mo]/\ah H H2/\bt H2 l (KM.grow room (ws.take i)))
  ⟨none,none,none,rfl,sl,[],by rw[av];rfl,.nil⟩ (fun i σ H2 _ ⟨_,_,_,_,s2,_⟩=>SqL.of (s2 _ _ hb)) ?_ ?_⟩
 ·rintro i x σ H2 hx ⟨d,wh,mo,rfl,s2,D2⟩
  obtain⟨a,ea,rfl⟩:∃a,rs[i]?=some a/\x=.ref a:=by
   rw[FZ]at hx;cases e:rs[i]? with
   |none=>rw[e]at hx;cases hx
   |some a=>rw[e]at hx;exact⟨a,rfl,(F1 hx).symm⟩
  obtain⟨u,hu,ha⟩:=jy hp ea;have hu12:=h12 u (F0 hu);have gt:=KM.Ax room ws i u hu;have gle:=KM.vM room ws (i+1);refine⟨_,rfl,r,_,rfl,SqL.of (s2 _ _ hrm),vo (S:=bj) (K:=K) (a:=r) (xs:=aq room)
   (fun j σ H3=>∃wh mo:Option V,σ=[some (.ref b),some (.ref r),some (.ref l),some (.ref a),wh,mo]/\ah H H3/\bt H3 l (KM.grow room (ws.take i)++(KM.dO room u j).map fun k=>u++[k]))
   ⟨wh,mo,rfl,s2,by simpa[KM.dO]using D2⟩ (fun j σ H3 _ ⟨_,_,_,s3,_⟩=>SqL.of (s3 _ _ hrm)) ?_ ?_⟩
  ·rintro j x T σ H3 hxj ⟨wh',mo',rfl,s3,qs,hq,pq⟩ hT
   obtain⟨m,hm,rfl⟩:∃m:Nat,room[j]?=some m/\x=.int (m:Int):=by
    unfold aq at hxj;rw[FZ]at hxj;cases e:room[j]? with
    |none=>rw[e]at hxj;cases hxj
    |some z=>rw[e]at hxj;exact⟨z,rfl,(F1 hxj).symm⟩
   have hmD:room.getD j 0=m:=by rw[FO,hm];rfl
   have hjl:j<room.length:=(FS.mp hm).1;have nT:H T=none:=s3.free hT;have s4:ah H (upd H3 T (.tup [.int (j:Int),.int (m:Int)])):=s3.upd nT _;have a4:(upd H3 T (.tup [.int (j:Int),.int (m:Int)])) a=some (.tup (aq u)):=s4 _ _ ha;have nlT:l≠T:=aP hq hT;have q4:(upd H3 T (.tup [.int (j:Int),.int (m:Int)])) l=some (.lst (qs.map V.ref)):=by rw[aO nlT];exact hq
   have p4:Paired (fun(a:Addr)(w:List Nat)=>(upd H3 T (.tup [.int (j:Int),.int (m:Int)])) a=some (.tup (aq w))) qs (KM.grow room (ws.take i)++(KM.dO room u j).map fun k=>u++[k]):=
    iL pq fun a xs e=>by rw[aO (aP e hT)];exact e
   have hqlen:qs.length<=2000:=by
    have e1:=pq.length;rw[Ga,FQ]at e1;rw[gt,Ga,FQ,<-KM.oH]at gle;have e3:(KM.dO room u j).length<=(KM.dO room u room.length).length:=by
     unfold KM.dO;have:(F5 j).Sublist (F5 room.length):=List.range_sublist.mpr (by omega);exact(this.filter _).length_le
    omega
   have t4:(upd H3 T (.tup [.int (j:Int),.int (m:Int)])) T=some (.tup [.int (j:Int),.int (m:Int)]):=av;generalize upd H3 T (.tup [.int (j:Int),.int (m:Int)])=H4 at s4 a4 q4 p4 t4;have ns:=KM.vL room u j;rw[hmD]at ns;refine⟨T,_,rfl,SqT.of t4,rfl,_,_,rfl,_,_,rfl,rfl,?_⟩;refine⟨_,rfl,⟨a,_,rfl,a4⟩,_,rfl,a,_,_,rfl,rfl,a4,rfl,AB u,_,rfl,_,_,rfl,rfl,_,rfl,?_⟩;rw[yF];refine gz (fun c=>?_) (fun c=>?_)
   ·have c':u.count j<m:=by have:=of_decide_eq_true c;omega
    rw[if_pos c']at ns;have fin:∀(d:Addr)(H5:Hp),ah H4 H5->H5 d=some (.tup (aq (u++[j])))->∃(l':Addr)(xs:List V)(y:V),V.ref l=.ref l'/\[V.ref d]=[y]/\H5 l'=some (.lst xs)/\xs.length<FY/\
      ∃wh mo:Option V,([some (.ref b),some (.ref r),some (.ref l),some (.ref a),some (.int (j:Int)),some (.int (m:Int))]:L2.St)=[some (.ref b),some (.ref r),some (.ref l),some (.ref a),wh,mo]/\ah H (upd H5 l' (.lst (xs++[y])))/\
       bt (upd H5 l' (.lst (xs++[y]))) l (KM.grow room (ws.take i)++(KM.dO room u (j+1)).map fun k=>u++[k]):=by
     intro d H5 s5 e5;refine⟨l,_,_,rfl,rfl,s5 _ _ q4,K1 (by rw[FQ];exact hqlen) (by decide),_,_,rfl,(s4.trans s5).upd hl _,qs++[d],by rw[av,Gj];rfl,?_⟩;have keep:∀(c:Addr)(xs:List V),H5 c=some (.tup xs)->upd H5 l (.lst (qs.map V.ref++[V.ref d])) c=some (.tup xs):=fun c xs e=>by
      rw[aO (yd e (s5 _ _ q4) (by intro z;cases z))];exact e
     rw[ns,Gj,<-Nu];exact lK (iL (iL p4 fun c xs e=>s5 _ _ e) keep) (.cons (keep _ _ e5) .nil)
    refine⟨_,rfl,.inl ⟨rfl,_,SqL.of q4⟩,_,rfl,_,rfl,(by show 1<=FY;decide),fun t ht=>?_⟩;have st:ah H4 (upd H4 t (.tup [.int (j:Int)])):=aX ht _;have ej:aq (u++[j])=aq u++[.int (j:Int)]:=by unfold aq;rw[Gj];rfl
    refine⟨a,t,aq u,[.int (j:Int)],rfl,rfl,SqT.of (st _ _ a4),SqT.of av,small (by rw[aS];show u.length+1<=1000;omega),fun e0=>?_,fun _ e0=>(nomatch e0),fun _ _ p hp'=>?_⟩
    ·exact fin t _ st (by rw[av,ej,e0];rfl)
    ·exact fin p _ (st.trans (aX hp' _)) (by rw[av,ej])
   ·have c':¬u.count j<m:=by have:=of_decide_eq_false c;omega
    rw[if_neg c',II]at ns;exact⟨_,_,rfl,s4,qs,q4,by rw[ns];exact p4⟩
  ·rintro σ H3 ⟨wh',mo',rfl,s3,D3⟩
   rw[aS,KM.oH,<-gt]at D3;exact⟨_,_,_,rfl,s3,D3⟩
 ·rintro σ H2 ⟨d,wh,mo,rfl,s2,D2⟩
  refine⟨_,rfl,?_⟩;rw[FQ,<-hrl,GG]at D2;exact q l H2 s2 hl D2
noncomputable def Di(K:Fg):Sp:=fun vs H Q _=>∃(c:Nat)(a:Addr)(ss:List Nat),vs=[.int c,.ref a]/\H a=some (.lst (aq ss))/\il c ss/\KM.bR c ss<=2000/\
 ∀(p:Addr)(H':Hp),ah H H'->H p=none->bt H' p (KM.aW (ss++[c-ss.sum]) c)->Q (.ref p) H'
theorem eX(ss:List Nat)(c:Nat):aq ss++[.int (c:Int)]=aq (ss++[c]):=by unfold aq;rw[Gj];rfl
noncomputable abbrev iM(K:Fg):Sp:=Di K
noncomputable def qb(K:Fg):TS:=(ap (bo (ba (tOp (rI0 fun i j=>.bl (decide (j<i))) (au (kB K) [] E0 (aa (ab 0) (aa (ab 1) af))) (tC (.int 2000)))) mw aZ)
 (ap (az (tOp Ec (ab 1) (ym (aa (tOp (rI0 fun i j=>.int (i-j)) (ab 0) (tCB (oV K) (aa (ab 1) af))) af))) (ai 2))
 (ap (az (ym (aa (Bo af) af)) (ai 3))
 (ap (cc (dD (aa (ab 0) af)) (ai 4) (az (au (gn K) [] E0 (aa (ab 3) (aa (ab 2) af))) (ai 3)))
 (aG (ab 3))))))
theorem xb(h:iM K vs H Q E):qb K { nx:=fun _ H'=>Q .non H',rt:=Q } (start ["cards","sizes","room","begun","card"] vs) H:=by
 obtain⟨c,a,ss,rfl,ha,p,hm,q⟩:=h;have h12:=p.c12;have h5:=p.l5;have hsum:=p.sum;refine⟨_,rfl,_,rfl,c,a,ss,rfl,ha,p,fun H1 s1=>?_⟩;refine⟨_,_,rfl,rfl,_,rfl,gz (fun k=>?_) (fun _=>?_)⟩
 ·have k':(2000:Int)<((KM.bR c ss:Nat):Int):=of_decide_eq_true k
  omega
 have a1:=s1 _ _ ha;refine⟨_,rfl,_,rfl,_,rfl,a,_,rfl,by rw[<-cO];exact SqL.of a1,_,_,rfl,rfl,(by show 1<=FY;decide),fun l hl=>?_⟩;have s2:ah H (upd H1 l (.lst [.int ((c:Int)-(ss.map fun(s:Nat)=>((s:Nat):Int)).sum)])):=s1.trans (aX hl _);have e2:(upd H1 l (.lst [.int ((c:Int)-(ss.map fun(s:Nat)=>((s:Nat):Int)).sum)])) l=some (.lst [.int ((c:Int)-(ss.map fun(s:Nat)=>((s:Nat):Int)).sum)]):=av;rw[show(c:Int)-(ss.map fun(s:Nat)=>((s:Nat):Int)).sum=((c-ss.sum:Nat):Int) by rw[gm];omega]at s2 e2;dsimp only;rw[show(c:Int)-(ss.map fun(s:Nat)=>((s:Nat):Int)).sum=((c-ss.sum:Nat):Int) by rw[gm];omega];generalize upd H1 l (.lst [.int ((c-ss.sum:Nat):Int)])=H2 at s2 e2;refine⟨a,l,_,_,rfl,rfl,s2 _ _ ha,e2,small (by rw[aS];show ss.length+1<=1000;omega),fun rm hrm=>?_⟩;rw[eX];have hRs:(ss++[c-ss.sum]).sum=c:=by rw[GZ,Gk,Jt];omega
 have hRl:(ss++[c-ss.sum]).length<=6:=by rw[Ga];show ss.length+1<=6;omega
 have hlev:=KM.iK hsum;have s3:ah H (upd H2 rm (.lst (aq (ss++[c-ss.sum])))):=s2.trans (aX hrm _);have e3:(upd H2 rm (.lst (aq (ss++[c-ss.sum])))) rm=some (.lst (aq (ss++[c-ss.sum]))):=av;generalize ss++[c-ss.sum]=R at *;generalize upd H2 rm (.lst (aq R))=H3 at s3 e3;refine⟨(by show 0<=FY;decide),fun t ht=>⟨(by show 1<=FY;decide),fun b hb=>?_⟩⟩;have s4:ah H3 (upd (upd H3 t (.tup [])) b (.lst [.ref t])):=(aX ht _).trans (aX hb _);have D4:bt (upd (upd H3 t (.tup [])) b (.lst [.ref t])) b (KM.aW R 0):=⟨[t],av,.cons (by rw[aO (aP (av (o:=HO.tup [])) hb)];exact av) .nil⟩;have f4:H b=none:=by
  have:H3 b=none:=(aX ht _).free hb;exact s3.free this
 generalize upd (upd H3 t (.tup [])) b (.lst [.ref t])=H4 at s4 D4;refine⟨_,rfl,_,rfl,by omega,by omega,mD (lo:=0) (n:=((c:Nat):Int).toNat) (fun i σ H5=>∃(b:Addr)(st:Option V),σ=[some (.int c),some (.ref a),some (.ref rm),some (.ref b),st]/\ah H3 H5/\H b=none/\bt H5 b (KM.aW R i)) ⟨b,none,rfl,s4,f4,D4⟩ ?_ ?_⟩
 ·rintro i σ H5 hi ⟨b',st,rfl,s5,f5,D5⟩
  have hi':i+1<=c:=by omega
  refine⟨_,rfl,_,rfl,b',rm,_,R,rfl,D5,s5 _ _ e3,hRl,?_,fun u hu=>?_,fun p' H6 s6 f6 D6=>?_⟩
  ·have h1:=KM.BL (room:=R) (i:=i+1) (by omega)
   rw[hRs,hlev]at h1;exact Gs h1 hm
  ·have:=(KM.bB R i u hu).len
   omega
  ·exact⟨p',_,rfl,s5.trans s6,(s3.trans s5).free f6,D6⟩
 ·rintro σ H5 ⟨b',st,rfl,s5,f5,D5⟩
  refine⟨_,rfl,?_⟩;rw[show((c:Nat):Int).toNat=c by omega]at D5;exact q b' H5 (s3.trans s5) f5 D5
noncomputable def kD(xs:List Int)(w:Int)(i:Nat):List Int:=((F5 i).filter fun j=>decide (xs[j]?=some w)).map fun(j:Nat)=>((j:Nat):Int)
theorem AC(xs:List Int)(w:Int)(i:Nat):kD xs w (i+1)=kD xs w i++(if xs[i]?=some w then[(i:Int)]else[]):=by
 unfold kD;rw[Iv,K9,Gj];by_cases h:xs[i]?=some w
 ·rw[if_pos h,JT (by simpa using h)]
  rfl
 ·rw[if_neg h,JU (by simpa using h)]
  rfl
theorem BP(xs:List Int)(w:Int)(i:Nat):(kD xs w i).length<=i:=by
 unfold kD;rw[FQ];have h:=Mn (fun j=>decide (xs[j]?=some w)) (F5 i);rw[G5]at h;exact h
noncomputable def Dj(K:Fg):Sp:=fun vs H Q _=>∃(d:Addr)(xs:List Int)(v:Int),vs=[.ref d,.int v]/\SqT K H d (xs.map V.int)/\xs.length<=1000/\
 ∀(r:Addr)(H':Hp),ah H H'->H' r=some (.tup ((kD xs v xs.length).map V.int))->Q (.ref r) H'
theorem EE{xs:List Int}{i:Nat}{x:V}(h:(xs.map V.int)[i]?=some x):∃z,xs[i]?=some z/\x=.int z:=by
 rw[FZ]at h;cases e:xs[i]? with
 |none=>rw[e]at h;cases h
 |some z=>rw[e]at h;exact⟨z,rfl,(F1 h).symm⟩
noncomputable abbrev iN(K:Fg):Sp:=Dj K
noncomputable def qc(K:Fg):TS:=(aG (tCB (Ev K) (aa (b8 (lv gk K (aa (ab 0) af)) (fun _ _ _ _=>(gj K 2 (bF (ai 0) (bF (ai 1) gi)))) (fun _ _ _ _=>(ba (tOp rEq (ab 1) (ab 2)))) (fun _ _ _ _=>(ab 0)) [none,none,some 1]) af)))
theorem xc(h:iN K vs H Q E):qc K { nx:=fun _ H'=>Q .non H',rt:=Q } (start ["deal","who"] vs) H:=by
 obtain⟨d,xs,v,rfl,hd,hlen,q⟩:=h;have hl:(xs.map V.int).length=xs.length:=FQ _;refine⟨_,rfl,d,_,rfl,hd,fun p hp=>Aj (S:=gk) (K:=K) (a:=d) (xs:=xs.map V.int) (fun i acc H2=>acc=(kD xs v i).map V.int/\ah H H2/\H2 p=some (.lst acc)) ⟨rfl,aX hp _,av⟩ ?_ ?_ ?_ ?_ ?_⟩
 ·rintro i acc H2 hi ⟨rfl,s2,e2⟩
  exact⟨e2,by rw[FQ];exact BP _ _ _⟩
 ·rintro i acc H2 hi ⟨rfl,s2,e2⟩
  exact s2.tup hd
 ·rw[hl]
  exact small hlen
 ·rintro _ _ _ _ i x T acc H2 hx ⟨rfl,s2,e2⟩ hT
  obtain⟨z,hz,rfl⟩:=EE hx;have nTp:p≠T:=aP e2 hT;have nT:H T=none:=s2.free hT;refine⟨T,_,rfl,SqT.of av,rfl,_,_,rfl,_,_,rfl,rfl,_,rfl,_,rfl,rfl,_,rfl,?_⟩;have eu:=AC xs v i;refine gz (fun c=>?_) (fun c=>?_)
  ·have c':z=v:=by
    have:=of_decide_eq_true c;injection this
   subst c';rw[if_pos hz]at eu;refine⟨_,rfl,by rw[aO nTp];exact e2,?_,(s2.upd nT _).upd hp _,av⟩;rw[eu,Gj];rfl
  ·have c':¬xs[i]?=some v:=by
    rw[hz];intro e;have:=of_decide_eq_false c;exact this (by rw[F1 e])
   rw[if_neg c',II]at eu;exact⟨by rw[eu],s2.upd nT _,by rw[aO nTp];exact e2⟩
 ·rintro acc H2 ⟨rfl,s2,e2⟩
  rw[hl]at e2;exact⟨p,_,rfl,.inl ⟨SqL.of e2,fun t ht=>q t _ (s2.trans (aX ht _)) av⟩⟩
theorem fu{ss:List Nat}{i:Nat}{x:V}(hx:(aq ss)[i]?=some x):∃z:Nat,ss[i]?=some z/\x=.int (z:Int):=by
 unfold aq at hx;rw[FZ]at hx;cases e:ss[i]? with
 |none=>rw[e]at hx;cases hx
 |some z=>rw[e]at hx;exact⟨z,rfl,(F1 hx).symm⟩
end
section
variable{K:Fg}{vs:List V}{H:Hp}{Q:VK}{E:XK}
noncomputable abbrev bq(K:Fg):Sp:=Ei K
noncomputable def iO(K:Fg):TS:=(ap (bo (ba (tOp (rI0 fun i j=>.bl (decide (i<j))) (ab 1) (tCB (cH K) (aa (ab 0) af)))) (aG (tOp (b9 K) (ab 0) (ab 1))) aZ)
 (ap (az (tOp (rI0 fun i j=>.int (i+j)) (tOp (rI ID fun i j=>.int (i*j)) (ab 1) (tC (.int 7919))) (tC (.int 5))) (ai 2))
 (ap (bo (ba (tOp (rI0 fun i j=>.bl (decide (j<i))) (tCB (cH K) (aa (ab 0) af)) (tC (.int 0)))) (az (tOp (rI0 fun i j=>.int (i+j)) (tOp (rI ID fun i j=>.int (i*j)) (tOp (b9 K) (ab 0) (tOp (rI (fun _ j=>0<j) fun i j=>.int (i%j)) (tOp (rI ID fun i j=>.int (i*j)) (ab 1) (tC (.int 7))) (tCB (cH K) (aa (ab 0) af)))) (tC (.int 48271))) (tOp (rI ID fun i j=>.int (i*j)) (ab 1) (tC (.int 7919)))) (ai 2)) aZ)
 (ap (az (tOp (rI (fun _ j=>0<j) fun i j=>.int (i%j)) (tOp (rI ID fun i j=>.int (i*j)) (ab 2) (ab 2)) (tC (.int 2147483629))) (ai 2))
 (aG (tOp (rI (fun _ j=>0<j) fun i j=>.int (i%j)) (tOp (rI ID fun i j=>.int (i*j)) (tOp (rI0 fun i j=>.int (i+j)) (ab 2) (ab 1)) (tOp (rI0 fun i j=>.int (i+j)) (ab 2) (tC (.int 69621)))) (tC (.int 2147483587))))))))
theorem vO(h:bq K vs H Q E):iO K { nx:=fun _ H'=>Q .non H',rt:=Q } (start ["_law_script","_law_k","_law_number"] vs) H:=by
 obtain⟨a,ns,k,rfl,⟨hS,h63,hbits⟩,h0,h1,q⟩:=h;show iO K _ [some _,some _,none] _;unfold iO;have hl:(ns.map V.int).length=ns.length:=FQ _;right;rw[hl];refine cT (fun c=>?_) (fun c=>?_)
 ·right
  refine bH hS (vq h0 c) ?_;have e:bG ns k=ns.getD k.toNat 0:=by unfold bG;rw[if_pos c]
  rw[e]at q;exact q
 ·refine Am ?_
  dsimp only;refine bp ?_;nofun;refine em fun NX hNX=>?_;have last:∀n0:Int,GD n0<=1048600->bG ns k=((n0*n0%2147483629)+k)*((n0*n0%2147483629)+69621)%2147483587->NX [some (.ref a),some (.int k),some (.int n0)] H:=by
   intro n0 hb e;refine hNX _ _ ?_;have z1:0<=n0*n0%2147483629:=IJ _ (by decide);have z2:n0*n0%2147483629<2147483629:=IG _ (by decide);refine bp ?_;refine iG ?_;refine oU ?_;refine oU ?_;refine lA rfl ?_;refine lA rfl ?_;refine r_I (.of_le hb hb (by decide)) ?_;right;rw[e]at q;exact q
  nofun;rw[hl];refine cT (fun d=>?_) (fun d=>?_)
  ·have m1:0<=k*7%(ns.length:Int):=IJ _ (by omega)
   have m2:k*7%(ns.length:Int)<(ns.length:Int):=IG _ d;nofun;rw[hl];refine bH hS (vq m1 m2) ?_;nofun;refine last _ ?_ ?_
   ·have b1:=Ak hbits (k*7%(ns.length:Int)).toNat
    have b2:GD (48271:Int)<=16:=by decide
    have b3:GD k<=20:=intBits_le_iff.mpr (by have:(2:Nat)^20=1048576:=(by decide);omega);have b4:GD (7919:Int)<=13:=by decide
    exact Gs (intBits_add_le (Mo b1 b2) (Mo b3 b4)) (by decide)
   ·unfold bG
    rw[if_neg c,if_pos d]
  ·nofun
   refine last _ ?_ ?_
   ·have b3:GD k<=20:=intBits_le_iff.mpr (by have:(2:Nat)^20=1048576:=(by decide);omega)
    have b4:GD (7919:Int)<=13:=by decide
    have b5:GD (5:Int)<=3:=by decide
    exact Gs (intBits_add_le (Mo b3 b4) b5) (by decide)
   ·unfold bG
    rw[if_neg c,if_neg d]
noncomputable def eM(_:Fg):Sp:=fun vs H Q _=>∃n:Nat,vs=[.int n]/\n<=12/\Q (.int (KM.aR n:Nat)) H
noncomputable def fv(K:Fg):TS:=(ap (az (tC (.int 1)) (ai 1))
 (ap (cc (dD (aa (ab 0) af)) (ai 2) (az (tOp (rI ID fun i j=>.int (i*j)) (ab 1) (tOp (rI0 fun i j=>.int (i+j)) (ab 2) (tC (.int 1)))) (ai 1)))
 (aG (ab 1))))
theorem KM.fact_le{n m: Nat}(h: n ≤ m): KM.aR n ≤ KM.aR m:= by
  induction m with
  | zero => have : n = 0 := by omega
            subst this;exact FU _
  |succ m ih=>
    by_cases e: n= m+1
    · subst e;exact FU _
    · have := ih (by omega)
      rw[KM.aR];exact Gs this (Nat.le_mul_of_pos_right _ (Nj m))
theorem AD{n:Nat}(h:n<=12):KM.aR n<=479001600:=Gs (KM.fact_le h) (by decide)
theorem qd(h:eM K vs H Q E):fv K { nx:=fun _ H'=>Q .non H',rt:=Q } (start ["_law_many","_law_found","_law_k"] vs) H:=by
 obtain⟨n,rfl,hn,q⟩:=h;show fv K _ [some _,none,none] _;unfold fv;right;refine d5 n (by omega) (by omega) (by omega) (fun i σ H2=>∃st,σ=[some (.int n),some (.int (KM.aR i:Nat)),st]/\H2=H) ⟨none,rfl,rfl⟩ ?_ ?_
 ·rintro i σ H2 hi ⟨st,rfl,rfl⟩
  have:=AD (n:=i) (by omega);right;refine⟨some (.int i),?_,rfl⟩;rw[KM.aR,L5,show((i:Int)+1)=((i+1:Nat):Int) by omega]
 ·rintro σ H2 ⟨st,rfl,rfl⟩
  right;exact q
noncomputable def fT(_:Fg):Sp:=fun vs H Q _=>∃(c:Nat)(a:Addr)(ss:List Nat),vs=[.int c,.ref a]/\H a=some (.lst (aq ss))/\ss.sum<=c/\c<=12/\ss.length<=100/\∀H',ah H H'->Q (.int (KM.bR c ss:Nat)) H'
noncomputable def gF(K:Fg):TS:=(ap (az (au (eM K) [] E0 (aa (ab 0) af)) (ai 2))
 (ap (cc (dc K (tOp lB (ab 1) (cX (aa (tOp (rI0 fun i j=>.int (i-j)) (ab 0) (tCB (oV K) (aa (ab 1) af))) af)))) (ai 3) (az (tOp (rI fI fun i j=>.int (i/j)) (ab 2) (au (eM K) [] E0 (aa (ab 3) af))) (ai 2)))
 (aG (ab 2))))
theorem tW(h:fT K vs H Q E):gF K { nx:=fun _ H'=>Q .non H',rt:=Q } (start ["_law_cards","_law_sizes","_law_found","_law_many"] vs) H:=by
 obtain⟨c,a,ss,rfl,ha,hs,hc,hl,q⟩:=h;show gF K _ [some _,some _,none,none] _;unfold gF;right;refine⟨c,rfl,hc,?_⟩;right;refine yv (ns:=ss.map fun(s:Nat)=>((s:Nat):Int)) (SqL.of (by rw[<-cO];exact ha)) ?_;right;rw[gm,show(c:Int)-((ss.sum:Nat):Int)=((c-ss.sum:Nat):Int) by omega];refine⟨by simp[FV],fun b H1 hb s1 e1=>nJ (s1 _ _ ha) e1 (by rw[aS,FV];simp;omega) fun p H2 hp s2 e2=>?_⟩;rw[eX]at e2;generalize hR:ss++[c-ss.sum]=R at e2;have hRs:R.sum=c:=by rw[<-hR,GZ,Gk,Jt];omega
 have hpf:KM.bR c ss*KM.bT R=KM.aR c:=by rw[<-hR];exact KM.oG c ss hs
 have hdv:R.foldl (fun f s=>f/KM.aR s) (KM.aR c)=KM.bR c ss:=by rw[<-hpf];exact KM.EB R _
 have s12:=s1.trans s2;refine kN (aq R) (SqL.of e2) (fun i σ H3=>∃st,σ=[some (.int c),some (.ref a),some (.int (((R.take i).foldl (fun f s=>f/KM.aR s) (KM.aR c):Nat):Int)),st]/\H3=H2) ⟨none,rfl,rfl⟩ (fun i σ H3 _ ⟨_,_,e⟩=>by subst e;exact SqL.of e2) ?_ ?_
 ·rintro i x σ H3 hx ⟨st,rfl,rfl⟩
  obtain⟨z,hz,rfl⟩:=fu hx;have hz12:z<=12:=by
   have:=gE (F0 hz);omega
  right;refine⟨z,rfl,hz12,?_⟩;have h1:=KM.gl z;have h2:=AD hz12;right;refine⟨some (.int z),?_,rfl⟩;rw[Hx,hz,NA,<-N0];rfl
 ·rintro σ H3 ⟨st,rfl,rfl⟩
  right;rw[aS,GG,hdv];exact q _ s12
noncomputable def jU(K:Fg):Sp:=fun vs H Q _=>∃(a:Addr)(ns:List Int)(at_ most:Int),vs=[.ref a,.int at_,.int most]/\d4 K H a ns/\0<=at_/\at_<=1000/\1<=most/\
 ∀(c:Nat)(ss:List Nat)(p q:Addr)(H':Hp),ah H H'->H p=none->H q=none->H' p=some (.tup [.int c,.ref q])->H' q=some (.lst (aq ss))->il c ss->((KM.bR c ss:Nat):Int)<=most->Q (.ref p) H'
theorem qf:∀ss:List Nat,ss.sum<=0->KM.bR 0 ss=1
 | [],_=>rfl
 |a::r,h=>by
  rw[Gk]at h;have ha:a=0:=by omega
  subst ha;rw[KM.bR,KM.iJ,qf r (by omega)]
theorem lL(ss:List Nat)(j m:Nat):(aq ss).set j (.int (m:Int))=aq (ss.set j m):=by
 unfold aq;rw[List.map_set]
theorem BQ{ss:List Nat}{M:Int}(h:M∈ss.map fun(s:Nat)=>((s:Nat):Int)):∃m:Nat,m∈ss/\M=(m:Int):=by
 obtain⟨m,hm,e⟩:=Gh.mp h;exact⟨m,hm,e.symm⟩
theorem BR{ss:List Nat}{j m:Nat}(h:ss[j]?=some m)(hm:0<m):(ss.set j (m-1)).sum+1=ss.sum:=by
 obtain⟨h1,h2⟩:=FS.mp h;have e:ss.getD j 0=m:=by rw[FO,h];rfl
 have:=KM.rO ss j h1 (by rw[e];exact hm);rw[e]at this;exact this
noncomputable def xO(K:Fg):TS:=(ap (jN (ba (tOp (rI0 fun i j=>.bl (decide (j<i))) (au (fT K) [] E0 (aa (ab 3) (aa (ab 4) af))) (ab 2))) (ap (bo (ba (tOp (rI0 fun i j=>.bl (decide (j<i))) (tCB (rK K) (aa (ab 4) af)) (tOp (rI0 fun i j=>.int (i-j)) (ab 3) (tCB (oV K) (aa (ab 4) af))))) (az (tOp (rI0 fun i j=>.int (i-j)) (tCB (rK K) (aa (ab 4) af)) (tC (.int 1))) (km (ab 4) (tBM K "list" vv (ab 4) (aa (tCB (rK K) (aa (ab 4) af)) af)) jw)) aZ)
 (az (tOp (rI0 fun i j=>.int (i-j)) (ab 3) (tC (.int 1))) (ai 3))))
 (aG (cq (aa (ab 3) (aa (ab 4) af)))))
theorem AE{K:Fg}{H0 H:Hp}{Q:VK}{NX:St->Hp->Prop}{x y:V}{most:Int}{c:Nat}{q:Addr}{ss:List Nat}{cB:St}(s0:ah H0 H)(hq0:H0 q=none)(hq:H q=some (.lst (aq ss)))(h1:1<=ss.length)(h5:ss.length<=5)(hs:ss.sum<=c)(hc:c<=12)(hm:1<=most)
  (g:∀(c:Nat)(ss:List Nat)(p q:Addr)(H':Hp),ah H0 H'->H0 p=none->H0 q=none->H' p=some (.tup [.int c,.ref q])->H' q=some (.lst (aq ss))->il c ss->((KM.bR c ss:Nat):Int)<=most->Q (.ref p) H'):
  xO K { nx:=NX,rt:=Q } (some x::some y::some (.int most)::some (.int c)::some (.ref q)::cB) H:=by
 unfold xO;refine bp ?_;refine uF (fun m σ H2=>∃(c:Nat)(ss:List Nat),σ=(some x::some y::some (.int most)::some (.int c)::some (.ref q)::cB)/\ah H0 H2/\H2 q=some (.lst (aq ss))/\1<=ss.length/\ss.length<=5/\ss.sum<=c/\c<=12/\m=c) c ⟨c,ss,rfl,s0,hq,h1,h5,hs,hc,rfl⟩ ?_;clear s0 hq h1 h5 hs hc;rintro m σ H2 ⟨c,ss,rfl,s0,hq,h1,h5,hs,hc,hmc⟩;have hmc':=hmc.symm;subst hmc';right;refine⟨c,q,ss,rfl,hq,hs,hc,by omega,fun H3 s3=>?_⟩;have s3':=s0.trans s3;have hq3:=s3 _ _ hq;have hS:SqL K H3 q ((ss.map fun(s:Nat)=>((s:Nat):Int)).map V.int):=by rw[<-cO];exact SqL.of hq3
 right;refine cT (fun hgt=>?_) (fun hle=>?_)
 ·have hc1:1<=c:=by
   rcases K8 c with z|z
   ·subst z
    rw[qf ss hs]at hgt;omega
   ·exact z
  refine uE ?_;right;have hne:(ss.map fun(s:Nat)=>((s:Nat):Int))≠[]:=by
   intro z;have:=congrArg List.length z;rw[FQ]at this;simp at this;subst this;simp at h1
  refine⟨q,_,rfl,hS,hne,fun M hM hmax=>?_⟩;obtain⟨mx,hmx,rfl⟩:=BQ hM;have hle:=gE hmx;right;refine yv hS ?_;right;rw[gm];refine cT (fun hbig=>?_) (fun hsm=>?_)
  ·right
   refine⟨q,_,rfl,hS,hne,fun M2 hM2 hmax2=>?_⟩;obtain rfl:M2=((mx:Nat):Int):=Om (hmax M2 hM2) (hmax2 _ hM);right;refine⟨nH hq3,?_⟩;right;refine⟨q,_,rfl,hS,hne,fun M3 hM3 hmax3=>?_⟩;obtain rfl:M3=((mx:Nat):Int):=Om (hmax M3 hM3) (hmax3 _ hM);obtain⟨j,hj,hfirst⟩:=vz hM;have hj':ss[j]?=some mx:=by
    rw[FZ]at hj;cases e:ss[j]? with
    |none=>rw[e]at hj;cases hj
    |some z=>rw[e]at hj;have hzz:((z:Nat):Int)=(mx:Int):=F1 hj;rw[show z=mx by omega]
   have hjl:j<ss.length:=(FS.mp hj').1;right;refine⟨q,_,_,j,rfl,rfl,by rw[<-cO];exact hq3,hj,hfirst,by omega,?_⟩;right;refine kL hq3 (j:=j) (by unfold ixN;rw[aS,if_pos (by omega),if_pos (by omega)];simp) ?_;right;have hss:=BR hj' (by omega);refine⟨c-1,by omega,c-1,ss.set j (mx-1),?_,s3'.upd hq0 _,?_,by rw[Hj];exact h1,by rw[Hj];exact h5,by omega,by omega,rfl⟩
   ·rw[show(c:Int)-1=((c-1:Nat):Int) by omega]
   ·rw[av,show((mx:Nat):Int)-1=((mx-1:Nat):Int) by omega,lL]
  ·right
   refine⟨c-1,by omega,c-1,ss,?_,s3',hq3,h1,h5,?_,by omega,rfl⟩
   ·rw[show(c:Int)-1=((c-1:Nat):Int) by omega]
   ·by_cases e:ss.sum=c
    ·have z:mx=0:=by omega
     have all0:∀s∈ss,s=0:=fun s hs'=>by
      have:=hmax _ (KI (f:=fun(s:Nat)=>((s:Nat):Int)) hs');have:(s:Int)<=(mx:Int):=this;omega
     have:ss.sum=0:=by
      clear hmax hM hq hq3 hS hne hgt hsm hmx hle h1 h5 hs e
      induction ss with
      |nil=>rfl
      |cons b r ih=>rw[Gk,all0 b F2,ih fun s hs=>all0 s (FX _ hs)]
     omega
    ·omega
 ·right
  exact⟨by simp[FV],fun p H4 hp s4 e4=>g c ss p q H4 (s3'.trans s4) (s3'.free hp) hq0 e4 (s4 _ _ hq3) ⟨hc,h1,h5,hs⟩ (by omega)⟩
end
section
variable{K:Fg}{vs:List V}{H:Hp}{Q:VK}{E:XK}
end
section
variable{K:Fg}{vs:List V}{H:Hp}{Q:VK}{E:XK}
end
section
variable{K:Fg}{vs:List V}{H:Hp}{Q:VK}{E:XK}
theorem cD{ss:List Nat}{j z:Nat}(h:ss[j]?=some z):atI (aq ss) (j:Int)=some (.int (z:Int)):=dh (by unfold aq;rw[FZ,h];rfl)
end
noncomputable def yG:V->Bool
 | .non=>true
 | .bl _=>true
 | .int _=>true
 |_=>false
inductive gG(K:Fg)(H:Hp):Nat->V->V->Prop where
 |flat {n:Nat} {x:V} (h:yG x=true):gG K H n x x
 |str {n:Nat} {x:Str} (h:x.cps.all (· < 0x110000)=true):gG K H n (.str x) (.str x)
 |lst {n:Nat} {a b:Addr} {xs ys:List V} (e1:SqL K H a xs) (e2:SqL K H b ys) (hl:xs.length=ys.length) (h:∀(i:Nat)(x y:V),xs[i]?=some x->ys[i]?=some y->gG K H n x y):gG K H (n+1) (.ref a) (.ref b)
 |tup {n:Nat} {a b:Addr} {xs ys:List V} (e1:SqT K H a xs) (e2:SqT K H b ys) (hl:xs.length=ys.length) (h:∀(i:Nat)(x y:V),xs[i]?=some x->ys[i]?=some y->gG K H n x y):gG K H (n+1) (.ref a) (.ref b)
noncomputable def vP(K:Fg)(neg:Bool):R2:=fun x y H Q=>∃n,n<=30/\gG K H n x y/\Q (.bl (!neg)) H
section
variable{K:Fg}{H:Hp}{Q:VK}
theorem Dk{x y:V}(n:Nat)(hn:n<=30)(h:gG K H n x y)(q:Q (.bl true) H):vP K false x y H Q:=⟨n,hn,h,q⟩
theorem yH{a b:Addr}{xs:List V}(e1:SqL K H a xs)(e2:SqL K H b xs)(hf:∀x∈xs,yG x=true):gG K H 1 (.ref a) (.ref b):=
 .lst e1 e2 rfl fun i x y hx hy=>by
  rw[hx]at hy;cases hy;exact .flat (hf x (F0 hx))
end
section
variable{g:CF TG}{tt:CF TT}{te:CF TE}{σ₀:St}{Q:VK}{H:Hp}{K:Fg}
end
section
variable{K:Fg}{vs:List V}{H:Hp}{Q:VK}{E:XK}
noncomputable def dq(K:Fg):Sp:=fun vs H Q _=>∃(a:Addr)(xs:List V)(ks:List MK)(s:Bool),vs=[.ref a]/\H a=some (.lst xs)/\Paired (ca H) xs ks/\(∀k∈ks,gD k=s)/\ks.length<=100000/\
 ∀p H',H p=none->ah H H'->H' p=some (.lst (aq (aM ks)))->Q (.ref p) H'
noncomputable def dF(K:Fg):TS:=(ap (az pY (ai 1))
 (ap (cc (lv bj K (aa (ab 0) af)) (gj K 2 (bF (ai 2) (bF (ai 3) gi))) (dY (tXM vE (ab 1) (aa (ab 3) (aa (ab 2) af)))))
 (aG (b8 (dc K (ab 0)) (fun _ _ _ _=>(ai 0)) (fun _ _ _ _=>bI) (fun _ _ _ _=>(tOp uI (ab 1) (ab 0))) [none,some 1]))))
theorem mQ(h:dq K vs H Q E):dF K { nx:=fun _ H'=>Q .non H',rt:=Q } (start ["marks","firsts","thing","mark"] vs) H:=by
 obtain⟨a,xs,ks,s,rfl,e,hk,hs,hl,q⟩:=h;show dF K _ [some _,none,none,none] _;unfold dF;have hlen:xs.length=ks.length:=GJ hk;right;refine xN s fun d H1 hd s1 dx1=>?_;right;refine rN (S:=bj) xs (SqL.of (s1 _ _ e)) (fun i σ H3=>∃(u v:Option V),σ=[some (.ref a),some (.ref d),u,v]/\ah H H3/\Dx H3 d s (dN ks i) i) ?_ ?_ ?_ ?_
 ·exact⟨none,none,rfl,s1,dx1.congr oE⟩
 ·rintro i σ H3 hi ⟨u,v,rfl,s3,dx3⟩
  exact SqL.of (s3 _ _ e)
 ·rintro i x T σ H3 H4 hx ⟨u,v,rfl,s3,dx3⟩ hT s4 eT
  obtain⟨k,hki,hkv⟩:=bL hk hx;have hks:=hs k (F0 hki);have hi:i<ks.length:=(FS.mp hki).1;refine eW (SqT.of eT) ?_;have s34:=s3.trans s4;have hkv4:=hkv.keep s34.keep;have dx4:=dx3.same s4;right;refine FI ?_;right;refine⟨⟨d,s,_,_,rfl,dx4⟩,?_⟩;right;refine Dg dx4 hkv4 hks (by rw[FV];omega) (fun w hw=>?_) (fun hn H5 o5 dx5=>?_)
  ·have hm:k∈ks.take i:=by
    by_cases q:k∈ks.take i
    ·exact q
    ·rw[w5 q]at hw;cases hw
   exact⟨_,_,rfl,s34,(dx4.congr (yA hki hm)).le (L7 i)⟩
  ·have hm:k∉ks.take i:=fun q=>by rw[mL q]at hn;cases hn
   exact⟨_,_,rfl,s34.off hd o5,dx5.congr (pZ hki hm)⟩
 ·rintro σ H3 ⟨u,v,rfl,s3,dx3⟩
  right;refine gw xs (SqL.of (s3 _ _ e)) (by omega) (fun i acc _=>acc=aq ((aM ks).take i)) (fun H' _=>rfl) ?_ ?_
  ·rintro p hp C s' H' fp i x acc H4 hx ⟨s4,e4,l4,rfl⟩
   obtain⟨k,hki,hkv⟩:=bL hk hx;have hks:=hs k (F0 hki);have hi:i<ks.length:=(FS.mp hki).1;right;refine Au (dx3.same s4) (hkv.keep (s3.trans s4).keep) hks (mL (by rw[hlen,GG];exact F0 hki)) ?_;refine bm.put hp (fun _ _ _ _ r _=>r) s4 e4 l4 ?_;rw[vF hki,eX]
  ·rintro p acc H4 hp s4 e4 rfl
   refine q _ _ (s3.free hp) (s3.trans s4) ?_;rw[e4,Jm (by rw[cV,hlen];exact FU _)]
noncomputable def cf(w:List Nat)(h:Int):List Int:=kD (w.map fun(s:Nat)=>((s:Nat):Int)) h w.length
noncomputable def rR(ns:List Int):MK:=.inr (ns.map fun n=>(IB (some n):IK))
theorem vQ(a b:List Int)(e:rR a=rR b):a=b:=by
 have h:a.map (fun n=>(IB (some n):IK))=b.map (fun n=>(IB (some n):IK)):=JD e;clear e
 induction a generalizing b with
 |nil=>cases b with
  |nil=>rfl
  |cons _ _=>simp at h
 |cons x r ih=>cases b with
  |nil=>simp at h
  |cons y t=>
   rw[F6,F6]at h;injection h with h1 h2
   injection h1 with h1
   injection h1 with h1
   rw[h1,ih t h2]
noncomputable def fN(ws:List (List Nat))(h:Int):List Nat:=aM (ws.map fun w=>cf w h)
theorem xf(ws:List (List Nat))(h:Int):aM (ws.map fun w=>rR (cf w h))=fN ws h:=by
 unfold fN;rw[<-oC (f:=rR) vQ,I0];rfl
theorem bt.to'{H H':Hp}{p:Addr}{ws:List (List Nat)}(d:bt H p ws)(k:dg H H')(e:∀rs:List Addr,H p=some (.lst (rs.map V.ref))->H' p=some (.lst (rs.map V.ref))):bt H' p ws:=by
 obtain⟨rs,h1,h2⟩:=d;exact⟨rs,e rs h1,iL h2 fun a xs e=>k _ _ e⟩
theorem bt.same'{H H':Hp}{p:Addr}{ws:List (List Nat)}(d:bt H p ws)(s:ah H H'):bt H' p ws:=d.to' s.keep fun rs e=>s _ _ e
theorem qg{rs:List Addr}{i:Nat}{x:V}(hx:(rs.map V.ref)[i]?=some x):∃a,rs[i]?=some a/\x=.ref a:=by
 rw[FZ]at hx;cases e:rs[i]? with
 |none=>rw[e]at hx;cases hx
 |some z=>rw[e]at hx;exact⟨z,rfl,(F1 hx).symm⟩
noncomputable def jo(K:Fg):Sp:=fun vs H Q _=>∃(a:Addr)(ws:List (List Nat))(h:Int),vs=[.ref a,.int h]/\bt H a ws/\(∀w∈ws,w.length<=1000)/\ws.length<=100000/\
 ∀p H',H p=none->ah H H'->H' p=some (.lst (aq (fN ws h)))->Q (.ref p) H'
theorem AF{H:Hp}{xs:List V}{ks:List MK}{x:V}{k:MK}(h:Paired (ca H) xs ks)(q:ca H x k):Paired (ca H) (xs++[x]) (ks++[k]):=by
 induction h with
 |nil=>exact .cons q .nil
 |cons r _ ih=>exact .cons r ih
noncomputable def gH(K:Fg):TS:=(aG (au (dq K) [] E0 (aa (b8 (dc K (ab 0)) (fun _ _ _ _=>(ai 0)) (fun _ _ _ _=>bI) (fun _ _ _ _=>(au (iN K) [] E0 (aa (ab 0) (aa (ab 1) af)))) [none,some 1]) af)))
theorem tX(h:jo K vs H Q E):gH K { nx:=fun _ H'=>Q .non H',rt:=Q } (start ["deals","hand"] vs) H:=by
 obtain⟨a,ws,h,rfl,hD,hw,hl,q⟩:=h;show gH K _ [some _,some _] _;unfold gH;obtain⟨rs,e,hr⟩:=id hD;have hlr:rs.length=ws.length:=GJ hr;right;refine gw (rs.map V.ref) (SqL.of e) (by rw[FQ];omega) (fun i acc H'=>Paired (ca H') acc ((ws.take i).map fun w=>rR (cf w h))) (fun H' _=>.nil) ?_ ?_
 ·rintro p hp C s' H' fp i x acc H2 hx ⟨s2,e2,l2,r2⟩
  obtain⟨b,hb,rfl⟩:=qg hx;obtain⟨w,hwi,ew⟩:=bL hr hb;right;refine⟨b,w.map fun(s:Nat)=>((s:Nat):Int),h,rfl,by rw[<-cO];exact SqT.of (s2 _ _ ew),by rw[FQ];exact hw w (F0 hwi),fun r H3 s3 e3=>?_⟩;rw[FQ]at e3;refine bm.put hp (fun _ _ _ _ r k=>tw r k) (s2.trans s3) (s3 _ _ e2) l2 ?_;rw[cN hwi,Gj];exact AF (tw r2 s3.keep) (xK (ns:=cf w h) e3)
 ·rintro p acc H2 hp s2 e2 r2
  rw[FQ,hlr,GG]at r2;right;refine⟨p,acc,_,true,rfl,e2,r2,?_,by rw[FQ];omega,fun p3 H3 hp3 s3 e3=>?_⟩
  ·intro k hk
   obtain⟨w,_,rfl⟩:=Gh.mp hk;rfl
  ·rw[xf]at e3
   exact q _ _ (s2.free hp3) (s2.trans s3) e3
end
noncomputable def yI:List V->Hp->VK->Prop:=fun xs H Q=>∃n:Nat,xs=[.int (n:Int)]/\n<=1000000/\New H (.rng 0 (n:Int)) fun p H2=>Q (.ref p) H2
noncomputable def uJ:List V->Hp->VK->Prop:=fun xs H Q=>∃(p:Addr)(n:Nat),xs=[.ref p]/\H p=some (.rng 0 (n:Int))/\n<=1000000/\New H (.lst ((F5 n).map fun(i:Nat)=>V.int ((i:Nat):Int))) fun p H2=>Q (.ref p) H2
noncomputable def CI(ta:TA):TE:=tCB uJ (aa (tCB yI ta) af)
theorem Fm{H:Hp}{Q:VK}{n:Nat}(hn:n<=1000000)(h:New H (.lst ((F5 n).map fun(i:Nat)=>V.int ((i:Nat):Int))) fun p H2=>Q (.ref p) H2):New H (.rng 0 (n:Int)) fun p H2=>uJ [.ref p] H2 Q:=
 fun p H' _ s e=>⟨p,n,rfl,e,hn,fun l H2 hl s2 e2=>h l H2 (s.free hl) (s.trans s2) e2⟩
noncomputable def nO(H:Hp)(ts:List Addr)(ps:List (V×V)):Prop:=Paired (fun(t:Addr)(p:V×V)=>H t=some (.tup [p.1,p.2])) ts ps
noncomputable def yJ(S1 S2:Src)(K:Fg)(ta:TA):TE:=fun σ H Q=>ta σ H fun vs H1=>∃a b xs ys,vs=[.ref a,.ref b]/\S1.Sq K H1 a xs/\S2.Sq K H1 b ys/\xs.length<=1000000/\
 ∀p H',H1 p=none->ah H1 H'->(∃ts:List Addr,H' p=some (.lst (ts.map V.ref))/\nO H' ts (xs.zip ys))->Q (.ref p) H'
section
variable{σ:St}{H:Hp}{Q:VK}{K:Fg}
theorem EF{ta:TA}(h:ta σ H fun vs H1=>∃n:Nat,vs=[.int (n:Int)]/\n<=1000000/\New H1 (.rng 0 (n:Int)) fun p H2=>uJ [.ref p] H2 Q):CI ta σ H Q:=h
theorem EG{S1 S2:Src}{ta:TA} (h:ta σ H fun vs H1=>∃a b xs ys,vs=[.ref a,.ref b]/\S1.Sq K H1 a xs/\S2.Sq K H1 b ys/\xs.length<=1000000/\
 ∀p H',H1 p=none->ah H1 H'->(∃ts:List Addr,H' p=some (.lst (ts.map V.ref))/\nO H' ts (xs.zip ys))->Q (.ref p) H'):yJ S1 S2 K ta σ H Q:=h
end
end L2
section
namespace KF
noncomputable def dr(ps:List Nat):Prop:=∀x y:Nat,ps[x]?=some y->y<=x
inductive bi(ps:List Nat):Nat->Nat->Prop where
 |stop {x:Nat} (h:ps[x]?=some x):bi ps x x
 |step {x y r:Nat} (h:ps[x]?=some y) (hl:y<x) (t:bi ps y r):bi ps x r
theorem bi.inj{ps:List Nat}{x r r':Nat}(a:bi ps x r)(b:bi ps x r'):r=r':=by
 induction a with
 |stop h=>cases b with
  |stop _=>rfl
  |step h' hl _=>rw[h]at h';cases h';omega
 |step h hl _ ih=>cases b with
  |stop h'=>rw[h]at h';cases h';omega
  |step h' _ t=>rw[h]at h';cases h';exact ih t
theorem dr.root{ps:List Nat}(f:dr ps):∀x,x<ps.length->∃r,bi ps x r:=by
 intro x
 induction x using Nat.strongRecOn with
 |ind x ih=>
  intro hx;have e:=FN hx;have hy:=f x _ e;rcases Nk hy with h|h
  ·obtain⟨r,hr⟩:=ih _ h (by omega)
   exact⟨r,.step e h hr⟩
  ·rw[h]at e
   exact⟨x,.stop e⟩
theorem bi.le{ps:List Nat}{x r:Nat}(a:bi ps x r):r<=x:=by
 induction a with
 |stop _=>exact FU _
 |step _ hl _ ih=>omega
theorem bi.self{ps:List Nat}{x r:Nat}(a:bi ps x r):ps[r]?=some r:=by
 induction a with
 |stop h=>exact h
 |step _ _ _ ih=>exact ih
theorem bi.lt{ps:List Nat}{x r:Nat}(a:bi ps x r):x<ps.length:=by
 cases a with
 |stop h=>exact(FS.mp h).1
 |step h _ _=>exact(FS.mp h).1
theorem dr.range(n:Nat):dr (F5 n):=fun x y h=>by
 obtain⟨h1,h2⟩:=FS.mp h;rw[La]at h2;omega
theorem bi.range{n x:Nat}(h:x<n):bi (F5 n) x x:=.stop (by rw[GO h])
theorem EH{ps:List Nat}{e g y z:Nat}(h:(ps.set e g)[y]?=some z):(y=e/\z=g)\/(y≠e/\ps[y]?=some z):=by
 rw[IC]at h;by_cases q:e=y
 ·rw[if_pos q]at h
  split at h
  ·cases h;exact .inl ⟨q.symm,rfl⟩
  ·cases h
 ·rw[if_neg q]at h
  exact .inr ⟨fun z=>q z.symm,h⟩
theorem kQ{ps:List Nat}{e g y:Nat}(h:y≠e):(ps.set e g)[y]?=ps[y]?:=by
 rw[IC,if_neg (fun z=>h z.symm)]
theorem ja{ps:List Nat}{e g:Nat}(h:e<ps.length):(ps.set e g)[e]?=some g:=by
 rw[IC,if_pos rfl,if_pos h]
theorem dr.set{ps:List Nat}(f:dr ps){e g:Nat}(h:g<=e):dr (ps.set e g):=fun x y q=>by
 rcases EH q with⟨rfl,rfl⟩|⟨_,q⟩
 ·exact h
 ·exact f x y q
theorem bi.halve{ps:List Nat}(f:dr ps){e p g:Nat}(h1:ps[e]?=some p)(h2:ps[p]?=some g){y r:Nat}(a:bi ps y r):bi (ps.set e g) y r:=by
 have he:e<ps.length:=(FS.mp h1).1
 induction a with
 | @stop x h=>
  by_cases q:x=e
  ·subst q
   rw[h]at h1;cases h1;rw[h]at h2;cases h2;exact .stop (ja he)
  ·exact .stop (by rw[kQ q];exact h)
 | @step x y r h hl t ih=>
  by_cases q:x=e
  ·subst q
   rw[h]at h1;cases h1;have e1:(ps.set x g)[p]?=some g:=by rw[kQ (by omega)];exact h2
   cases ih with
   |stop h'=>
    rw[e1]at h';cases h';exact .step (ja he) hl (.stop e1)
   |step h' hl' t'=>
    rw[e1]at h';cases h';exact .step (ja he) (by omega) t'
  ·exact .step (by rw[kQ q];exact h) hl ih
theorem bi.link{ps:List Nat}{M m:Nat}(hM:ps[M]?=some M)(hm:ps[m]?=some m)(hle:m<=M){y r:Nat}(a:bi ps y r):bi (ps.set M m) y (if r=M then m else r):=by
 have hMl:M<ps.length:=(FS.mp hM).1
 induction a with
 | @stop x h=>
  by_cases q:x=M
  ·subst q
   rw[if_pos rfl];rcases Nk hle with l|l
   ·exact .step (ja hMl) l (.stop (by rw[kQ (by omega)];exact hm))
   ·subst l
    exact .stop (ja hMl)
  ·rw[if_neg q]
   exact .stop (by rw[kQ q];exact h)
 | @step x y r h hl t ih=>
  have q:x≠M:=by
   intro q;subst q;rw[h]at hM;cases hM;omega
  exact .step (by rw[kQ q];exact h) hl ih
inductive bD(P:Nat->Nat->Prop):Nat->Nat->Prop where
 |refl (x:Nat):bD P x x
 |one {x y:Nat} (h:P x y):bD P x y
 |symm {x y:Nat} (h:bD P x y):bD P y x
 |trans {x y z:Nat} (h:bD P x y) (t:bD P y z):bD P x z
theorem bD.mono{P P':Nat->Nat->Prop}(h:∀x y,P x y->P' x y){x y:Nat}(c:bD P x y):bD P' x y:=by
 induction c with
 |refl x=>exact .refl x
 |one q=>exact .one (h _ _ q)
 |symm _ ih=>exact .symm ih
 |trans _ _ a b=>exact .trans a b
theorem bD.keeps{P:Nat->Nat->Prop}{α:Type}{f:Nat->α}(h:∀x y,P x y->f x=f y){x y:Nat}(c:bD P x y):f x=f y:=by
 induction c with
 |refl x=>rfl
 |one q=>exact h _ _ q
 |symm _ ih=>exact ih.symm
 |trans _ _ a b=>exact a.trans b
noncomputable def cK(n:Nat)(vs:List (List Nat))(x y:Nat):Prop:=∃v∈vs,x<n/\v[x]?=some y
structure jb(n:Nat)(P:Nat->Nat->Prop)(r:List Nat):Prop where
 len:r.length=n
 le:∀i x:Nat,r[i]?=some x->x<=i
 conn:∀i x:Nat,r[i]?=some x->bD P i x
 same:∀i j:Nat,i<n->j<n->bD P i j->r[i]?=r[j]?
theorem jb.uniq{n:Nat}{P P':Nat->Nat->Prop}{r r':List Nat}(a:jb n P r)(b:jb n P' r')(h1:∀x y,bD P x y->bD P' x y)(h2:∀x y,bD P' x y->bD P x y):r=r':=by
 refine GW fun i=>?_;by_cases hi:i<n
 ·obtain⟨x,e1⟩:∃x,r[i]?=some x:=⟨_,FN (l:=r) (i:=i) (by rw[a.len];exact hi)⟩
  obtain⟨y,e2⟩:∃y,r'[i]?=some y:=⟨_,FN (l:=r') (i:=i) (by rw[b.len];exact hi)⟩;have lx:=a.le i x e1;have ly:=b.le i y e2;have c1:=a.conn i x e1;have c2:=b.conn i y e2;have ex:r[y]?=some x:=by rw[<-a.same i y hi (by omega) (h2 _ _ c2)];exact e1
  have ey:r'[x]?=some y:=by rw[<-b.same i x hi (by omega) (h1 _ _ c1)];exact e2
  have q1:=a.le y x ex;have q2:=b.le x y ey;rw[e1,e2,show x=y by omega]
 ·rw[Gd (by rw[a.len];omega),Gd (by rw[b.len];omega)]
structure dP(n:Nat)(P:Nat->Nat->Prop)(ps:List Nat):Prop where
 len:ps.length=n
 forest:dr ps
 conn:∀x r,bi ps x r->bD P x r
 same:∀x y,P x y->∃r,bi ps x r/\bi ps y r
theorem dP.join{n:Nat}{P:Nat->Nat->Prop}{ps r:List Nat}(t:dP n P ps)(hl:r.length=n)(hr:∀i x:Nat,r[i]?=some x->bi ps i x):jb n P r where
 len:=hl
 le:=fun i x h=>(hr i x h).le
 conn:=fun i x h=>t.conn _ _ (hr i x h)
 same:=by
  have key:∀i j,bD P i j->∀x,(bi ps i x↔bi ps j x):=by
   intro i j c
   induction c with
   |refl x=>intro x;exact Iff.rfl
   |one q=>
    intro x;obtain⟨r,h1,h2⟩:=t.same _ _ q;exact⟨fun a=>by rw[a.inj h1];exact h2,fun a=>by rw[a.inj h2];exact h1⟩
   |symm _ ih=>intro x;exact(ih x).symm
   |trans _ _ a b=>intro x;exact(a x).trans (b x)
  intro i j hi hj c;have e1:=FN (l:=r) (i:=i) (by rw[hl];exact hi);have e2:=FN (l:=r) (i:=j) (by rw[hl];exact hj);have q1:=(key i j c _).mp (hr _ _ e1);rw[e1,e2,q1.inj (hr _ _ e2)]
theorem dP.start(n:Nat):dP n (fun _ _=>False) (F5 n) where
 len:=G5
 forest:=dr.range n
 conn:=fun x r h=>by
  have hx:x<n:=by have:=h.lt;rw[G5]at this;exact this
  rw[h.inj (bi.range hx)];exact .refl x
 same:=fun _ _ h=>h.elim
theorem dP.moved{n:Nat}{P:Nat->Nat->Prop}{ps ps':List Nat}(t:dP n P ps)(f:dr ps')(hl:ps'.length=n)(h:∀y r,bi ps y r->bi ps' y r):dP n P ps' where
 len:=hl
 forest:=f
 conn:=fun x r a=>by
  obtain⟨r',b⟩:=t.forest.root x (by rw[t.len,<-hl];exact a.lt);rw[a.inj (h _ _ b)];exact t.conn _ _ b
 same:=fun x y q=>by
  obtain⟨r,h1,h2⟩:=t.same x y q;exact⟨r,h _ _ h1,h _ _ h2⟩
theorem dP.link{n:Nat}{P P':Nat->Nat->Prop}{ps:List Nat}{a b ra rb M m:Nat}(t:dP n P ps)(ha:bi ps a ra)(hb:bi ps b rb)(hM:(M=ra/\m=rb)\/(M=rb/\m=ra))(hle:m<=M)
  (h1:∀x y,P x y->P' x y) (h2:∀x y,P' x y->P x y\/(x=a/\y=b)) (h3:P' a b):dP n P' (ps.set M m):=by
 have sM:ps[M]?=some M:=by
  rcases hM with⟨rfl,_⟩|⟨rfl,_⟩
  ·exact ha.self
  ·exact hb.self
 have sm:ps[m]?=some m:=by
  rcases hM with⟨_,rfl⟩|⟨_,rfl⟩
  ·exact hb.self
  ·exact ha.self
 have cMm:bD P' M m:=by
  have c1:bD P' a ra:=(t.conn _ _ ha).mono h1;have c2:bD P' b rb:=(t.conn _ _ hb).mono h1;rcases hM with⟨rfl,rfl⟩|⟨rfl,rfl⟩
  ·exact .trans (.symm c1) (.trans (.one h3) c2)
  ·exact .trans (.symm c2) (.trans (.symm (.one h3)) c1)
 have rt:∀{y r:Nat},bi ps y r->bi (ps.set M m) y (if r=M then m else r):=fun q=>bi.link sM sm hle q;refine⟨by rw[Hj];exact t.len,t.forest.set hle,fun x r q=>?_,fun x y q=>?_⟩
 ·obtain⟨r',h⟩:=t.forest.root x (by have:=q.lt;rw[Hj]at this;exact this)
  rw[q.inj (rt h)];have c:bD P' x r':=(t.conn _ _ h).mono h1
  split
  ·rename_i e
   rw[e]at c;exact .trans c cMm
  ·exact c
 ·rcases h2 x y q with q|⟨rfl,rfl⟩
  ·obtain⟨r,q1,q2⟩:=t.same x y q
   exact⟨_,rt q1,rt q2⟩
  ·refine⟨m,?_,?_⟩
   ·have:=rt ha
    rcases hM with⟨e1,e2⟩|⟨e1,e2⟩
    ·rw[if_pos e1.symm]at this;exact this
    ·by_cases z:ra=M
     ·rw[if_pos z]at this;exact this
     ·rw[if_neg z,<-e2]at this;exact this
   ·have:=rt hb
    rcases hM with⟨e1,e2⟩|⟨e1,e2⟩
    ·by_cases z:rb=M
     ·rw[if_pos z]at this;exact this
     ·rw[if_neg z,<-e2]at this;exact this
    ·rw[if_pos e1.symm]at this;exact this
end KF
end
namespace L2
open PySem PyProof.Rows
section
variable{K:Fg}{vs:List V}{H:Hp}{Q:VK}{E:XK}
open KF
section
variable{g:CF TG}{tt:CF TT}{te:CF TE}{σ₀:St}{Q:VK}{H:Hp}{K:Fg}
theorem AG{j:Int}(n:Nat)(hn:j.toNat=n)(hj:j<=1000000)(hj0:-1000000<=j)(R:Addr->Nat->List V->Hp->Prop)(h0:∀p H',H p=none->ah H H'->H' p=some (.lst [])->R p 0 [] H')
  (hp:∀p i acc H',R p i acc H'->H' p=some (.lst acc)/\acc.length<=i)
  (hs:∀p,H p=none->∀C s' H' fp,∀i acc H2,i<n->R p i acc H2->g C s' H' fp (.int i) σ₀ H2 fun σ2 H3=>tt C s' H' fp σ2 H3 fun b H4=>if b=true then te C s' H' fp σ2 H4 fun y H5=>H5 p=some (.lst acc)/\R p (i+1) (acc++[y]) (upd H5 p (.lst (acc++[y])))else R p (i+1) acc H4)
  (hd:∀p acc H2,H p=none->R p n acc H2->Q (.ref p) H2):
  ∃j':Int,[V.int j]=[.int j']/\-(2^62)<=j'/\j'<2^62/\∀p,H p=none->∃W:Nat->Nat->List V->Hp->Prop,(∃m,W 0 m [] (upd H p (.lst [])))/\∀C s' H' fp,bV (Itr 0 j'.toNat) (g C s' H' fp) (tt C s' H' fp) (te C s' H' fp) σ₀ p Q W:=by
 refine⟨j,rfl,by omega,by omega,fun p hpn=>?_⟩;subst hn;exact lu (lo:=0) (R p) (h0 p _ hpn (aX hpn _) av) (fun i acc H2 _ c=>hp p i acc H2 c) (by rw[FV];omega) (fun C s' H' fp i acc H2 hi c=>by rw[LD];exact hs p hpn C s' H' fp i acc H2 hi c) fun acc H2 c=>hd p acc H2 hpn c
end
theorem rS{n j:Nat}(h:j<n):ixN n (j:Int)=some j:=by unfold ixN;rw[if_pos (by omega),if_pos (by omega)];simp
theorem yK(n:Nat):(F5 n).map (fun(i:Nat)=>V.int ((i:Nat):Int))=aq (F5 n):=rfl
noncomputable def jc(_:Fg):Sp:=fun vs H Q _=>∃(p:Addr)(ps:List Nat)(x r:Nat),vs=[.ref p,.int (x:Int)]/\H p=some (.lst (aq ps))/\dr ps/\bi ps x r/\
 ∀H' ps',Off p H H'->H' p=some (.lst (aq ps'))->ps'.length=ps.length->dr ps'->(∀y s,bi ps y s->bi ps' y s)->Q (.int (r:Int)) H'
noncomputable def lM(K:Fg):TS:=(ap (az (ab 1) (ai 2))
 (ap (jN (ba (tOp rNe (tOp (b9 K) (ab 0) (ab 2)) (ab 2))) (ap (az (tOp (b9 K) (ab 0) (tOp (b9 K) (ab 0) (ab 2))) (km (ab 0) (ab 2) jw))
 (az (tOp (b9 K) (ab 0) (ab 2)) (ai 2))))
 (aG (ab 2))))
theorem BS{p:Addr}{H:Hp}:Off p H H:=fun _ _=>rfl
theorem mR{p:Addr}{H H1 H2:Hp}(a:Off p H H1)(b:Off p H1 H2):Off p H H2:=fun c hc=>(b c hc).trans (a c hc)
theorem AH(h:jc K vs H Q E):lM K { nx:=fun _ H'=>Q .non H',rt:=Q } (start ["points","thing","end"] vs) H:=by
 obtain⟨p,ps,x,r,rfl,e,hf,hr,q⟩:=h;show lM K _ [some _,some _,none] _;unfold lM;right;refine uF (fun m σ H1=>∃(ps':List Nat),σ=[some (.ref p),some (.int (x:Int)),some (.int (m:Int))]/\Off p H H1/\H1 p=some (.lst (aq ps'))/\ps'.length=ps.length/\dr ps'/\(∀y s,bi ps y s->bi ps' y s)/\bi ps' m r) x ⟨ps,rfl,BS,e,rfl,hf,fun _ _ h=>h,hr⟩ ?_;rintro m σ H1 ⟨ps',rfl,o1,e1,hl,hf1,hk,hr1⟩;have hm:=hr1.lt;obtain⟨y,hy⟩:∃y,ps'[m]?=some y:=⟨_,FN hm⟩;right;refine bH (SqL.of e1) (cD hy) ?_;right;refine vx (fun c=>?_) (fun c=>?_)
 ·have hym:y<m:=by have:=hf1 m y hy;omega
  obtain⟨g,hg⟩:∃g,ps'[y]?=some g:=⟨_,FN (by omega)⟩;have hgy:=hf1 y g hg;refine uE ?_;right;refine bH (SqL.of e1) (cD hy) ?_;right;refine bH (SqL.of e1) (cD hg) ?_;right;refine kL e1 (rS (by rw[aS];exact hm)) ?_;rw[lL];right;refine bH (SqL.of av) (cD (z:=g) (ja hm)) ?_;right;refine⟨g,by omega,ps'.set m g,rfl,mR o1 fq,av,by rw[Hj];exact hl,hf1.set (by omega),fun a s h=>bi.halve hf1 hy hg (hk a s h),?_⟩;have:=bi.halve hf1 hy hg hr1;cases this with
  |stop h=>
   rw[ja hm]at h;cases h;omega
  |step h _ t=>
   rw[ja hm]at h;cases h;exact t
 ·have:y=m:=by omega
  subst this;right;have er:y=r:=(bi.stop hy).inj hr1;rw[er];exact q H1 ps' o1 e1 hl hf1 hk
noncomputable def rT(_:Fg):Sp:=fun vs H Q _=>∃(p:Addr)(ps:List Nat)(n:Nat)(P P':Nat->Nat->Prop)(a b:Nat),vs=[.ref p,.int (a:Int),.int (b:Int)]/\H p=some (.lst (aq ps))/\dP n P ps/\a<n/\b<n/\
 (∀x y,P x y->P' x y)/\(∀x y,P' x y->P x y\/(x=a/\y=b))/\P' a b/\∀H' ps',Off p H H'->H' p=some (.lst (aq ps'))->dP n P' ps'->Q .non H'
noncomputable def qh(K:Fg):TS:=(ap (az (au (jc K) [] E0 (aa (ab 0) (aa (ab 1) af))) (ai 3))
 (ap (az (au (jc K) [] E0 (aa (ab 0) (aa (ab 2) af))) (ai 4))
 (az (tCB yu (aa (ab 3) (aa (ab 4) af))) (km (ab 0) (tCB CB (aa (ab 3) (aa (ab 4) af))) jw))))
theorem Dl(h:rT K vs H Q E):qh K { nx:=fun _ H'=>Q .non H',rt:=Q } (start ["points","one","other","first","second"] vs) H:=by
 obtain⟨p,ps,n,P,P',a,b,rfl,e,ht,ha,hb,h1,h2,h3,q⟩:=h;show qh K _ [some _,some _,some _,none,none] _;unfold qh;obtain⟨ra,hra⟩:=ht.forest.root a (by rw[ht.len];exact ha);right;refine⟨p,ps,a,ra,rfl,e,ht.forest,hra,fun H1 ps1 o1 e1 l1 f1 k1=>?_⟩;have ht1:=ht.moved f1 (by rw[l1];exact ht.len) k1;obtain⟨rb,hrb⟩:=ht1.forest.root b (by rw[ht1.len];exact hb);right;refine⟨p,ps1,b,rb,rfl,e1,f1,hrb,fun H2 ps2 o2 e2 l2 f2 k2=>?_⟩;have ht2:=ht1.moved f2 (by rw[l2];exact ht1.len) k2;have hra2:=k2 _ _ (k1 _ _ hra);have hrb2:=k2 _ _ hrb;right;have la:=hra2.le;have lb:=hrb2.le;obtain⟨M,m,hM,hm,hd,hle⟩:∃M m:Nat,(if(rb:Int)>(ra:Int)then(rb:Int)else(ra:Int))=(M:Int)/\(if(rb:Int)<(ra:Int)then(rb:Int)else(ra:Int))=(m:Int)/\((M=ra/\m=rb)\/(M=rb/\m=ra))/\m<=M:=by
  by_cases c:rb<ra
  ·exact⟨ra,rb,by rw[if_neg (by omega)],by rw[if_pos (by omega)],.inl ⟨rfl,rfl⟩,by omega⟩
  ·by_cases d:ra<rb
   ·exact⟨rb,ra,by rw[if_pos (by omega)],by rw[if_neg (by omega)],.inr ⟨rfl,rfl⟩,by omega⟩
   ·exact⟨ra,ra,by rw[if_neg (by omega)],by rw[if_neg (by omega)],.inr ⟨by omega,rfl⟩,FU _⟩
 rw[hm,hM];have hMl:M<ps2.length:=by
  rw[ht2.len];rcases hd with⟨rfl,_⟩|⟨rfl,_⟩<;>omega
 refine kL e2 (rS (by rw[aS];exact hMl)) ?_;rw[lL];exact q _ _ (mR (mR o1 o2) fq) av (ht2.link hra2 hrb2 hd hle h1 h2 h3)
noncomputable def cj(H:Hp)(a:Addr)(vs:List (List Nat)):Prop:=∃rs:List Addr,H a=some (.lst (rs.map V.ref))/\Paired (fun(r:Addr)(v:List Nat)=>H r=some (.lst (aq v))) rs vs
theorem cj.same{H H':Hp}{a:Addr}{vs:List (List Nat)}(h:cj H a vs)(s:ah H H'):cj H' a vs:=by
 obtain⟨rs,e,r⟩:=h;exact⟨rs,s _ _ e,Paired.mapP r fun _ _ q=>s _ _ q⟩
noncomputable def Within(n:Nat)(v:List Nat):Prop:=v.length=n/\∀x∈v,x<n
theorem kR{rs:List Addr}{i:Nat}{x:V}(hx:(rs.map V.ref)[i]?=some x):∃a,rs[i]?=some a/\x=.ref a:=by
 rw[FZ]at hx;cases e:rs[i]? with
 |none=>rw[e]at hx;cases hx
 |some z=>rw[e]at hx;exact⟨z,rfl,(F1 hx).symm⟩
noncomputable def mS(_:Fg):Sp:=fun vs H Q _=>∃(n:Nat)(a:Addr)(ws:List (List Nat)),vs=[.int (n:Int),.ref a]/\cj H a ws/\(∀v∈ws,Within n v)/\n<=100000/\
 ∀r p H',jb n (cK n ws) r->H p=none->ah H H'->H' p=some (.lst (aq r))->Q (.ref p) H'
noncomputable def lN(K:Fg):TS:=(ap (az (CI (aa (ab 0) af)) (ai 2))
 (ap (cc (dc K (ab 1)) (ai 3) (cc (lv bj K (aa (ab 3) af)) (gj K 2 (bF (ai 4) (bF (ai 5) gi))) (dY (au (rT K) [] E0 (aa (ab 2) (aa (ab 4) (aa (ab 5) af)))))))
 (aG (b8 (dD (aa (ab 0) af)) (fun _ _ _ _=>(ai 0)) (fun _ _ _ _=>bI) (fun _ _ _ _=>(au (jc K) [] E0 (aa (ab 1) (aa (ab 0) af)))) [none,some 2]))))
theorem yL{n:Nat}{ws:List (List Nat)}{i:Nat}{v:List Nat}(hv:ws[i]?=some v){x y:Nat}:cK n (ws.take (i+1)) x y↔cK n (ws.take i) x y\/(x<n/\v[x]?=some y):=by
 unfold cK;rw[cN hv];constructor
 ·rintro⟨w,hw,h1,h2⟩
  rcases Gv.mp hw with hw|hw
  ·exact .inl ⟨w,hw,h1,h2⟩
  ·rw[FR.mp hw]at h2;exact .inr ⟨h1,h2⟩
 ·rintro(⟨w,hw,h1,h2⟩|⟨h1,h2⟩)
  ·exact⟨w,G8 _ hw,h1,h2⟩
  ·exact⟨v,GB _ (FR.mpr rfl),h1,h2⟩
theorem _root_.KF.dP.congr{n:Nat}{P P':Nat->Nat->Prop}{ps:List Nat}(t:dP n P ps)(h:∀x y,P x y↔P' x y):dP n P' ps:=by
 have e:P=P':=by funext x y;exact propext (h x y)
 rw[<-e];exact t
theorem AI(h:mS K vs H Q E):lN K { nx:=fun _ H'=>Q .non H',rt:=Q } (start ["many","views","points","view","thing","least"] vs) H:=by
 obtain⟨n,a,ws,rfl,hV,hw,hn,q⟩:=h;show lN K _ [some _,some _,none,none,none,none] _;unfold lN;obtain⟨rs,ea,hr⟩:=id hV;have hlr:rs.length=ws.length:=GJ hr;right;refine EF ?_;right;refine⟨n,rfl,by omega,Fm (by omega) fun p H1 hp s1 e1=>?_⟩;rw[yK]at e1;right;refine kN (rs.map V.ref) (SqL.of (s1 _ _ ea)) (fun i σ H2=>∃(u1 u2 u3:Option V)(ps:List Nat),σ=[some (.int (n:Int)),some (.ref a),some (.ref p),u1,u2,u3]/\ah H H2/\H2 p=some (.lst (aq ps))/\dP n (cK n (ws.take i)) ps) ?_ ?_ ?_ ?_
 ·refine⟨_,_,_,_,rfl,s1,e1,(dP.start n).congr fun x y=>⟨fun h=>h.elim,fun⟨w,hw,_⟩=>by simp at hw⟩⟩
 ·rintro i σ H2 hi ⟨u1,u2,u3,ps,rfl,s2,e2,t2⟩
  exact SqL.of (s2 _ _ ea)
 ·rintro i x σ H2 hx ⟨u1,u2,u3,ps,rfl,s2,e2,t2⟩
  obtain⟨b,hb,rfl⟩:=kR hx;obtain⟨v,hv,ev⟩:=bL hr hb;obtain⟨hvl,hvx⟩:=hw v (F0 hv);right;refine rN (S:=bj) (aq v) (SqL.of (s2 _ _ ev)) (fun j σ H3=>∃(u2 u3:Option V)(ps:List Nat),σ=[some (.int (n:Int)),some (.ref a),some (.ref p),some (.ref b),u2,u3]/\ah H H3/\H3 p=some (.lst (aq ps))/\dP n (fun x y=>cK n (ws.take i) x y\/(x<j/\v[x]?=some y)) ps) ?_ ?_ ?_ ?_
  ·exact⟨_,_,ps,rfl,s2,e2,t2.congr fun x y=>⟨.inl,fun h=>h.elim (fun h=>h) fun h=>absurd h.1 (by omega)⟩⟩
  ·rintro j σ H3 hj ⟨u2,u3,ps,rfl,s3,e3,t3⟩
   exact SqL.of (s3 _ _ ev)
  ·rintro j x T σ H3 H4 hx ⟨u2,u3,ps,rfl,s3,e3,t3⟩ hT s4 eT
   obtain⟨z,hz,rfl⟩:=fu hx;have hjl:j<v.length:=(FS.mp hz).1;refine eW (SqT.of eT) ?_;right;refine⟨p,ps,n,_,(fun x y=>cK n (ws.take i) x y\/(x<j+1/\v[x]?=some y)),j,z,rfl,s4 _ _ e3,t3,by omega,hvx z (F0 hz),?_,?_,.inr ⟨by omega,hz⟩,fun H5 ps5 o5 e5 t5=>?_⟩
   ·rintro x y (h|h)
    ·exact .inl h
    ·exact .inr ⟨by omega,h.2⟩
   ·rintro x y (h|⟨h1,h2⟩)
    ·exact .inl (.inl h)
    ·by_cases c:x=j
     ·subst c
      rw[hz]at h2;cases h2;exact .inr ⟨rfl,rfl⟩
     ·exact .inl (.inr ⟨by omega,h2⟩)
   ·exact⟨_,_,ps5,rfl,(s3.trans s4).off hp o5,e5,t5⟩
  ·rintro σ H3 ⟨u2,u3,ps,rfl,s3,e3,t3⟩
   rw[aS]at t3;exact⟨_,_,_,ps,rfl,s3,e3,t3.congr fun x y=>by rw[yL hv,hvl]⟩
 ·rintro σ H2 ⟨u1,u2,u3,ps,rfl,s2,e2,t2⟩
  rw[FQ,hlr,GG]at t2;right;refine AG n (by omega) (by omega) (by omega) (fun l i acc H3=>∃(ps' rr:List Nat),acc=aq rr/\rr.length=i/\H3 l=some (.lst acc)/\l≠p/\H l=none/\ah H H3/\H3 p=some (.lst (aq ps'))/\dP n (cK n ws) ps'/\(∀y s,bi ps y s->bi ps' y s)/\∀k x:Nat,rr[k]?=some x->bi ps k x) ?_ ?_ ?_ ?_
  ·intro l H3 hl s3 e3
   exact⟨ps,[],rfl,rfl,e3,(aP e2 hl).symm,s2.free hl,s2.trans s3,s3 _ _ e2,t2,fun _ _ h=>h,fun k x h=>by simp at h⟩
  ·rintro l i acc H3 ⟨ps',rr,rfl,hl,e3,_⟩
   exact⟨e3,by rw[aS];omega⟩
  ·rintro l hl C s' H' fp i acc H3 hi ⟨ps',rr,rfl,hlr',e3,nl,hlH,s3,ep3,t3,k3,g3⟩
   obtain⟨r,hr⟩:=t2.forest.root i (by rw[t2.len];exact hi);right;refine⟨p,ps',i,r,rfl,ep3,t3.forest,k3 _ _ hr,fun H4 ps4 o4 e4 l4 f4 k4=>?_⟩;refine⟨by rw[o4 l nl];exact e3,ps4,rr++[r],eX rr r,by simp[hlr'],av,nl,hlH,(s3.off hp o4).off hlH fq,by rw[aO nl.symm];exact e4,t3.moved f4 (by rw[l4];exact t3.len) k4,fun y s h=>k4 _ _ (k3 _ _ h),fun k x h=>?_⟩;rw[List.getElem?_append]at h;by_cases c:k<rr.length
   ·rw[if_pos c]at h
    exact g3 k x h
   ·rw[if_neg c]at h
    have hk:k=i:=by
     by_cases d:k-rr.length=0
     ·omega
     ·rw[Gd (by simp;omega)]at h;cases h
    subst hk;rw[<-hlr',LG]at h;cases h;exact hr
  ·rintro l acc H3 hl ⟨ps',rr,rfl,hlr',e3,nl,hlH,s3,ep3,t3,k3,g3⟩
   exact q rr l H3 (t2.join hlr' g3) hlH s3 e3
end
section
variable{g:CF TG}{tt:CF TT}{te:CF TE}{σ₀:St}{Q:VK}{H:Hp}{K:Fg}
end
theorem lO{H:Hp}{a:Addr}{fs:List (List Nat)}(h:cj H a fs):∃rs:List Addr,H a=some (.lst (rs.map V.ref))/\rs.length=fs.length/\∀(i:Nat)(r:Addr),rs[i]?=some r->∃v,fs[i]?=some v/\H r=some (.lst (aq v)):=by
 obtain⟨rs,e,p⟩:=h;exact⟨rs,e,GJ p,fun i r hr=>bL p hr⟩
end L2
section
namespace L2
open PySem PyProof.Rows
set_option genInjectivity false in
inductive Sy where
 |holds (w c:Nat)|sees (h:Nat)|not (s:Sy)|and (s t:Sy)|or (s t:Sy)|knows (h:Nat) (s:Sy)|all (g:List Nat) (s:Sy)|common (g:List Nat) (s:Sy)
namespace Sy
noncomputable def words:Sy->Nat
 | .holds _ _=>1 | .sees _=>1 | .not s=>s.words+1 | .and s t=>s.words+t.words+1 | .or s t=>s.words+t.words+1 | .knows _ s=>s.words+1 | .all _ s=>s.words+1 | .common _ s=>s.words+1
noncomputable def subs:Sy->List Sy
 | .holds _ _=>[] | .sees _=>[] | .not s=>[s] | .and s t=>[s,t] | .or s t=>[s,t] | .knows _ s=>[s] | .all _ s=>[s] | .common _ s=>[s]
noncomputable def word:Sy->Str
 | .holds _ _=>"holds" | .sees _=>"sees" | .not _=>"not" | .and _ _=>"and" | .or _ _=>"or" | .knows _ _=>"knows" | .all _ _=>"all" | .common _ _=>"common"
noncomputable def form:Sy->List Str
 | .holds _ _=>["holder","card"] | .sees _=>["hand"] | .not _=>["saying"] | .and _ _=>["saying","saying"] | .or _ _=>["saying","saying"] | .knows _ _=>["hand","saying"] | .all _ _=>["hands","saying"] | .common _ _=>["hands","saying"]
noncomputable def plain:Sy->Bool
 | .holds _ _=>true | .not _=>true | .and _ _=>true | .or _ _=>true|_=>false
noncomputable def alone:Sy->Bool
 | .holds _ _=>true | .sees _=>false | .not s=>s.alone | .and s t=>s.alone&&t.alone | .or s t=>s.alone&&t.alone | .knows _ _=>false | .all _ _=>false | .common _ _=>false
noncomputable def Ok(cards hands:Nat):Sy->Prop
 | .holds w c=>w<=hands/\c<cards | .sees h=>h<hands | .not s=>s.Ok cards hands | .and s t=>s.Ok cards hands/\t.Ok cards hands | .or s t=>s.Ok cards hands/\t.Ok cards hands
 | .knows h s=>h<hands/\s.Ok cards hands | .all g s=>(g.Pairwise (· < ·)/\∀k∈g,k<hands)/\s.Ok cards hands | .common g s=>(g.Pairwise (· < ·)/\∀k∈g,k<hands)/\s.Ok cards hands
theorem words_pos(s:Sy):1<=s.words:=by cases s<;>simp[words]
theorem words_subs(s:Sy):s.words=1+(s.subs.map words).sum:=by cases s<;>simp[words,subs]<;>omega
theorem sub_words{s t:Sy}(h:t∈s.subs):t.words+1<=s.words:=by
 rw[words_subs s];have:=gE (KI (f:=words) h);omega
end Sy
noncomputable def aD(H:Hp):V->Sy->Prop
 |v,.holds w c=>∃a,v=.ref a/\H a=some (.tup [.str "holds",.int w,.int c])
 |v,.sees h=>∃a,v=.ref a/\H a=some (.tup [.str "sees",.int h])
 |v,.not s=>∃a x,v=.ref a/\H a=some (.tup [.str "not",x])/\aD H x s
 |v,.and s t=>∃a x y,v=.ref a/\H a=some (.tup [.str "and",x,y])/\aD H x s/\aD H y t
 |v,.or s t=>∃a x y,v=.ref a/\H a=some (.tup [.str "or",x,y])/\aD H x s/\aD H y t
 |v,.knows h s=>∃a x,v=.ref a/\H a=some (.tup [.str "knows",.int h,x])/\aD H x s
 |v,.all g s=>∃a b x,v=.ref a/\H a=some (.tup [.str "all",.ref b,x])/\H b=some (.tup (aq g))/\aD H x s
 |v,.common g s=>∃a b x,v=.ref a/\H a=some (.tup [.str "common",.ref b,x])/\H b=some (.tup (aq g))/\aD H x s
theorem aD.keep{H H':Hp}(k:dg H H'):∀{s:Sy} {v:V},aD H v s->aD H' v s
 | .holds _ _,_,⟨a,e,h⟩=>⟨a,e,k _ _ h⟩
 | .sees _,_,⟨a,e,h⟩=>⟨a,e,k _ _ h⟩
 | .not _,_,⟨a,x,e,h,r⟩=>⟨a,x,e,k _ _ h,aD.keep k r⟩
 | .and _ _,_,⟨a,x,y,e,h,r,q⟩=>⟨a,x,y,e,k _ _ h,aD.keep k r,aD.keep k q⟩
 | .or _ _,_,⟨a,x,y,e,h,r,q⟩=>⟨a,x,y,e,k _ _ h,aD.keep k r,aD.keep k q⟩
 | .knows _ _,_,⟨a,x,e,h,r⟩=>⟨a,x,e,k _ _ h,aD.keep k r⟩
 | .all _ _,_,⟨a,b,x,e,h,i,r⟩=>⟨a,b,x,e,k _ _ h,k _ _ i,aD.keep k r⟩
 | .common _ _,_,⟨a,b,x,e,h,i,r⟩=>⟨a,b,x,e,k _ _ h,k _ _ i,aD.keep k r⟩
noncomputable def gq(form:List Str)(items:List V):List V:=((form.zip items).filter fun p=>decide (p.1=("saying":Str))).map (·.2)
noncomputable def fw(H:Hp)(xs:List V)(ss:List Sy):Prop:=Paired (aD H) xs ss
theorem fw.keep{H H':Hp}(k:dg H H'){xs:List V}{ss:List Sy}(h:fw H xs ss):fw H' xs ss:=Paired.mapP h fun _ _ r=>r.keep k
theorem ns1:decide (("holder":Str)="saying")=false:=by decide+kernel
theorem ns2:decide (("card":Str)="saying")=false:=by decide+kernel
theorem ns3:decide (("hand":Str)="saying")=false:=by decide+kernel
theorem ns4:decide (("hands":Str)="saying")=false:=by decide+kernel
theorem Dm{H:Hp}{v:V}{s:Sy}(h:aD H v s):∃a items,v=.ref a/\H a=some (.tup (.str s.word::items))/\items.length=s.form.length/\fw H (gq s.form items) s.subs:=by
 cases s with
 |holds w c=>obtain⟨a,e,h⟩:=h;exact⟨a,_,e,h,rfl,by simp only[gq,Sy.form,Ha,Ih,HW,ns1,ns2];exact .nil⟩
 |sees w=>obtain⟨a,e,h⟩:=h;exact⟨a,_,e,h,rfl,by simp only[gq,Sy.form,Ha,Ih,HW,ns3];exact .nil⟩
 |not s=>obtain⟨a,x,e,h,r⟩:=h;exact⟨a,_,e,h,rfl,by simp only[gq,Sy.form,Ha,Ih,HW,decide_true];exact .cons r .nil⟩
 |and s t=>obtain⟨a,x,y,e,h,r,q⟩:=h;exact⟨a,_,e,h,rfl,by simp only[gq,Sy.form,Ha,Ih,HW,decide_true];exact .cons r (.cons q .nil)⟩
 |or s t=>obtain⟨a,x,y,e,h,r,q⟩:=h;exact⟨a,_,e,h,rfl,by simp only[gq,Sy.form,Ha,Ih,HW,decide_true];exact .cons r (.cons q .nil)⟩
 |knows w s=>obtain⟨a,x,e,h,r⟩:=h;exact⟨a,_,e,h,rfl,by simp only[gq,Sy.form,Ha,Ih,HW,decide_true,ns3];exact .cons r .nil⟩
 |all g s=>obtain⟨a,b,x,e,h,i,r⟩:=h;exact⟨a,_,e,h,rfl,by simp only[gq,Sy.form,Ha,Ih,HW,decide_true,ns4];exact .cons r .nil⟩
 |common g s=>obtain⟨a,b,x,e,h,i,r⟩:=h;exact⟨a,_,e,h,rfl,by simp only[gq,Sy.form,Ha,Ih,HW,decide_true,ns4];exact .cons r .nil⟩
set_option genInjectivity false in
structure Glo where
 forms:Addr
 cw:Addr
 f1:Addr
 f2:Addr
 f3:Addr
 f4:Addr
 f5:Addr
 f6:Addr
 f7:Addr
 f8:Addr
noncomputable def Glo.kvs(G:Glo):List (Str×V):=[("holds",.ref G.f1),("not",.ref G.f2),("and",.ref G.f3),("or",.ref G.f4),("knows",.ref G.f5),("all",.ref G.f6),("common",.ref G.f7),("sees",.ref G.f8)]
structure qj(K:Fg)(G:Glo):Prop where
 t1:jn K G.f1 [.str "holder",.str "card"]
 t2:jn K G.f2 [.str "saying"]
 t3:jn K G.f3 [.str "saying",.str "saying"]
 t4:jn K G.f4 [.str "saying",.str "saying"]
 t5:jn K G.f5 [.str "hand",.str "saying"]
 t6:jn K G.f6 [.str "hands",.str "saying"]
 t7:jn K G.f7 [.str "hands",.str "saying"]
 t8:jn K G.f8 [.str "hand"]
theorem qj.form{K:Fg}{G:Glo}(g:qj K G)(s:Sy):∃f,G.kvs.lookup s.word=some (.ref f)/\jn K f (s.form.map V.str):=by
 cases s with
 |holds w c=>exact⟨G.f1,rfl,g.t1⟩
 |sees w=>exact⟨G.f8,rfl,g.t8⟩
 |not s=>exact⟨G.f2,rfl,g.t2⟩
 |and s t=>exact⟨G.f3,rfl,g.t3⟩
 |or s t=>exact⟨G.f4,rfl,g.t4⟩
 |knows w s=>exact⟨G.f5,rfl,g.t5⟩
 |all g' s=>exact⟨G.f6,rfl,g.t6⟩
 |common g' s=>exact⟨G.f7,rfl,g.t7⟩
theorem jK(x:V)(xs:List V):atI (x::xs) 0=some x:=by
 have:atI (x::xs) ((0:Nat):Int)=some x:=dh rfl;exact this
theorem AJ(form:List Str)(items:List V)(i:Nat)(f:Str)(x:V)(hf:form[i]?=some f)(hx:items[i]?=some x):gq (form.take (i+1)) (items.take (i+1))=gq (form.take i) (items.take i)++(if f="saying" then[x]else[]):=by
 unfold gq;have e:(form.take (i+1)).zip (items.take (i+1))=(form.take i).zip (items.take i)++[(f,x)]:=by
  rw[Hx,Hx,hf,hx];rw[List.zip_append (by
   have h1:=(FS.mp hf).1;have h2:=(FS.mp hx).1;rw[Hb,Hb];omega)]
  rfl
 rw[e,K9,Gj]
 congr 1
 by_cases h:f="saying"
 ·rw[if_pos h,JT (by simpa using h)]
  rfl
 ·rw[if_neg h,JU (by simpa using h)]
  rfl
theorem BT(form:List Str)(items:List V):(gq form items).length<=form.length:=by
 unfold gq;rw[FQ];refine Gs (Mn _ _) ?_;rw[Iw];omega
theorem Sy.form_len(s:Sy):s.form.length<=2:=by cases s<;>simp[Sy.form]
theorem ke{H:Hp}{xs:List V}{ss:List Sy}{i:Nat}{x:V}(h:fw H xs ss)(e:xs[i]?=some x):∃s,ss[i]?=some s/\aD H x s:=jy h e
theorem eY{H:Hp}{xs:List V}{ss:List Sy}(h:fw H xs ss):xs.length=ss.length:=by
 induction h with
 |nil=>rfl
 |cons _ _ ih=>rw[Gm,Gm,ih]
end L2
end
section
namespace L2
open PySem
noncomputable def EI(t1 t2:String):Bool:=t1==t2||(t1=="bool"&&t2=="int")
noncomputable def AK:List String:=["NoneType","bool","int","str","tuple","list","dict"]
noncomputable def xP:List String:=["bool","int","str","tuple","list"]
theorem vR(K:Fg)(t:String):GI K (.type t) (.type t)=some true:=by unfold GI;rw[if_pos (beq_self_eq_true _)]
theorem EJ{K:Fg}{t1 t2:String}{b:Bool}(h:(if(HY t1==HY t2)=true then some true else if LX t2=true then(Mj t1).map (·.contains (.type t2))else none)=some b):GI K (.type t1) (.type t2)=some b:=h
theorem xQ(K:Fg):∀t1∈AK,∀t2∈xP,GI K (.type t1) (.type t2)=some (EI t1 t2):=by
 have go:∀t1∈AK,∀t2∈xP,(if(HY t1==HY t2)=true then some true else if LX t2=true then(Mj t1).map (·.contains (.type t2))else none)=some (EI t1 t2):=by decide+kernel
 exact fun t1 h1 t2 h2=>EJ (go t1 h1 t2 h2)
end L2
end
namespace L2
open PySem PyProof.Rows
section
variable{K:Fg}{vs:List V}{H:Hp}{Q:VK}{E:XK}
open KF
open Classical in
noncomputable def blV(n:Nat)(P:Nat->Prop):List V:=(F5 n).map fun i=>V.bl (decide (P i))
theorem cdf{p:Prop}(h:¬p):false=@decide p (Ia p):=(@decide_eq_false p (Ia p) h).symm
theorem cdt{p:Prop}(h:p):true=@decide p (Ia p):=(@decide_eq_true p (Ia p) h).symm
theorem cde{p q:Prop}[i:Decidable p](h:p↔q):decide p=@decide q (Ia q):=@decide_eq_decide p q i (Ia q) |>.mpr h
section
open Classical
variable{n i:Nat}{P P':Nat->Prop}
theorem cE(n:Nat)(P:Nat->Prop):(blV n P).length=n:=by unfold blV;simp
theorem kS(h:i<n):(blV n P)[i]?=some (.bl (decide (P i))):=by unfold blV;rw[FZ,GO h];rfl
theorem AL(h:i<n):atI (blV n P) (i:Int)=some (.bl (decide (P i))):=dh (kS h)
theorem kT{x:V}(h:(blV n P)[i]?=some x):i<n/\x=.bl (decide (P i)):=by
 have hi:i<n:=by have:=(FS.mp h).1;rw[cE]at this;exact this
 rw[kS hi]at h;exact⟨hi,(F1 h).symm⟩
theorem mT(h:∀i,i<n->(P i↔P' i)):blV n P=blV n P':=by
 unfold blV;refine Hy fun i hi=>?_;rw[show P i=P' i from propext (h i (Gr.mp hi))]
theorem dC(n:Nat)(P:Nat->Prop):blV (n+1) P=blV n P++[.bl (decide (P n))]:=by unfold blV;rw[Iv,Gj];rfl
theorem Dn(h:i<n){b:Bool}(hb:∀j,j<n->j≠i->(P j↔P' j))(hi:b=decide (P' i)):(blV n P).set i (.bl b)=blV n P':=by
 refine GW fun k=>?_;rw[IC,cE];by_cases e:i=k
 ·subst e
  rw[if_pos rfl,if_pos h,kS h,hi]
 ·rw[if_neg e]
  by_cases hk:k<n
  ·rw[kS hk,kS hk,show P k=P' k from propext (hb k hk (fun z=>e z.symm))]
  ·rw[Gd (by rw[cE];omega),Gd (by rw[cE];omega)]
theorem vS(n:Nat)(h:∀i,P i):(GC n [V.bl true]).flatten=blV n P:=by
 induction n with
 |zero=>rfl
 |succ n ih=>
  rw[dC,<-ih,Ky,List.flatten_append,decide_eq_true (h n)];simp
theorem BU(n:Nat)(P:Nat->Prop):∀x∈blV n P,yG x=true:=fun x hx=>by
 unfold blV at hx;obtain⟨i,_,rfl⟩:=Gh.mp hx;rfl
end
noncomputable def nP(_:Fg):Sp:=fun vs H Q _=>∃(a b:Addr)(n:Nat)(P P':Nat->Prop),vs=[.ref a,.ref b]/\H a=some (.lst (blV n P))/\H b=some (.lst (blV n P'))/\n<=100000/\
 ∀p H',H p=none->ah H H'->H' p=some (.lst (blV n fun i=>P i/\P' i))->Q (.ref p) H'
noncomputable def qk(K:Fg):TS:=(aG (b8 (lz bj bj K (aa (ab 0) (aa (ab 1) af))) (fun _ _ _ _=>(gj K 2 (bF (ai 0) (bF (ai 1) gi)))) (fun _ _ _ _=>bI) (fun _ _ _ _=>(ny (ab 0) (ab 1))) [none,none]))
section
open Classical
theorem Do(h:nP K vs H Q E):qk K { nx:=fun _ H'=>Q .non H',rt:=Q } (start ["ones","others"] vs) H:=by
 obtain⟨a,b,n,P,P',rfl,ea,eb,hn,q⟩:=h;show qk K _ [some _,some _] _;unfold qk;right;refine mK (S1:=bj) (S2:=bj) _ _ (SqL.of ea) (SqL.of eb) (fun H' s=>s.seq (SqL.of ea)) (fun H' s=>s.seq (SqL.of eb)) (by rw[cE];omega) (fun i acc _=>acc=blV i fun i=>P i/\P' i) (fun _ _=>rfl) ?_ ?_
 ·rintro p hp C s' H' fp i x y T acc H2 H3 hx hy ⟨s2,e2,l2,rfl⟩ hT s3 e3 e4
  obtain⟨hi,rfl⟩:=kT hx;obtain⟨_,rfl⟩:=kT hy;right;refine eW (SqT.of e3) ?_;right;by_cases h:P i
  ·rw[decide_eq_true h]
   refine jQ ?_;right;refine bm.put hp (fun _ _ _ _ r _=>r) (s2.trans s3) e4 l2 ?_;rw[dC]
   congr 3
   exact decide_eq_decide.mpr ⟨fun q=>⟨h,q⟩,fun q=>q.2⟩
  ·rw[decide_eq_false h]
   refine jm ?_;refine bm.put hp (fun _ _ _ _ r _=>r) (s2.trans s3) e4 l2 ?_;rw[dC]
   congr 3
   exact cdf fun q=>h q.1
 ·rintro p acc H2 hp s2 e2 rfl
  rw[cE,cE,Ju]at e2;exact q _ _ hp s2 e2
end
noncomputable def mU(_:Fg):Sp:=fun vs H Q _=>∃(a b:Addr)(n:Nat)(P P':Nat->Prop),vs=[.ref a,.ref b]/\H a=some (.lst (blV n P))/\H b=some (.lst (blV n P'))/\n<=100000/\
 ∀p H',H p=none->ah H H'->H' p=some (.lst (blV n fun i=>P i\/P' i))->Q (.ref p) H'
noncomputable def lP(K:Fg):TS:=(aG (b8 (lz bj bj K (aa (ab 0) (aa (ab 1) af))) (fun _ _ _ _=>(gj K 2 (bF (ai 0) (bF (ai 1) gi)))) (fun _ _ _ _=>bI) (fun _ _ _ _=>(Bg (ab 0) (ab 1))) [none,none]))
section
open Classical
theorem AM(h:mU K vs H Q E):lP K { nx:=fun _ H'=>Q .non H',rt:=Q } (start ["ones","others"] vs) H:=by
 obtain⟨a,b,n,P,P',rfl,ea,eb,hn,q⟩:=h;show lP K _ [some _,some _] _;unfold lP;right;refine mK (S1:=bj) (S2:=bj) _ _ (SqL.of ea) (SqL.of eb) (fun H' s=>s.seq (SqL.of ea)) (fun H' s=>s.seq (SqL.of eb)) (by rw[cE];omega) (fun i acc _=>acc=blV i fun i=>P i\/P' i) (fun _ _=>rfl) ?_ ?_
 ·rintro p hp C s' H' fp i x y T acc H2 H3 hx hy ⟨s2,e2,l2,rfl⟩ hT s3 e3 e4
  obtain⟨hi,rfl⟩:=kT hx;obtain⟨_,rfl⟩:=kT hy;right;refine eW (SqT.of e3) ?_;right;by_cases h:P i
  ·rw[decide_eq_true h]
   refine jQ ?_;refine bm.put hp (fun _ _ _ _ r _=>r) (s2.trans s3) e4 l2 ?_;rw[dC]
   congr 3
   exact cdt (.inl h)
  ·rw[decide_eq_false h]
   refine jm ?_;right;refine bm.put hp (fun _ _ _ _ r _=>r) (s2.trans s3) e4 l2 ?_;rw[dC]
   congr 3
   exact decide_eq_decide.mpr ⟨.inr,fun q=>q.resolve_left h⟩
 ·rintro p acc H2 hp s2 e2 rfl
  rw[cE,cE,Ju]at e2;exact q _ _ hp s2 e2
end
noncomputable def KN(n:Nat)(v:List Nat)(P:Nat->Prop)(i:Nat):Prop:=∀j,j<n->v.getD j 0=v.getD i 0->P j
theorem d6{n:Nat}{v:List Nat}(h:Within n v){i:Nat}(hi:i<n):v[i]?=some (v.getD i 0)/\v.getD i 0<n:=by
 have hl:i<v.length:=by rw[h.1];exact hi
 have e:v[i]?=some (v.getD i 0):=by rw[FO,FN hl];rfl
 exact⟨e,h.2 _ (F0 e)⟩
noncomputable def im(_:Fg):Sp:=fun vs H Q _=>∃(a b:Addr)(n:Nat)(v:List Nat)(P:Nat->Prop),vs=[.ref a,.ref b]/\H a=some (.lst (aq v))/\H b=some (.lst (blV n P))/\Within n v/\n<=100000/\
 ∀p H',H p=none->ah H H'->H' p=some (.lst (blV n (KN n v P)))->Q (.ref p) H'
noncomputable def nQ(K:Fg):TS:=(ap (az (tOp BB (cX (aa (tC (.bl true)) af)) (tCB (cH K) (aa (ab 0) af))) (ai 2))
 (ap (cc (lz bj bj K (aa (ab 0) (aa (ab 1) af))) (gj K 2 (bF (ai 3) (bF (ai 4) gi))) (bo (dX (tB (ab 4))) (az (tC (.bl false)) (km (ab 2) (ab 3) jw)) aZ))
 (aG (b8 (dc K (ab 0)) (fun _ _ _ _=>(ai 0)) (fun _ _ _ _=>bI) (fun _ _ _ _=>(tOp (b9 K) (ab 1) (ab 0))) [none,some 2]))))
section
open Classical
theorem BV(h:im K vs H Q E):nQ K { nx:=fun _ H'=>Q .non H',rt:=Q } (start ["view","truths","sure","least","truth"] vs) H:=by
 obtain⟨a,b,n,v,P,rfl,ea,eb,hv,hn,q⟩:=h;show nQ K _ [some _,some _,none,none,none] _;unfold nQ;have hvl:=hv.1;right;refine⟨by simp[FV],fun l H1 hl s1 e1=>?_⟩;right;refine j6 (SqL.of (s1 _ _ ea)) ?_;right;rw[aS,hvl];refine⟨l,(n:Int),[.bl true],rfl,rfl,e1,by omega,by omega,by rw[FV];simp;omega,fun p H2 hp s2 e2=>?_⟩;rw[Ie,vS (P:=fun x=>∀j,j<0->v.getD j 0=x->P j) n (fun _ j h=>absurd h (by omega))]at e2;have s02:=s1.trans s2;have hpH:H p=none:=s1.free hp;right;refine Ao (S1:=bj) (S2:=bj) (aq v) (blV n P) (SqL.of (s02 _ _ ea)) (SqL.of (s02 _ _ eb)) (fun i σ H3=>∃(u1 u2:Option V),σ=[some (.ref a),some (.ref b),some (.ref p),u1,u2]/\ah H H3/\H3 p=some (.lst (blV n fun x=>∀j,j<i->v.getD j 0=x->P j))) ?_ ?_ ?_ ?_
 ·exact⟨_,_,rfl,s02,e2⟩
 ·rintro i σ H3 ⟨u1,u2,rfl,s3,e3⟩
  exact⟨SqL.of (s3 _ _ ea),SqL.of (s3 _ _ eb)⟩
 ·rintro i x y T σ H3 H4 hx hy ⟨u1,u2,rfl,s3,e3⟩ hT s4 eT
  obtain⟨hi,rfl⟩:=kT hy;obtain⟨z,hz,rfl⟩:=fu hx;obtain⟨hz',hzn⟩:=d6 hv hi;rw[hz]at hz';have ez:z=v.getD i 0:=F1 hz';refine eW (SqT.of eT) ?_;right;by_cases h:P i
  ·rw[decide_eq_true h]
   right;refine⟨_,_,rfl,s3.trans s4,?_⟩;rw[s4 _ _ e3]
   congr 2
   refine mT fun x _=>⟨fun f j hj e=>?_,fun f j hj e=>f j (by omega) e⟩;by_cases c:j=i
   ·rw[c];exact h
   ·exact f j (by omega) e
  ·rw[decide_eq_false h]
   right;refine kL (s4 _ _ e3) (rS (by rw[cE,ez];exact hzn)) ?_;refine⟨_,_,rfl,(s3.trans s4).off hpH fq,?_⟩;rw[av]
   congr 2
   refine Dn (by rw[ez];exact hzn) (fun x _ hxz=>⟨fun f j hj e=>?_,fun f j hj e=>f j (by omega) e⟩) ?_
   ·by_cases c:j=i
    ·subst c
     exact absurd (e.symm.trans ez.symm) hxz
    ·exact f j (by omega) e
   ·exact cdf fun f=>h (f i (by omega) ez.symm)
 ·rintro σ H3 ⟨u1,u2,rfl,s3,e3⟩
  rw[aS,cE,hvl,Ju]at e3;right;refine gw (aq v) (SqL.of (s3 _ _ ea)) (by rw[aS];omega) (fun i acc _=>acc=blV i (KN n v P)) (fun _ _=>rfl) ?_ ?_
  ·rintro r hr C s' H' fp i x acc H4 hx ⟨s4,e4,l4,rfl⟩
   obtain⟨z,hz,rfl⟩:=fu hx;have hi:i<n:=by have:=(FS.mp hz).1;omega
   obtain⟨hz',hzn⟩:=d6 hv hi;rw[hz]at hz';have ez:z=v.getD i 0:=F1 hz';right;refine bH (SqL.of (s4 _ _ e3)) (AL (by rw[ez];exact hzn)) ?_;refine bm.put hr (fun _ _ _ _ r _=>r) s4 e4 l4 ?_;rw[dC]
   congr 3
   rw[ez];rfl
  ·rintro r acc H4 hr s4 e4 rfl
   rw[aS,hvl]at e4;exact q _ _ (s3.free hr) (s3.trans s4) e4
end
noncomputable def gI(_:Fg):Sp:=fun vs H Q _=>∃(a b:Addr)(n:Nat)(ws:List (List Nat))(P:Nat->Prop),vs=[.ref a,.ref b]/\cj H a ws/\H b=some (.lst (blV n P))/\(∀v∈ws,Within n v)/\n<=100000/\
 ∀p H',H p=none->ah H H'->H' p=some (.lst (blV n fun i=>∀v∈ws,KN n v P i))->Q (.ref p) H'
noncomputable def fz(K:Fg):TS:=(ap (az (tOp BB (cX (aa (tC (.bl true)) af)) (tCB (cH K) (aa (ab 1) af))) (ai 2))
 (ap (cc (dc K (ab 0)) (ai 3) (az (au (nP K) [] E0 (aa (ab 2) (aa (au (im K) [] E0 (aa (ab 3) (aa (ab 1) af))) af))) (ai 2)))
 (aG (ab 2))))
theorem ql(h:gI K vs H Q E):fz K { nx:=fun _ H'=>Q .non H',rt:=Q } (start ["views","truths","answers","view"] vs) H:=by
 obtain⟨a,b,n,ws,P,rfl,hV,eb,hw,hn,q⟩:=h;show fz K _ [some _,some _,none,none] _;unfold fz;obtain⟨rs,ea,hlr,hr⟩:=lO hV;right;refine⟨by simp[FV],fun l H1 hl s1 e1=>?_⟩;right;refine j6 (SqL.of (s1 _ _ eb)) ?_;right;rw[cE];refine⟨l,(n:Int),[.bl true],rfl,rfl,e1,by omega,by omega,by rw[FV];simp;omega,fun p H2 hp s2 e2=>?_⟩;rw[Ie,vS (P:=fun i=>∀v∈ws.take 0,KN n v P i) n (fun _ v h=>by simp at h)]at e2;have s02:=s1.trans s2;have hpH:H p=none:=s1.free hp;right;refine kN (rs.map V.ref) (SqL.of (s02 _ _ ea)) (fun i σ H3=>∃(u1:Option V)(p:Addr),σ=[some (.ref a),some (.ref b),some (.ref p),u1]/\H p=none/\ah H H3/\H3 p=some (.lst (blV n fun k=>∀v∈ws.take i,KN n v P k))) ?_ ?_ ?_ ?_
 ·exact⟨_,p,rfl,hpH,s02,e2⟩
 ·rintro i σ H3 _ ⟨u1,p,rfl,hp,s3,e3⟩
  exact SqL.of (s3 _ _ ea)
 ·rintro i x σ H3 hx ⟨u1,p,rfl,hp,s3,e3⟩
  obtain⟨c,hc,rfl⟩:=kR hx;obtain⟨v,hv,ev⟩:=hr i c hc;right;refine⟨c,b,n,v,P,rfl,s3 _ _ ev,s3 _ _ eb,hw v (F0 hv),hn,fun k H4 hk s4 e4=>?_⟩;right;refine⟨p,k,n,_,_,rfl,s4 _ _ e3,e4,hn,fun k2 H5 hk2 s5 e5=>?_⟩;have s35:=s4.trans s5;refine⟨_,k2,rfl,s3.free (s4.free hk2),s3.trans s35,?_⟩;rw[e5]
  congr 2
  refine mT fun i _=>?_;rw[cN hv];exact⟨fun h w hw=>(Gv.mp hw).elim (h.1 w) fun z=>by rw[FR.mp z];exact h.2,fun h=>⟨fun w hw=>h w (G8 _ hw),h v (by simp)⟩⟩
 ·rintro σ H3 ⟨u1,p,rfl,hp,s3,e3⟩
  rw[FQ,hlr,GG]at e3;right;exact q _ _ hp s3 e3
noncomputable def Dp(H:Hp)(a:Addr)(ps:List (List Int)):Prop:=∃rs:List Addr,H a=some (.lst (rs.map V.ref))/\Paired (fun(r:Addr)(xs:List Int)=>H r=some (.tup (xs.map V.int))) rs ps
noncomputable def uK(n:Nat)(ps:List (List Int))(v:List Nat)(j:Nat):Prop:=ps.getD j []=ps.getD (v.getD j 0) []
noncomputable def rV(_:Fg):Sp:=fun vs H Q _=>∃(a b:Addr)(n:Nat)(v:List Nat)(ps:List (List Int)),vs=[.ref a,.ref b]/\Dp H a ps/\ps.length=n/\H b=some (.lst (aq v))/\Within n v/\n<=100000/\
 ∀p H',H p=none->ah H H'->H' p=some (.lst (blV n (KN n v (uK n ps v))))->Q (.ref p) H'
theorem tH{H:Hp}{rs:List Addr}{ps:List (List Int)}(h:Paired (fun(r:Addr)(xs:List Int)=>H r=some (.tup (xs.map V.int))) rs ps){i:Nat}(hi:i<ps.length):∃r,rs[i]?=some r/\H r=some (.tup ((ps.getD i []).map V.int)):=by
 have hl:=GJ h;obtain⟨r,hr⟩:∃r,rs[i]?=some r:=⟨_,FN (by omega)⟩;obtain⟨xs,hx,e⟩:=bL h hr;refine⟨r,hr,?_⟩;rw[FO,hx];exact e
noncomputable def qm(K:Fg):TS:=(aG (au (im K) [] E0 (aa (ab 1) (aa (b8 (lz bj bj K (aa (ab 0) (aa (ab 1) af))) (fun _ _ _ _=>(gj K 2 (bF (ai 0) (bF (ai 1) gi)))) (fun _ _ _ _=>bI) (fun _ _ _ _=>(tOp (rJ (SqT K) false) (ab 0) (tOp (b9 K) (ab 2) (ab 1)))) [none,none,some 0]) af))))
section
open Classical
theorem Dq(h:rV K vs H Q E):qm K { nx:=fun _ H'=>Q .non H',rt:=Q } (start ["piles","view"] vs) H:=by
 obtain⟨a,b,n,v,ps,rfl,⟨rs,ea,hr⟩,hpl,eb,hv,hn,q⟩:=h;show qm K _ [some _,some _] _;unfold qm;have hlr:rs.length=ps.length:=GJ hr;have hvl:=hv.1;right;refine mK (S1:=bj) (S2:=bj) (rs.map V.ref) (aq v) (SqL.of ea) (SqL.of eb) (fun H' s=>s.seq (SqL.of ea)) (fun H' s=>s.seq (SqL.of eb)) (by rw[FQ];omega) (fun i acc _=>acc=blV i (uK n ps v)) (fun _ _=>rfl) ?_ ?_
 ·rintro p hp C s' H' fp i x y T acc H2 H3 hx hy ⟨s2,e2,l2,rfl⟩ hT s3 e3 e4
  obtain⟨c,hc,rfl⟩:=kR hx;obtain⟨z,hz,rfl⟩:=fu hy;have hi:i<n:=by have:=(FS.mp hz).1;omega
  obtain⟨hz',hzn⟩:=d6 hv hi;rw[hz]at hz';have ez:z=v.getD i 0:=F1 hz';obtain⟨c',hc',ec⟩:=tH hr (i:=i) (by omega);rw[hc]at hc';cases hc';obtain⟨d,hd,ed⟩:=tH hr (i:=z) (by omega);have s23:=s2.trans s3;right;refine eW (SqT.of e3) ?_;right;refine bH (SqL.of (s23 _ _ ea)) (v:=.ref d) (dh (by rw[FZ,hd];rfl)) ?_;right;refine Fj (SqT.of (s23 _ _ ec)) (SqT.of (s23 _ _ ed)) ?_;refine bm.put hp (fun _ _ _ _ r _=>r) s23 e4 l2 ?_;rw[dC]
  congr 3
  rw[ez];exact cde Iff.rfl
 ·rintro p acc H2 hp s2 e2 rfl
  rw[FQ,aS,hlr,hpl,hvl,Ju]at e2;right;exact⟨b,p,n,v,_,rfl,s2 _ _ eb,e2,hv,hn,fun r H3 hr s3 e3=>q r H3 (s2.free hr) (s2.trans s3) e3⟩
end
end
section
open KF
noncomputable def TR(n:Nat)(ws vs:List (List Nat)):Sy->Nat->Prop
 | .holds w c,i=>(ws.getD i []).getD c 0=w
 | .sees h,i=>KN n (vs.getD h []) (uK n (ws.map fun w=>cf w (vs.length:Nat)) (vs.getD h [])) i
 | .not s,i=>¬TR n ws vs s i
 | .and s t,i=>TR n ws vs s i/\TR n ws vs t i
 | .or s t,i=>TR n ws vs s i\/TR n ws vs t i
 | .knows h s,i=>KN n (vs.getD h []) (TR n ws vs s) i
 | .all g s,i=>∀v∈g.map (fun h=>vs.getD h []),KN n v (TR n ws vs s) i
 | .common g s,i=>∀j,j<n->bD (cK n (g.map fun h=>vs.getD h [])) i j->TR n ws vs s j
theorem qo{n:Nat}{P:Nat->Nat->Prop}{r:List Nat}(h:jb n P r){i j:Nat}(hi:i<n)(hj:j<n):r.getD j 0=r.getD i 0↔bD P i j:=by
 have ei:r[i]?=some (r.getD i 0):=by rw[FO,FN (by rw[h.len];exact hi)];rfl
 have ej:r[j]?=some (r.getD j 0):=by rw[FO,FN (by rw[h.len];exact hj)];rfl
 constructor
 ·intro e
  have c1:=h.conn _ _ ei;have c2:=h.conn _ _ ej;rw[e]at c2;exact .trans c1 (.symm c2)
 ·intro c
  have:=h.same i j hi hj c;rw[ei,ej]at this;exact(F1 this).symm
theorem xg{n:Nat}{P:Nat->Nat->Prop}{r:List Nat}(h:jb n P r):Within n r:=⟨h.len,fun x hx=>by
 obtain⟨i,hi⟩:=Mp.mp hx;have:=h.le i x hi;have:=(FS.mp hi).1;rw[h.len]at this;omega⟩
theorem Dr{n:Nat}{P:Nat->Nat->Prop}{r:List Nat}(h:jb n P r){F:Nat->Prop}{i:Nat}(hi:i<n):KN n r F i↔∀j,j<n->bD P i j->F j:=
 ⟨fun k j hj c=>k j hj ((qo h hi hj).mpr c),fun k j hj e=>k j hj ((qo h hi hj).mp e)⟩
theorem qp:∀{g:List Nat} {m:Nat},g.Pairwise (· < ·)->(∀k∈g,k<m)->g.length<=m:=by
 intro g m hp hk;have go:∀(l:List Nat)(lo:Nat),l.Pairwise (· < ·)->(∀k∈l,lo<=k/\k<m)->l.length+lo<=m\/l=[]:=by
  intro l
  induction l with
  |nil=>intro _ _ _;exact .inr rfl
  |cons x r ih=>
   intro lo hp hk;obtain⟨h1,h2⟩:=K7.mp hp;have hx:=hk x (F2 ..);rcases ih (x+1) h2 (fun k hkr=>⟨h1 k hkr,(hk k (FX _ hkr)).2⟩)with h|h
   ·left;rw[Gm];omega
   ·left;rw[h];simp;omega
 rcases go g 0 hp (fun k h=>⟨GH _,hk k h⟩)with h|h
 ·omega
 ·rw[h];simp
structure Table(H:Hp)(a b:Addr)(c n:Nat)(ws vs:List (List Nat)):Prop where
 deals:bt H a ws
 len:ws.length=n
 cards:∀w∈ws,w.length=c
 small:n<=100000
 few:c<=1000
 views:cj H b vs
 win:∀v∈vs,Within n v
 hands:vs.length<=1000
theorem Table.same{H H':Hp}{a b:Addr}{c n:Nat}{ws vs:List (List Nat)}(t:Table H a b c n ws vs)(s:ah H H'):Table H' a b c n ws vs:=⟨t.deals.same' s,t.len,t.cards,t.small,t.few,t.views.same s,t.win,t.hands⟩
theorem jL{ws:List (List Nat)}{i:Nat}{w:List Nat}(h:ws[i]?=some w):ws.getD i []=w:=by rw[FO,h];rfl
theorem nR{H:Hp}{b:Addr}{vs:List (List Nat)}(h:cj H b vs){k:Nat}(hk:k<vs.length):∃(rs:List Addr)(r:Addr),H b=some (.lst (rs.map V.ref))/\atI (rs.map V.ref) (k:Int)=some (.ref r)/\H r=some (.lst (aq (vs.getD k [])))/\vs.getD k []∈vs:=by
 obtain⟨rs,e,hl,hr⟩:=lO h;obtain⟨r,hrk⟩:∃r,rs[k]?=some r:=⟨_,FN (by omega)⟩;obtain⟨v,hv,ev⟩:=hr k r hrk;refine⟨rs,r,e,dh (by rw[FZ,hrk];rfl),?_,?_⟩
 ·rw[jL hv];exact ev
 ·rw[jL hv];exact F0 hv
noncomputable def bN(_:Fg)(m:Nat):Sp:=fun vals H Q _=>∃(a b:Addr)(x:V)(c n:Nat)(ws vs:List (List Nat))(s:Sy),vals=[.ref a,.ref b,x]/\Table H a b c n ws vs/\aD H x s/\s.Ok c vs.length/\s.words<=m/\
 ∀p H',H p=none->ah H H'->H' p=some (.lst (blV n (TR n ws vs s)))->Q (.ref p) H'
noncomputable def iP(K:Fg)(n:Nat):TS:=(ap (az (tOp (bU K) (ab 2) (tC (.int 0))) (ai 3))
 (ap (bo (ba (tOp rEq (ab 3) (tC (.str "holds")))) (aG (b8 (dc K (ab 0)) (fun _ _ _ _=>(ai 0)) (fun _ _ _ _=>bI) (fun _ _ _ _=>(tOp rEq (tOp (bU K) (ab 0) (tOp (bU K) (ab 1) (tC (.int 2)))) (tOp (bU K) (ab 1) (tC (.int 1))))) [none,some 2])) aZ)
 (ap (bo (ba (tOp rEq (ab 3) (tC (.str "sees")))) (aG (au (rV K) [] E0 (aa (b8 (dc K (ab 0)) (fun _ _ _ _=>(ai 0)) (fun _ _ _ _=>bI) (fun _ _ _ _=>(au (iN K) [] E0 (aa (ab 0) (aa (tCB (cH K) (aa (ab 1) af)) af)))) [none,some 1]) (aa (tOp (b9 K) (ab 1) (tOp (bU K) (ab 2) (tC (.int 1)))) af)))) aZ)
 (ap (bo (ba (tOp rEq (ab 3) (tC (.str "not")))) (aG (b8 (dc K (au (bN K n) [] E0 (aa (ab 0) (aa (ab 1) (aa (tOp (bU K) (ab 2) (tC (.int 1))) af))))) (fun _ _ _ _=>(ai 0)) (fun _ _ _ _=>bI) (fun _ _ _ _=>(uA (ab 0))) [none])) aZ)
 (ap (bo (ba (tOp rEq (ab 3) (tC (.str "and")))) (aG (au (nP K) [] E0 (aa (au (bN K n) [] E0 (aa (ab 0) (aa (ab 1) (aa (tOp (bU K) (ab 2) (tC (.int 1))) af)))) (aa (au (bN K n) [] E0 (aa (ab 0) (aa (ab 1) (aa (tOp (bU K) (ab 2) (tC (.int 2))) af)))) af)))) aZ)
 (ap (bo (ba (tOp rEq (ab 3) (tC (.str "or")))) (aG (au (mU K) [] E0 (aa (au (bN K n) [] E0 (aa (ab 0) (aa (ab 1) (aa (tOp (bU K) (ab 2) (tC (.int 1))) af)))) (aa (au (bN K n) [] E0 (aa (ab 0) (aa (ab 1) (aa (tOp (bU K) (ab 2) (tC (.int 2))) af)))) af)))) aZ)
 (ap (az (au (bN K n) [] E0 (aa (ab 0) (aa (ab 1) (aa (tOp (bU K) (ab 2) (tC (.int 2))) af)))) (ai 4))
 (ap (bo (ba (tOp rEq (ab 3) (tC (.str "knows")))) (aG (au (im K) [] E0 (aa (tOp (b9 K) (ab 1) (tOp (bU K) (ab 2) (tC (.int 1)))) (aa (ab 4) af)))) aZ)
 (ap (az (b8 (mz K (tOp (bU K) (ab 2) (tC (.int 1)))) (fun _ _ _ _=>(ai 0)) (fun _ _ _ _=>bI) (fun _ _ _ _=>(tOp (b9 K) (ab 1) (ab 0))) [none,some 1]) (ai 5))
 (ap (bo (ba (tOp rEq (ab 3) (tC (.str "all")))) (aG (au (gI K) [] E0 (aa (ab 5) (aa (ab 4) af)))) aZ)
 (aG (au (im K) [] E0 (aa (au (mS K) [] E0 (aa (tCB (cH K) (aa (ab 0) af)) (aa (ab 5) af))) (aa (ab 4) af))))))))))))))
noncomputable abbrev xh:List Str:=["deals","views","S","word","inner","some"]
theorem mV{K:Fg}{vs:List V}{H:Hp}{Q:VK}{E:XK}(h:bN K 0 vs H Q E):False:=by
 obtain⟨a,b,x,c,n,ws,vs,s,rfl,_,_,_,h,_⟩:=h;have:=s.words_pos;omega
theorem yM{H:Hp}{rs:List Addr}{ps:List (List Int)}{r:Addr}{xs:List Int}(h:Paired (fun(r:Addr)(xs:List Int)=>H r=some (.tup (xs.map V.int))) rs ps)(e:H r=some (.tup (xs.map V.int))):Paired (fun(r:Addr)(xs:List Int)=>H r=some (.tup (xs.map V.int))) (rs++[r]) (ps++[xs]):=by
 induction h with
 |nil=>exact .cons e .nil
 |cons a _ ih=>exact .cons a ih
theorem yN{H:Hp}{rs:List Addr}{vs:List (List Nat)}{r:Addr}{v:List Nat}(h:Paired (fun(r:Addr)(v:List Nat)=>H r=some (.lst (aq v))) rs vs)(e:H r=some (.lst (aq v))):Paired (fun(r:Addr)(v:List Nat)=>H r=some (.lst (aq v))) (rs++[r]) (vs++[v]):=by
 induction h with
 |nil=>exact .cons e .nil
 |cons a _ ih=>exact .cons a ih
theorem AN{K:Fg}{H:Hp}{b e:Addr}{g:List Nat}{vs:List (List Nat)}{Q:VK}{σ₀:St}{gg:CF TG}{tt:CF TT}{te:CF TE}(hV:cj H b vs)(hg:∀k∈g,k<vs.length)(hgl:g.length<=1000)(eg:H e=some (.tup (aq g)))
  (hs:∀C s' H' fp (k:Nat) (rs:List Addr) (r:Addr) H2 (R:V->Hp->Prop) (N:Hp->Prop),H2 b=some (.lst (rs.map V.ref))->atI (rs.map V.ref) (k:Int)=some (.ref r)->R (.ref r) H2->gg C s' H' fp (.int (k:Int)) σ₀ H2 fun σ2 H3=>tt C s' H' fp σ2 H3 fun c H4=>if c=true then te C s' H' fp σ2 H4 fun y H5=>R y H5 else N H4)
  (q:∀p H',H p=none->ah H H'->cj H' p (g.map fun h=>vs.getD h [])->Q (.ref p) H'):
  ∃a',V.ref e=.ref a'/\(∃xs,SqT K H a' xs)/\∀p,H p=none->∃W:Nat->Nat->List V->Hp->Prop,(∃m,W 0 m [] (upd H p (.lst [])))/\∀C s' H' fp,bV (Itt K a') (gg C s' H' fp) (tt C s' H' fp) (te C s' H' fp) σ₀ p Q W:=by
 obtain⟨rs,eb,hl,hr⟩:=lO hV;refine⟨e,rfl,⟨_,SqT.of eg⟩,fun p hp=>vk (xs:=aq g) (fun i acc H2=>ah H H2/\H2 p=some (.lst acc)/\acc.length<=i/\∃ts:List Addr,acc=ts.map V.ref/\Paired (fun(r:Addr)(v:List Nat)=>H r=some (.lst (aq v))) ts ((g.take i).map fun h=>vs.getD h [])) ⟨aX hp _,av,FU _,[],rfl,.nil⟩ (fun i acc H2 _ c=>⟨c.2.1,c.2.2.1⟩) (fun i acc H2 _ c=>c.1.tup (SqT.of eg)) (by rw[aS,FV];omega) (fun C s' H' fp i x acc H2 hx c=>?_) fun acc H2 c=>?_⟩
 ·obtain⟨k,hk,rfl⟩:=fu hx
  have hkm:=hg k (F0 hk);obtain⟨r,hrk⟩:∃r,rs[k]?=some r:=⟨_,FN (by omega)⟩;obtain⟨v,hv,ev⟩:=hr k r hrk;obtain⟨s2,e2,l2,ts,rfl,ht⟩:=c;refine hs C s' H' fp k rs r H2 _ _ (s2 _ _ eb) (dh (by rw[FZ,hrk];rfl)) ⟨e2,s2.upd hp _,av,by simp at l2 ⊢;omega,ts++[r],by simp,?_⟩;rw[cN hk,Gj];exact yN ht (by show H r=some (.lst (aq (vs.getD k [])));rw[jL hv];exact ev)
 ·obtain⟨s2,e2,l2,ts,rfl,ht⟩:=c
  rw[aS,GG]at ht;exact q p H2 hp s2 ⟨ts,e2,Paired.mapP ht fun r v h=>s2 _ _ h⟩
section
open Classical
theorem vT{K:Fg}{m:Nat}{vals:List V}{H:Hp}{Q:VK}{E:XK}(h:bN K (m+1) vals H Q E):iP K m { nx:=fun _ H'=>Q .non H',rt:=Q } (start xh vals) H:=by
 obtain⟨a,b,x,c,n,ws,vs,s,rfl,T,hS,hok,hw,q⟩:=h;show iP K m _ [some _,some _,some _,none,none,none] _;unfold iP;obtain⟨rs,ea,hr⟩:=id T.deals;have hlr:rs.length=ws.length:=GJ hr;have hn:=T.small;have hlen:=T.len;cases s with
 |holds w k=>
  obtain⟨t,rfl,et⟩:=hS;obtain⟨hwh,hkc⟩:=hok;right;refine aI (SqT.of et) (i:=0) rfl ?_;right;refine cU rfl ?_;right;refine gw (rs.map V.ref) (SqL.of ea) (by rw[FQ];omega) (fun i acc _=>acc=blV i (TR n ws vs (.holds w k))) (fun _ _=>rfl) ?_ ?_
  ·rintro p hp C s' H' fp i x acc H2 hx ⟨s2,e2,l2,rfl⟩
   obtain⟨d,hd,rfl⟩:=kR hx;obtain⟨u,hu,eu⟩:=bL hr hd;have huc:=T.cards u (F0 hu);have e1:u[k]?=some (u.getD k 0):=by rw[FO,FN (by omega)];rfl
   right;refine aI (SqT.of (s2 _ _ et)) (i:=2) rfl ?_;right;refine aI (SqT.of (s2 _ _ eu)) (cD e1) ?_;right;refine aI (SqT.of (s2 _ _ et)) (i:=1) rfl ?_;right;refine bm.put hp (fun _ _ _ _ r _=>r) s2 e2 l2 ?_;rw[dC]
   congr 3
   refine cde ?_;show _↔(ws.getD i []).getD k 0=w;rw[jL hu];omega
  ·rintro p acc H2 hp s2 e2 rfl
   rw[FQ,hlr,hlen]at e2;exact q _ _ hp s2 e2
 |sees k=>
  obtain⟨t,rfl,et⟩:=hS;have hk:k<vs.length:=hok;right;refine aI (SqT.of et) (i:=0) rfl ?_;right;refine aH (by decide) ?_;right;refine cU rfl ?_;right;obtain⟨vrs,evb,hvl,_⟩:=lO T.views;refine gw (rs.map V.ref) (SqL.of ea) (by rw[FQ];omega) (fun i acc H2=>∃ts:List Addr,acc=ts.map V.ref/\Paired (fun(r:Addr)(xs:List Int)=>H2 r=some (.tup (xs.map V.int))) ts ((ws.take i).map fun w=>cf w (vs.length:Nat))) (fun _ _=>⟨[],rfl,.nil⟩) ?_ ?_
  ·rintro p hp C s' H' fp i x acc H2 hx ⟨s2,e2,l2,ts,rfl,ht⟩
   obtain⟨d,hd,rfl⟩:=kR hx;obtain⟨u,hu,eu⟩:=bL hr hd;have huc:=T.cards u (F0 hu);have:=T.few;right;refine j6 (SqL.of (s2 _ _ evb)) ?_;right;rw[FQ,hvl];refine⟨d,u.map fun(s:Nat)=>((s:Nat):Int),(vs.length:Nat),rfl,by rw[<-cO];exact SqT.of (s2 _ _ eu),by rw[FQ];omega,fun r H3 s3 e3=>?_⟩;rw[FQ]at e3;refine bm.put hp (fun _ _ _ _ ⟨ts,e,r⟩ k=>⟨ts,e,Paired.mapP r fun _ _ z=>k _ _ z⟩) (s2.trans s3) (s3 _ _ e2) l2 ⟨ts++[r],by simp,?_⟩;rw[cN hu,Gj];exact yM (Paired.mapP ht fun _ _ z=>s3 _ _ z) e3
  ·rintro p acc H2 hp s2 e2 ⟨ts,rfl,ht⟩
   rw[FQ,hlr,GG]at ht;right;refine aI (SqT.of (s2 _ _ et)) (i:=1) rfl ?_;right;obtain⟨vr,r,e1,e3,e4,e5⟩:=nR (T.views.same s2) hk;refine bH (SqL.of e1) e3 ?_;right;exact⟨p,r,n,vs.getD k [],_,rfl,⟨ts,e2,ht⟩,by rw[FQ];exact hlen,e4,T.win _ e5,hn,fun p2 H3 hp2 s3 e6=>q p2 H3 (s2.free hp2) (s2.trans s3) e6⟩
 |not s=>
  obtain⟨t,y,rfl,et,hy⟩:=hS;have hw':s.words<=m:=by simp only[Sy.words]at hw;omega
  right;refine aI (SqT.of et) (i:=0) rfl ?_;right;refine aH (by decide) ?_;right;refine aH (by decide) ?_;right;refine cU rfl ?_;right;refine aI (SqT.of et) (i:=1) rfl ?_;right;refine⟨a,b,y,c,n,ws,vs,s,rfl,T,hy,hok,hw',fun l H1 hl s1 e1=>?_⟩;right;refine gw _ (SqL.of e1) (by rw[cE];omega) (fun i acc _=>acc=blV i (TR n ws vs (.not s))) (fun _ _=>rfl) ?_ ?_
  ·rintro p hp C s' H' fp i x acc H2 hx ⟨s2,e2,l2,rfl⟩
   obtain⟨hi,rfl⟩:=kT hx;right;refine bm.put hp (fun _ _ _ _ r _=>r) s2 e2 l2 ?_;rw[dC]
   congr 3
   by_cases z:TR n ws vs s i
   ·rw[decide_eq_true z];exact cdf fun h=>h z
   ·rw[decide_eq_false z];exact cdt z
  ·rintro p acc H2 hp s2 e2 rfl
   rw[cE]at e2;exact q _ _ (s1.free hp) (s1.trans s2) e2
 |and s t=>
  obtain⟨u,y,z,rfl,et,hy,hz⟩:=hS;have hw1:s.words<=m:=by simp only[Sy.words]at hw;omega
  have hw2:t.words<=m:=by simp only[Sy.words]at hw;omega
  right;refine aI (SqT.of et) (i:=0) rfl ?_;right;refine aH (by decide) ?_;right;refine aH (by decide) ?_;right;refine aH (by decide) ?_;right;refine cU rfl ?_;right;refine aI (SqT.of et) (i:=1) rfl ?_;right;refine⟨a,b,y,c,n,ws,vs,s,rfl,T,hy,hok.1,hw1,fun l H1 hl s1 e1=>?_⟩;right;refine aI (SqT.of (s1 _ _ et)) (i:=2) rfl ?_;right;refine⟨a,b,z,c,n,ws,vs,t,rfl,T.same s1,hz.keep s1.keep,hok.2,hw2,fun l2 H2 hl2 s2 e2=>?_⟩;right;exact⟨l,l2,n,_,_,rfl,s2 _ _ e1,e2,hn,fun p H3 hp s3 e3=>q p H3 (s1.free (s2.free hp)) ((s1.trans s2).trans s3) e3⟩
 |or s t=>
  obtain⟨u,y,z,rfl,et,hy,hz⟩:=hS;have hw1:s.words<=m:=by simp only[Sy.words]at hw;omega
  have hw2:t.words<=m:=by simp only[Sy.words]at hw;omega
  right;refine aI (SqT.of et) (i:=0) rfl ?_;right;refine aH (by decide) ?_;right;refine aH (by decide) ?_;right;refine aH (by decide) ?_;right;refine aH (by decide) ?_;right;refine cU rfl ?_;right;refine aI (SqT.of et) (i:=1) rfl ?_;right;refine⟨a,b,y,c,n,ws,vs,s,rfl,T,hy,hok.1,hw1,fun l H1 hl s1 e1=>?_⟩;right;refine aI (SqT.of (s1 _ _ et)) (i:=2) rfl ?_;right;refine⟨a,b,z,c,n,ws,vs,t,rfl,T.same s1,hz.keep s1.keep,hok.2,hw2,fun l2 H2 hl2 s2 e2=>?_⟩;right;exact⟨l,l2,n,_,_,rfl,s2 _ _ e1,e2,hn,fun p H3 hp s3 e3=>q p H3 (s1.free (s2.free hp)) ((s1.trans s2).trans s3) e3⟩
 |knows k s=>
  obtain⟨t,y,rfl,et,hy⟩:=hS;have hw':s.words<=m:=by simp only[Sy.words]at hw;omega
  right;refine aI (SqT.of et) (i:=0) rfl ?_;right;refine aH (by decide) ?_;right;refine aH (by decide) ?_;right;refine aH (by decide) ?_;right;refine aH (by decide) ?_;right;refine aH (by decide) ?_;right;refine aI (SqT.of et) (i:=2) rfl ?_;right;refine⟨a,b,y,c,n,ws,vs,s,rfl,T,hy,hok.2,hw',fun l H1 hl s1 e1=>?_⟩;right;refine cU rfl ?_;right;refine aI (SqT.of (s1 _ _ et)) (i:=1) rfl ?_;right;obtain⟨vr,r,e2,e3,e4,e5⟩:=nR (T.views.same s1) hok.1;refine bH (SqL.of e2) e3 ?_;right;exact⟨r,l,n,vs.getD k [],_,rfl,e4,e1,T.win _ e5,hn,fun p2 H3 hp2 s3 e6=>q p2 H3 (s1.free hp2) (s1.trans s3) e6⟩
 |all g s=>
  obtain⟨t,u,y,rfl,et,eu,hy⟩:=hS;have hw':s.words<=m:=by simp only[Sy.words]at hw;omega
  obtain⟨⟨hpw,hg⟩,hok'⟩:=hok;right;refine aI (SqT.of et) (i:=0) rfl ?_;right;refine aH (by decide) ?_;right;refine aH (by decide) ?_;right;refine aH (by decide) ?_;right;refine aH (by decide) ?_;right;refine aH (by decide) ?_;right;refine aI (SqT.of et) (i:=2) rfl ?_;right;refine⟨a,b,y,c,n,ws,vs,s,rfl,T,hy,hok',hw',fun l H1 hl s1 e1=>?_⟩;right;refine aH (by decide) ?_;right;refine aI (SqT.of (s1 _ _ et)) (i:=1) rfl ?_;refine AN (T.views.same s1) hg (Gs (qp hpw hg) T.hands) (s1 _ _ eu) ?_ ?_
  ·intro C s' H' fp k rs r H2 R N e2 e3 hR
   right;exact bH (SqL.of e2) e3 hR
  ·intro p H2 hp s2 V2
   right;refine cU rfl ?_;right;refine⟨p,l,n,_,_,rfl,V2,s2 _ _ e1,?_,hn,fun p2 H3 hp2 s3 e6=>q p2 H3 (s1.free (s2.free hp2)) ((s1.trans s2).trans s3) e6⟩;intro v hv;obtain⟨k,hk,rfl⟩:=Gh.mp hv;obtain⟨_,_,_,_,_,e5⟩:=nR T.views (hg k hk);exact T.win _ e5
 |common g s=>
  obtain⟨t,u,y,rfl,et,eu,hy⟩:=hS;have hw':s.words<=m:=by simp only[Sy.words]at hw;omega
  obtain⟨⟨hpw,hg⟩,hok'⟩:=hok;right;refine aI (SqT.of et) (i:=0) rfl ?_;right;refine aH (by decide) ?_;right;refine aH (by decide) ?_;right;refine aH (by decide) ?_;right;refine aH (by decide) ?_;right;refine aH (by decide) ?_;right;refine aI (SqT.of et) (i:=2) rfl ?_;right;refine⟨a,b,y,c,n,ws,vs,s,rfl,T,hy,hok',hw',fun l H1 hl s1 e1=>?_⟩;right;refine aH (by decide) ?_;right;refine aI (SqT.of (s1 _ _ et)) (i:=1) rfl ?_;refine AN (T.views.same s1) hg (Gs (qp hpw hg) T.hands) (s1 _ _ eu) ?_ ?_
  ·intro C s' H' fp k rs r H2 R N e2 e3 hR
   right;exact bH (SqL.of e2) e3 hR
  ·intro p H2 hp s2 V2
   have s12:=s1.trans s2;have hwin:∀v∈g.map (fun h=>vs.getD h []),Within n v:=by
    intro v hv;obtain⟨k,hk,rfl⟩:=Gh.mp hv;obtain⟨_,_,_,_,_,e5⟩:=nR T.views (hg k hk);exact T.win _ e5
   right;refine aH (by decide) ?_;right;refine j6 (SqL.of (s12 _ _ ea)) ?_;right;rw[FQ,hlr,hlen];refine⟨n,p,_,rfl,V2,hwin,hn,fun r j H3 hj hjn s3 e3=>?_⟩;right;refine⟨j,l,n,r,_,rfl,e3,s3 _ _ (s2 _ _ e1),xg hj,hn,fun p2 H4 hp2 s4 e4=>q p2 H4 (s1.free (s2.free (s3.free hp2))) ((s12.trans s3).trans s4) ?_⟩;rw[e4]
   congr 2
   exact mT fun i hi=>Dr hj hi
end
end
section
variable{K:Fg}{vs:List V}{H:Hp}{Q:VK}{E:XK}
noncomputable def da(v:List Nat)(as:List IA):List Nat:=aM (v.zip as)
noncomputable def vU(p:Nat×IA):MK:=.inr [.inl (some ((p.1:Nat):Int)),.inl p.2]
theorem BW(a b:Nat×IA)(e:vU a=vU b):a=b:=by
 have h:=JD e;injection h with h1 h2
 injection h1 with h1
 injection h1 with h1
 injection h2 with h2 _
 injection h2 with h2
 obtain⟨a1,a2⟩:=a;obtain⟨b1,b2⟩:=b;simp only at h1 h2;rw[show a1=b1 by omega,h2]
theorem xi(v:List Nat)(as:List IA):aM ((v.zip as).map vU)=da v as:=oC (f:=vU) BW _
noncomputable def oZ(_:Fg):Sp:=fun vs H Q _=>∃(a b:Addr)(v:List Nat)(ys:List V)(as:List IA),vs=[.ref a,.ref b]/\H a=some (.lst (aq v))/\H b=some (.lst ys)/\ys.map iaV=as.map some/\v.length=as.length/\v.length<=100000/\
 ∀p H',H p=none->ah H H'->H' p=some (.lst (aq (da v as)))->Q (.ref p) H'
theorem vV{H:Hp}:∀{ts:List Addr} {v:List Nat} {ys:List V} {as:List IA},nO H ts ((aq v).zip ys)->ys.map iaV=as.map some->Paired (ca H) (ts.map V.ref) ((v.zip as).map vU)
 |ts,[],ys,as,h,_=>by
  have e:(aq []).zip ys=[]:=rfl;rw[e]at h;cases h;rw[show([]:List Nat).zip as=[]from rfl];exact .nil
 |ts,x::v,[],as,h,e=>by
  have z:(aq (x::v)).zip ([]:List V)=[]:=by simp
  rw[z]at h;cases h;have:as=[]:=by
   cases as with
   |nil=>rfl
   |cons _ _=>simp at e
  rw[this];simp only[List.zip_nil_right];exact .nil
 |ts,x::v,y::ys,as,h,e=>by
  cases as with
  |nil=>simp at e
  |cons a as=>
   rw[F6,F6]at e;injection e with e1 e2
   have z:(aq (x::v)).zip (y::ys)=(.int (x:Int),y)::(aq v).zip ys:=rfl;rw[z]at h;cases h with
   |cons h t=>
    rw[Ha,F6,F6];exact .cons ⟨_,_,rfl,h,.cons rfl (.cons e1 .nil)⟩ (vV t e2)
noncomputable def nS(K:Fg):TS:=(aG (au (dq K) [] E0 (aa (yJ bj bj K (aa (ab 0) (aa (ab 1) af))) af)))
theorem BX(h:oZ K vs H Q E):nS K { nx:=fun _ H'=>Q .non H',rt:=Q } (start ["view","values"] vs) H:=by
 obtain⟨a,b,v,ys,as,rfl,ea,eb,hi,hl,hn,q⟩:=h;show nS K _ [some _,some _] _;unfold nS;right;refine EG ?_;right;refine⟨a,b,aq v,ys,rfl,SqL.of ea,SqL.of eb,by rw[aS];omega,fun p H1 hp s1 ⟨ts,e1,pt⟩=>?_⟩;right;refine⟨p,_,_,true,rfl,e1,vV pt hi,?_,by rw[FQ,Iw];omega,fun p2 H2 hp2 s2 e2=>?_⟩
 ·intro k hk
  obtain⟨w,_,rfl⟩:=Gh.mp hk;rfl
 ·rw[xi]at e2
  exact q _ _ (s1.free hp2) (s1.trans s2) e2
end
end L2
section
namespace L2
open KF
section
variable{α β γ:Type}[DecidableEq α][DecidableEq β][DecidableEq γ]
theorem mW{ks:List α}{i:Nat}{k:α}(h:ks[i]?=some k):ks[ks.idxOf k]?=some k:=by
 rw[FN (K5 (F0 h)),Nl]
theorem jd{ks:List α}{i:Nat}{k:α}(h:ks[i]?=some k):(aM ks)[i]?=some (ks.idxOf k):=by unfold aM;rw[FZ,h];rfl
theorem qq{ks:List α}{j:Nat}{k:α}(h:ks[j]?=some k):ks.idxOf k<=j:=by obtain⟨_,_,_,hle⟩:=pW (jd h);exact hle
theorem je{l:List α}{i:Nat}(h:i<l.length):∃x,l[i]?=some x:=⟨_,FN h⟩
theorem oJ{ks:List α}{ls:List β}(hl:ks.length=ls.length)(h:∀i j,i<ks.length->j<ks.length->(ks[i]?=ks[j]?↔ls[i]?=ls[j]?)):aM ks=aM ls:=by
 refine GW fun i=>?_;by_cases hi:i<ks.length
 ·obtain⟨k,hk⟩:=je hi
  obtain⟨l,hL⟩:=je (l:=ls) (i:=i) (by omega);rw[jd hk,jd hL];have a1:=mW hk;have b1:=mW hL;have la:=qq hk;have lb:=qq hL;have e1:ls[ks.idxOf k]?=some l:=by rw[<-hL];exact((h _ _ (by omega) hi).mp (a1.trans hk.symm))
  have e2:ks[ls.idxOf l]?=some k:=by rw[<-hk];exact((h _ _ (by omega) hi).mpr (b1.trans hL.symm))
  have q1:=qq e1;have q2:=qq e2
  congr 1
  omega
 ·rw[Gd (by rw[cV];omega),Gd (by rw[cV];omega)]
theorem mX{ks:List α}{i j:Nat}(hi:i<ks.length)(hj:j<ks.length):(aM ks)[i]?=(aM ks)[j]?↔ks[i]?=ks[j]?:=by
 obtain⟨k,hk⟩:=je hi;obtain⟨l,hL⟩:=je hj;rw[jd hk,jd hL,hk,hL];constructor
 ·intro e
  rw[<-mW hk,<-mW hL,F1 e]
 ·intro e
  rw[F1 e]
theorem oK(ks:List α):aM (aM ks)=aM ks:=oJ (cV ks) fun i j hi hj=>by rw[cV]at hi hj;exact mX hi hj
theorem tI{ks:List α}{i m:Nat}(h:(aM ks)[i]?=some m):ks[m]?=ks[i]?/\m<=i/\i<ks.length:=by
 obtain⟨k,hk,rfl,hle⟩:=pW h;exact⟨(mW hk).trans hk.symm,hle,(FS.mp hk).1⟩
theorem xR{v:List α}{as:List β}(hl:v.length=as.length){i j:Nat}(hi:i<v.length)(hj:j<v.length):(v.zip as)[i]?=(v.zip as)[j]?↔v[i]?=v[j]?/\as[i]?=as[j]?:=by
 obtain⟨x,hx⟩:=je hi;obtain⟨y,hy⟩:=je hj;obtain⟨a,ha⟩:=je (l:=as) (i:=i) (by omega);obtain⟨b,hb⟩:=je (l:=as) (i:=j) (by omega);have e1:(v.zip as)[i]?=some (x,a):=by rw[IS];exact⟨hx,ha⟩
 have e2:(v.zip as)[j]?=some (y,b):=by rw[IS];exact⟨hy,hb⟩
 rw[e1,e2,hx,hy,ha,hb];simp only[Lq,Prod.mk.injEq]
noncomputable def spl(v:List Nat)(as:List β):List Nat:=aM (v.zip as)
theorem BY{v:List Nat}{as:List β}(hv:aM v=v)(h1:v.length=as.length)(h:∀i j,i<v.length->j<v.length->v[i]?=v[j]?->as[i]?=as[j]?):spl v as=v:=by
 conv=>rhs;rw[<-hv]
 refine oJ (by rw[Iw];omega) fun i j hi hj=>?_;rw[Iw]at hi hj;rw[xR h1 (by omega) (by omega)];exact⟨fun q=>q.1,fun q=>⟨q,h i j (by omega) (by omega) q⟩⟩
end
theorem AO{v:List Nat}(hv:aM v=v){x y:Nat}(h:v[x]?=some y):v[x]?=v[y]?/\y<=x:=by
 have h':(aM v)[x]?=some y:=by rw[hv];exact h
 obtain⟨q,hle,_⟩:=tI h';exact⟨q.symm,hle⟩
end L2
end
namespace L2
open PySem PyProof.Rows
section
open KF
open Classical in
noncomputable def blA(n:Nat)(P:Nat->Prop):List IA:=(F5 n).map fun i=>some (if decide (P i)then 1 else 0)
theorem gx(n:Nat)(P:Nat->Prop):(blA n P).length=n:=by unfold blA;simp
theorem EK(n:Nat)(P:Nat->Prop):(blV n P).map iaV=(blA n P).map some:=by
 unfold blV blA;rw[I0,I0];exact Hy fun i _=>rfl
open Classical in
theorem xS{n i:Nat}{P:Nat->Prop}(h:i<n):(blA n P)[i]?=some (some (if decide (P i)then 1 else 0)):=by unfold blA;rw[FZ,GO h];rfl
theorem xT{n i j:Nat}{P:Nat->Prop}(hi:i<n)(hj:j<n):(blA n P)[i]?=(blA n P)[j]?↔(P i↔P j):=by
 rw[xS hi,xS hj];by_cases a:P i<;>by_cases b:P j<;>simp[a,b]
theorem mY{α:Type}[DecidableEq α]{ks:List α}{n:Nat}(h:ks.length=n):Within n (aM ks):=⟨by rw[cV,h],fun x hx=>by
 obtain⟨i,hi⟩:=Mp.mp hx;obtain⟨_,h1,h2⟩:=tI hi;omega⟩
theorem gJ{n:Nat}{v:List Nat}{as:List IA}(hv:Within n v)(hl:as.length=n):Within n (da v as):=mY (by rw[Iw,hv.1,hl,Ju])
theorem AQ(v:List Nat)(as:List IA):aM (da v as)=da v as:=oK _
noncomputable def lrn(vw:List (List Nat))(g:List Nat)(as:List IA):List (List Nat):=g.foldl (fun w h=>w.set h (da (w.getD h []) as)) vw
theorem nU(as:List IA):∀(g:List Nat)(vw:List (List Nat)),(lrn vw g as).length=vw.length
 | [],_=>rfl
 |h::g,vw=>by
  show(lrn (vw.set h _) g as).length=_;rw[nU as g,Hj]
theorem BZ(vw:List (List Nat))(g:List Nat)(h:Nat)(as:List IA):lrn vw (g++[h]) as=(lrn vw g as).set h (da ((lrn vw g as).getD h []) as):=by
 unfold lrn;rw[NA];rfl
theorem AR{ws:List (List Nat)}{i j:Nat}{v:List Nat}:(ws.set i v).getD j []=if i=j/\i<ws.length then v else ws.getD j []:=by
 rw[FO,FO,IC];by_cases e:i=j
 ·subst e
  by_cases h:i<ws.length
  ·simp[h]
  ·simp[h,Gd (NT h)]
 ·simp[e]
theorem rW(as:List IA):∀(g:List Nat)(vw:List (List Nat))(i:Nat),g.Nodup->i<vw.length->(lrn vw g as).getD i []=if i∈g then da (vw.getD i []) as else vw.getD i []
 | [],vw,i,_,_=>by simp[lrn]
 |h::g,vw,i,nd,hi=>by
  obtain⟨n1,n2⟩:=Hi.mp nd;show(lrn (vw.set h _) g as).getD i []=_;rw[rW as g _ i n2 (by rw[Hj];exact hi),AR];by_cases e:i=h
  ·subst e
   rw[if_neg n1,if_pos ⟨rfl,hi⟩,if_pos F2]
  ·have e':¬h=i:=fun z=>e z.symm
   have e1:(if h=i/\h<vw.length then da (vw.getD h []) as else vw.getD i [])=vw.getD i []:=if_neg fun z=>e' z.1;rw[e1];by_cases m:i∈g
   ·rw[if_pos m,if_pos (FX _ m)]
   ·rw[if_neg m,if_neg fun z=>(FW.mp z).elim e m]
theorem B5{ws vs:List (List Nat)}(hl:ws.length=vs.length)(h:∀i,i<vs.length->ws.getD i []=vs.getD i []):ws=vs:=by
 refine GW fun i=>?_;by_cases hi:i<vs.length
 ·have:=h i hi
  rw[FO,FO,FN hi,FN (by omega)]at this;rw[FN hi,FN (by omega)];exact congrArg some this
 ·rw[Gd (by omega),Gd (by omega)]
theorem nV{as:List IA}{P:List Nat->Prop}(hs:∀v,P v->P (da v as)):∀(g:List Nat)(vw:List (List Nat)),(∀h∈g,h<vw.length)->(∀v∈vw,P v)->∀v∈lrn vw g as,P v
 | [],_,_,h=>h
 |k::g,vw,hk,h=>by
  show∀v∈lrn (vw.set k _) g as,P v;refine nV hs g _ (fun x hx=>by rw[Hj];exact hk x (FX _ hx)) fun v hv=>?_;rcases List.mem_or_eq_of_mem_set hv with z|z
  ·exact h v z
  ·rw[z]
   have hl:=hk k F2;refine hs _ (h _ ?_);rw[FO,FN hl];exact Hq hl
set_option genInjectivity false in
structure TM where
 c:Nat
 ss:List Nat
 vw:List (List Nat)
 ds:List (List Nat×List V)
noncomputable def TM.ws(T:TM):List (List Nat):=KM.aW (T.ss++[T.c-T.ss.sum]) T.c
noncomputable def TM.n(T:TM):Nat:=T.ws.length
noncomputable def TM.k(T:TM):Nat:=T.ss.length
noncomputable def TM.tr(T:TM)(s:Sy):Nat->Prop:=TR T.n T.ws T.vw s
noncomputable def TM.learn(T:TM)(g:List Nat)(as:List IA)(ys:List V):TM:={ T with vw:=lrn T.vw g as,ds:=T.ds++[(g,ys)] }
noncomputable def TM.word(T:TM)(g:List Nat)(s:Sy):TM:=T.learn g (blA T.n (T.tr s)) (blV T.n (T.tr s))
noncomputable def TM.begun(c:Nat)(ss:List Nat):TM:=⟨c,ss,(F5 ss.length).map fun i=>fN (KM.aW (ss++[c-ss.sum]) c) ((i:Nat):Int),[]⟩
structure TM.Ok(T:TM):Prop where
 pk:il T.c T.ss
 few:KM.bR T.c T.ss<=2000
 len:T.vw.length=T.k
 win:∀v∈T.vw,Within T.n v
 can:∀v∈T.vw,aM v=v
theorem TM.Ok.n2{T:TM}(h:T.Ok):T.n<=2000:=by
 show(KM.aW _ _).length<=_;rw[KM.iK h.pk.sum];exact h.few
theorem TM.Ok.cards{T:TM}(h:T.Ok):∀w∈T.ws,w.length=T.c:=fun w hw=>(KM.bB _ T.c w hw).len
theorem TM.Ok.begun{c:Nat}{ss:List Nat}(pk:il c ss)(few:KM.bR c ss<=2000):(TM.begun c ss).Ok:=⟨pk,few,by show(List.map _ _).length=ss.length;rw[FQ,G5],fun v hv=>by
 obtain⟨i,_,rfl⟩:=Gh.mp hv;exact mY (by rw[FQ];rfl),fun v hv=>by
 obtain⟨i,_,rfl⟩:=Gh.mp hv;exact oK _⟩
theorem TM.Ok.learn{T:TM}(h:T.Ok){g:List Nat}{as:List IA}{ys:List V}(hg:∀x∈g,x<T.k)(hl:as.length=T.n):(T.learn g as ys).Ok:=
 ⟨h.pk,h.few,by show(lrn T.vw g as).length=_;rw[nU];exact h.len,nV (fun v hv=>gJ hv hl) g T.vw (by rw[h.len];exact hg) h.win,nV (fun v _=>AQ v as) g T.vw (by rw[h.len];exact hg) h.can⟩
theorem TM.Ok.word{T:TM}(h:T.Ok){g:List Nat}{s:Sy}(hg:∀x∈g,x<T.k):(T.word g s).Ok:=h.learn hg (gx _ _)
end
section
variable{K:Fg}{vs:List V}{H:Hp}{Q:VK}{E:XK}
theorem Ds{i lo hi:Int}(h1:lo<=i)(h2:i<=hi):bY (.int i) lo hi=true:=by
 show(decide (lo<=i)&&decide (i<=hi))=true;rw[decide_eq_true h1,decide_eq_true h2];rfl
noncomputable def eB(_:Fg):Sp:=fun vs H Q _=>∃(i b:Int),vs=[.int i,.int b]/\Q (.bl (decide (0<=i)&&decide (i<=b-1))) H
noncomputable def jz(K:Fg):TS:=(aG (au (cZ K) [] E0 (aa (ab 0) (aa (tC (.int 0)) (aa (tOp (rI0 fun i j=>.int (i-j)) (ab 1) (tC (.int 1))) af)))))
theorem xj(h:eB K vs H Q E):jz K { nx:=fun _ H'=>Q .non H',rt:=Q } (start ["thing","bound"] vs) H:=by
 obtain⟨i,b,rfl,q⟩:=h;show jz K _ [some _,some _] _;unfold jz;right;exact⟨.int i,0,b-1,rfl,dE.int _,q⟩
theorem kf{i b:Int}(h1:0<=i)(h2:i<=b):(decide (0<=i)&&decide (i<=b))=true:=by rw[decide_eq_true h1,decide_eq_true h2];rfl
noncomputable def gK(_:Fg):Sp:=fun vs H Q _=>∃(a:Addr)(g:List Nat)(h:Nat),vs=[.ref a,.int h]/\H a=some (.tup (aq g))/\g.Pairwise (· < ·)/\(∀k∈g,k<h)/\Q (.bl true) H
noncomputable def iQ(K:Fg):TS:=(ap (bo (dX (tB (tCB (ko K) (aa (ab 0) (aa (tC (.ty "tuple")) af))))) (aG (tC (.bl false))) aZ)
 (ap (az (tC (.int 0)) (ai 2))
 (ap (cc (mz K (ab 0)) (ai 3) (ap (bo (dX (tB (au (cZ K) [] E0 (aa (ab 3) (aa (ab 2) (aa (tOp (rI0 fun i j=>.int (i-j)) (ab 1) (tC (.int 1))) af)))))) (aG (tC (.bl false))) aZ)
 (az (tOp (rI0 fun i j=>.int (i+j)) (ab 3) (tC (.int 1))) (ai 2))))
 (aG (tC (.bl true))))))
theorem vW(h:gK K vs H Q E):iQ K { nx:=fun _ H'=>Q .non H',rt:=Q } (start ["thing","hands","least","hand"] vs) H:=by
 obtain⟨a,g,h,rfl,e,pw,hg,q⟩:=h;show iQ K _ [some _,some _,none,none] _;unfold iQ;right;refine j7 (.tup e) (iF K) ?_;right;refine vy (aq g) (SqT.of e) (fun i σ H2=>∃(lo:Int)(st:Option V),σ=[some (.ref a),some (.int h),some (.int lo),st]/\H2=H/\∀k∈g.drop i,lo<=(k:Int)) ⟨0,none,rfl,rfl,fun k _=>by omega⟩ (fun i σ H2 _ ⟨_,_,_,eH,_⟩=>by subst eH;exact SqT.of e) ?_ ?_
 ·rintro i y σ H2 hy ⟨lo,st,rfl,rfl,hlo⟩
  obtain⟨k,hk,rfl⟩:=fu hy;obtain⟨h1,h2⟩:=FS.mp hk;have hd:g.drop i=k::g.drop (i+1):=by rw[Ls h1,h2]
  have hkh:=hg k (F0 hk);have pd:(g.drop i).Pairwise (· < ·):=pw.sublist (List.drop_sublist i g);rw[hd]at hlo pd;have l1:=hlo k F2;right;refine⟨.int (k:Int),lo,(h:Int)-1,rfl,dE.int _,?_⟩;rw[Ds l1 (show(k:Int)<=(h:Int)-1 by omega)];right;refine⟨_,_,rfl,rfl,fun j hj=>?_⟩;have:=(K7.mp pd).1 j hj;omega
 ·rintro σ H2 ⟨lo,st,rfl,rfl,_⟩
  right;exact q
noncomputable def kE(_:Fg):Sp:=fun vs H Q _=>∃(v:V)(s:Sy),vs=[v]/\aD H v s/\∀(p:Addr)(xs:List V)(H':Hp),ah H H'->H p=none->H' p=some (.lst xs)->fw H' xs s.subs->xs.length<=2->Q (.ref p) H'
noncomputable def jA(K:Fg)(G:Glo):TS:=(ap (az (tOp (yw G.kvs G.forms) (tC (.ref G.forms)) (tOp (bU K) (ab 0) (tC (.int 0)))) (ai 1))
 (aG (b8 (lz gk gk K (aa (ab 1) (aa (tSl (oW K) (ab 0) (li (tC (.int 1))) ig) af))) (fun _ _ _ _=>(gj K 2 (bF (ai 0) (bF (ai 1) gi)))) (fun _ _ _ _=>(ba (tOp rEq (ab 0) (tC (.str "saying"))))) (fun _ _ _ _=>(ab 1)) [none,none])))
theorem xk{K:Fg}{G:Glo}(g:qj K G){vs:List V}{H:Hp}{Q:VK}{E:XK}(h:kE K vs H Q E):jA K G { nx:=fun _ H'=>Q .non H',rt:=Q } (start ["saying","form"] vs) H:=by
 obtain⟨v,s,rfl,hs,q⟩:=h;obtain⟨a,items,rfl,ha,hl,hp⟩:=Dm hs;obtain⟨f,hf,tf⟩:=g.form s;show jA K G _ [some _,none] _;unfold jA;right;refine aI (SqT.of ha) (jK _ _) ?_;refine CC hf ?_;right;refine uG (SqT.of ha) (iH _ _) fun b H1 hb s1 e1=>?_;rw[lC]at e1;right;have hml:min (s.form.map V.str).length items.length=s.form.length:=by rw[FQ,hl];omega
 refine mK (S1:=gk) (S2:=gk) (s.form.map V.str) items (tf.sq _) (SqT.of e1) (fun H' _=>tf.sq _) (fun H' s'=>SqT.of (s' _ _ e1)) (by rw[FQ];have:=s.form_len;omega) (fun i acc _=>acc=gq (s.form.take i) (items.take i)) (fun _ _=>rfl) ?_ ?_
 ·intro p hp' C s' H' fp i x y T acc H2 H3 hx hy ⟨s2,e2,l2,r2⟩ hT s3 e3 e4
  obtain⟨z,hz,rfl⟩:∃z,s.form[i]?=some z/\x=.str z:=by
   rw[FZ]at hx;cases e:s.form[i]? with
   |none=>rw[e]at hx;cases hx
   |some z=>rw[e]at hx;exact⟨z,rfl,(F1 hx).symm⟩
  have pt:=AJ s.form items i z y hz hy;subst r2;refine eW (SqT.of e3) ?_;right;refine cT (fun c=>?_) (fun c=>?_)
  ·right
   rw[if_pos c]at pt;exact bm.put hp' (fun _ _ _ _ r _=>r) (s2.trans s3) e4 l2 pt.symm
  ·rw[if_neg c,II]at pt
   exact bm.skip (s2.trans s3) e4 l2 pt.symm
 ·intro p acc H2 hp' s2 e2 r2
  rw[hml,<-hl,GG,hl,GG]at r2;subst r2;refine q p _ H2 (s1.trans s2) (s1.free hp') e2 (hp.keep (s1.trans s2).keep) (Gs (BT _ _) s.form_len)
noncomputable def gL(H:Hp)(c h:Nat)(p:Str)(x:V):Prop:=(p="holder"/\∃k:Nat,x=.int k/\k<=h)\/(p="card"/\∃k:Nat,x=.int k/\k<c)\/(p="hand"/\∃k:Nat,x=.int k/\k<h)\/(p="hands"/\∃a g,x=.ref a/\H a=some (.tup (aq g))/\g.Pairwise (· < ·)/\∀k∈g,k<h)\/p="saying"
noncomputable def rX(_:Fg):Sp:=fun vs H Q _=>∃(c h:Nat)(p:Str)(x:V),vs=[.int c,.int h,.str p,x]/\gL H c h p x/\Q (.bl true) H
noncomputable def qr(K:Fg):TS:=(ap (bo (ba (tOp rEq (ab 2) (tC (.str "holder")))) (aG (au (eB K) [] E0 (aa (ab 3) (aa (tOp (rI0 fun i j=>.int (i+j)) (ab 1) (tC (.int 1))) af)))) aZ)
 (ap (bo (ba (tOp rEq (ab 2) (tC (.str "card")))) (aG (au (eB K) [] E0 (aa (ab 3) (aa (ab 0) af)))) aZ)
 (ap (bo (ba (tOp rEq (ab 2) (tC (.str "hand")))) (aG (au (eB K) [] E0 (aa (ab 3) (aa (ab 1) af)))) aZ)
 (ap (bo (ba (tOp rEq (ab 2) (tC (.str "hands")))) (aG (au (gK K) [] E0 (aa (ab 3) (aa (ab 1) af)))) aZ)
 (aG (tC (.bl true)))))))
theorem Dt(h:rX K vs H Q E):qr K { nx:=fun _ H'=>Q .non H',rt:=Q } (start ["cards","hands","place","part"] vs) H:=by
 obtain⟨c,h,p,x,rfl,k,q⟩:=h;show qr K _ [some _,some _,some _,some _] _;unfold qr;rcases k with⟨rfl,k,rfl,hk⟩|⟨rfl,k,rfl,hk⟩|⟨rfl,k,rfl,hk⟩|⟨rfl,a,g,rfl,e,pw,hg⟩|rfl
 ·right
  refine cU rfl ?_;right;refine⟨_,_,rfl,?_⟩;rw[kf (by omega) (by omega)];exact q
 ·right
  refine aH (by decide+kernel) ?_;right;refine cU rfl ?_;right;refine⟨_,_,rfl,?_⟩;rw[kf (by omega) (by omega)];exact q
 ·right
  refine aH (by decide+kernel) ?_;right;refine aH (by decide+kernel) ?_;right;refine cU rfl ?_;right;refine⟨_,_,rfl,?_⟩;rw[kf (by omega) (by omega)];exact q
 ·right
  refine aH (by decide+kernel) ?_;right;refine aH (by decide+kernel) ?_;right;refine aH (by decide+kernel) ?_;right;refine cU rfl ?_;right;exact⟨a,g,h,rfl,e,pw,hg,q⟩
 ·right
  refine aH (by decide+kernel) ?_;right;refine aH (by decide+kernel) ?_;right;refine aH (by decide+kernel) ?_;right;refine aH (by decide+kernel) ?_;right;exact q
theorem B6{H:Hp}{c h:Nat}{v:V}{s:Sy}(hs:aD H v s)(ok:s.Ok c h):∃a items,v=.ref a/\H a=some (.tup (.str s.word::items))/\items.length=s.form.length/\∀(i:Nat)(p:Str)(x:V),s.form[i]?=some p->items[i]?=some x->gL H c h p x:=by
 have one:∀{p:Str} {x:V},gL H c h p x->∀(i:Nat)(p':Str)(x':V),[p][i]?=some p'->[x][i]?=some x'->gL H c h p' x':=fun f i p' x' hp hx=>by
  match i,hp,hx with
  |0,hp,hx=>cases hp;cases hx;exact f
 have two:∀{p q:Str} {x y:V},gL H c h p x->gL H c h q y->∀(i:Nat)(p':Str)(x':V),[p,q][i]?=some p'->[x,y][i]?=some x'->gL H c h p' x':=fun f g i p' x' hp hx=>by
  match i,hp,hx with
  |0,hp,hx=>cases hp;cases hx;exact f
  |1,hp,hx=>cases hp;cases hx;exact g
 have sy:∀{x:V},gL H c h "saying" x:=.inr (.inr (.inr (.inr rfl)));cases s with
 |holds w k=>obtain⟨a,e,q⟩:=hs;exact⟨a,_,e,q,rfl,two (.inl ⟨rfl,w,rfl,ok.1⟩) (.inr (.inl ⟨rfl,k,rfl,ok.2⟩))⟩
 |sees k=>obtain⟨a,e,q⟩:=hs;exact⟨a,_,e,q,rfl,one (.inr (.inr (.inl ⟨rfl,k,rfl,ok⟩)))⟩
 |not s=>obtain⟨a,x,e,q,r⟩:=hs;exact⟨a,_,e,q,rfl,one sy⟩
 |and s t=>obtain⟨a,x,y,e,q,r,r'⟩:=hs;exact⟨a,_,e,q,rfl,two sy sy⟩
 |or s t=>obtain⟨a,x,y,e,q,r,r'⟩:=hs;exact⟨a,_,e,q,rfl,two sy sy⟩
 |knows k s=>obtain⟨a,x,e,q,r⟩:=hs;exact⟨a,_,e,q,rfl,two (.inr (.inr (.inl ⟨rfl,k,rfl,ok.1⟩))) sy⟩
 |all g s=>obtain⟨a,b,x,e,q,j,r⟩:=hs;exact⟨a,_,e,q,rfl,two (.inr (.inr (.inr (.inl ⟨rfl,b,g,rfl,j,ok.1.1,ok.1.2⟩)))) sy⟩
 |common g s=>obtain⟨a,b,x,e,q,j,r⟩:=hs;exact⟨a,_,e,q,rfl,two (.inr (.inr (.inr (.inl ⟨rfl,b,g,rfl,j,ok.1.1,ok.1.2⟩)))) sy⟩
theorem gL.same{H H':Hp}(s:ah H H'){c h:Nat}{p:Str}{x:V}(f:gL H c h p x):gL H' c h p x:=by
 rcases f with f|f|f|⟨e,a,g,e2,q,r⟩|f
 ·exact .inl f
 ·exact .inr (.inl f)
 ·exact .inr (.inr (.inl f))
 ·exact .inr (.inr (.inr (.inl ⟨e,a,g,e2,s _ _ q,r⟩)))
 ·exact .inr (.inr (.inr (.inr f)))
noncomputable def lQ(_:Fg):Sp:=fun vs H Q _=>∃(c h:Nat)(v:V)(s:Sy),vs=[.int c,.int h,v]/\aD H v s/\s.Ok c h/\∀H',ah H H'->Q (.bl true) H'
noncomputable def kg(K:Fg)(G:Glo):TS:=(ap (bo (tOr (dX (tB (tCB (ko K) (aa (ab 2) (aa (tC (.ty "tuple")) af))))) (ba (tOp rEq (tCB (cH K) (aa (ab 2) af)) (tC (.int 0))))) (aG (tC (.bl false))) aZ)
 (ap (bo (tOr (dX (tB (tCB (ko K) (aa (tOp (bU K) (ab 2) (tC (.int 0))) (aa (tC (.ty "str")) af))))) (ba (tOp (vA G.kvs G.forms true) (tOp (bU K) (ab 2) (tC (.int 0))) (tC (.ref G.forms))))) (aG (tC (.bl false))) aZ)
 (ap (az (tOp (yw G.kvs G.forms) (tC (.ref G.forms)) (tOp (bU K) (ab 2) (tC (.int 0)))) (ai 3))
 (ap (bo (ba (tOp rNe (tCB (cH K) (aa (ab 2) af)) (tOp (rI0 fun i j=>.int (i+j)) (tC (.int 1)) (tCB (cH K) (aa (ab 3) af))))) (aG (tC (.bl false))) aZ)
 (aG (tCB (BA K) (aa (b8 (lz gk gk K (aa (ab 3) (aa (tSl (oW K) (ab 2) (li (tC (.int 1))) ig) af))) (fun _ _ _ _=>(gj K 2 (bF (ai 0) (bF (ai 1) gi)))) (fun _ _ _ _=>bI) (fun _ _ _ _=>(au (rX K) [] E0 (aa (ab 2) (aa (ab 3) (aa (ab 0) (aa (ab 1) af)))))) [none,none,some 0,some 1]) af)))))))
theorem EL{H:Hp}{Q:VK}{kvs:List (Str×V)}{a:Addr}{k:Str}{v:V}(e:kvs.lookup k=some v)(h:Q (.bl false) H):vA kvs a true (.str k) (.ref a) H Q:=⟨rfl,k,rfl,by rw[e];exact h⟩
theorem B7(K:Fg):GI K (.type "str") (.type "str")=some true:=vR K "str"
theorem yO{K:Fg}{G:Glo}(g:qj K G){vs:List V}{H:Hp}{Q:VK}{E:XK}(h:lQ K vs H Q E):kg K G { nx:=fun _ H'=>Q .non H',rt:=Q } (start ["cards","hands","thing","form"] vs) H:=by
 obtain⟨c,h,v,s,rfl,hs,ok,q⟩:=h;obtain⟨a,items,rfl,ha,hl,hf⟩:=B6 hs ok;obtain⟨f,hk,tf⟩:=g.form s;have hfl:=s.form_len;show kg K G _ [some _,some _,some _,none] _;unfold kg;right;refine j7 (.tup ha) (iF K) ?_;right;refine aH (by show¬(((items.length+1:Nat):Int)=0);omega) ?_;right;refine aI (SqT.of ha) (jK _ _) ?_;right;refine j7 (.str _) (B7 K) ?_;right;refine aI (SqT.of ha) (jK _ _) ?_;right;refine EL hk ?_;right;refine aI (SqT.of ha) (jK _ _) ?_;refine CC hk ?_;right;refine rL (tf.sq _) ?_;right;rw[FQ];refine vx (fun n=>absurd (show((items.length+1:Nat):Int)=1+((s.form.length:Nat):Int) by omega) n) (fun _=>?_);right;refine uG (SqT.of ha) (iH _ _) fun b H1 hb s1 e1=>?_;rw[lC]at e1;right;refine mK (S1:=gk) (S2:=gk) (s.form.map V.str) items (tf.sq _) (SqT.of e1) (fun H' _=>tf.sq _) (fun H' s'=>SqT.of (s' _ _ e1)) (by rw[FQ];omega) (fun i acc _=>acc=(GC i true).map V.bl) (fun _ _=>rfl) ?_ ?_
 ·rintro p hp C s' H' fp i x y T acc H2 H3 hx hy ⟨s2,e2,l2,rfl⟩ hT s3 e3 e4
  obtain⟨z,hz,rfl⟩:∃z,s.form[i]?=some z/\x=.str z:=by
   rw[FZ]at hx;cases e:s.form[i]? with
   |none=>rw[e]at hx;cases hx
   |some z=>rw[e]at hx;exact⟨z,rfl,(F1 hx).symm⟩
  refine eW (SqT.of e3) ?_;right;refine⟨c,h,z,y,rfl,(hf i z y hz hy).same ((s1.trans s2).trans s3),?_⟩;exact bm.put hp (fun _ _ _ _ r _=>r) (s2.trans s3) e4 l2 (by rw[Ky,Gj];rfl)
 ·rintro p acc H2 hp s2 e2 rfl
  right;refine⟨p,_,rfl,SqL.of e2,?_⟩;rw[show∀n:Nat,(GC n true).all id=true from fun n=>by simp];exact q _ (s1.trans s2)
noncomputable def gM(_:Fg):Sp:=fun vs H Q _=>∃(l:Addr)(xs:List V)(ss:List Sy),vs=[.ref l]/\H l=some (.lst xs)/\fw H xs ss/\xs.length<=100/\∀(p:Addr)(ys:List V)(H':Hp),ah H H'->H p=none->H' p=some (.lst ys)->fw H' ys (ss.flatMap Sy.subs)->Q (.ref p) H'
noncomputable def fA(K:Fg):TS:=(ap (az (cX af) (ai 1))
 (ap (cc (dc K (ab 0)) (ai 2) (dY (tBM K "list" rF (ab 1) (aa (au (kE K) [] E0 (aa (ab 2) af)) af))))
 (aG (ab 1))))
theorem EM{α β:Type}{F:α->β->Prop}{l l':List α}{m m':List β}(h:Paired F l m)(q:Paired F l' m'):Paired F (l++l') (m++m'):=by
 induction h with
 |nil=>exact q
 |cons x _ ih=>exact .cons x ih
theorem xU:∀ss:List Sy,(ss.flatMap Sy.subs).length<=2*ss.length
 | []=>FU _
 |s::r=>by
  have:=xU r;have:s.subs.length<=2:=by cases s<;>simp[Sy.subs]
  rw[J2,Ga,Gm];omega
theorem qt(h:gM K vs H Q E):fA K { nx:=fun _ H'=>Q .non H',rt:=Q } (start ["sayings","parts","saying"] vs) H:=by
 obtain⟨l,xs,ss,rfl,el,hx,h100,q⟩:=h;show fA K _ [some _,none,none] _;unfold fA;have lxs:=eY hx;right;refine⟨by simp[FV],fun p H1 hp s1 e1=>?_⟩;right;refine kN xs (SqL.of (s1 _ _ el)) (fun i σ H2=>∃(u:Option V)(ys:List V),σ=[some (.ref l),some (.ref p),u]/\ah H H2/\H2 p=some (.lst ys)/\fw H2 ys ((ss.take i).flatMap Sy.subs)) ⟨none,[],rfl,s1,e1,.nil⟩ ?_ ?_ ?_
 ·rintro i σ H2 hi ⟨u,ys,rfl,s2,_⟩
  exact SqL.of (s2 _ _ el)
 ·rintro i x σ H2 hxi ⟨u,ys,rfl,s2,e2,p2⟩
  obtain⟨s,hs,is⟩:=ke hx hxi;have lys:=eY p2;have:=xU (ss.take i);rw[Hb]at this;right;refine⟨.inl ⟨rfl,_,SqL.of e2⟩,?_⟩;right;refine⟨x,s,rfl,is.keep s2.keep,fun p3 zs H3 s3 hp3 e3 y3 l3=>?_⟩;right;refine BD (s3 _ _ e2) e3 (by rw[FV];omega) fun H4 o4 e4=>?_;have k4:dg H3 H4:=fun b ws e=>(o4 b fun z=>by rw[z,s3 _ _ e2]at e;cases e).trans e;refine⟨_,ys++zs,rfl,(s2.trans s3).off hp o4,e4,?_⟩;rw[Hx,hs,KH];refine EM ((p2.keep s3.keep).keep k4) ?_;show Paired _ zs (s.subs++[]);rw[II];exact y3.keep k4
 ·rintro σ H2 ⟨u,ys,rfl,s2,e2,p2⟩
  rw[lxs,GG]at p2;right;exact q p ys H2 s2 hp e2 p2
theorem vX:∀ss:List Sy,(ss.map Sy.words).sum=ss.length+((ss.flatMap Sy.subs).map Sy.words).sum
 | []=>rfl
 |s::r=>by
  rw[F6,Gk,vX r,s.words_subs,J2,Gj,GZ,Gm];omega
theorem Du{c h:Nat}{s:Sy}(ok:s.Ok c h):∀t∈s.subs,t.Ok c h:=by
 cases s with
 |holds w k=>exact fun t ht=>nomatch ht
 |sees k=>exact fun t ht=>nomatch ht
 |not s=>exact fun t ht=>by rw[FR.mp ht];exact ok
 |and s t=>exact fun u hu=>(FW.mp hu).elim (fun z=>z▸ok.1) fun z=>FR.mp z▸ok.2
 |or s t=>exact fun u hu=>(FW.mp hu).elim (fun z=>z▸ok.1) fun z=>FR.mp z▸ok.2
 |knows k s=>exact fun t ht=>by rw[FR.mp ht];exact ok.2
 |all g s=>exact fun t ht=>by rw[FR.mp ht];exact ok.2
 |common g s=>exact fun t ht=>by rw[FR.mp ht];exact ok.2
noncomputable def jV(_:Fg):Sp:=fun vs H Q _=>∃(c h:Nat)(v:V)(s:Sy),vs=[.int c,.int h,v]/\aD H v s/\s.Ok c h/\s.words<=30/\∀H',ah H H'->Q (.bl true) H'
noncomputable def iR(K:Fg):TS:=(ap (bo (tOr (dX (tB (au (fM K) [] E0 (aa (ab 0) af)))) (dX (tB (au (fM K) [] E0 (aa (ab 1) af))))) (aG (tC (.bl false))) aZ)
 (ap (az (tC (.int 0)) (ai 3))
 (ap (az (cX (aa (ab 2) af)) (ai 4))
 (ap (jN (ba (tOp (rI0 fun i j=>.bl (decide (j<i))) (tCB (cH K) (aa (ab 4) af)) (tC (.int 0)))) (ap (az (tOp (rI0 fun i j=>.int (i+j)) (ab 3) (tCB (cH K) (aa (ab 4) af))) (ai 3))
 (ap (bo (tOr (ba (tOp (rI0 fun i j=>.bl (decide (j<i))) (ab 3) (tC (.int 30)))) (dX (tB (tCB (BA K) (aa (b8 (dc K (ab 4)) (fun _ _ _ _=>(ai 0)) (fun _ _ _ _=>bI) (fun _ _ _ _=>(au (lQ K) [] E0 (aa (ab 1) (aa (ab 2) (aa (ab 0) af))))) [none,some 0,some 1]) af))))) (aG (tC (.bl false))) aZ)
 (az (au (gM K) [] E0 (aa (ab 4) af)) (ai 4)))))
 (aG (tC (.bl true)))))))
theorem vY(h:jV K vs H Q E):iR K { nx:=fun _ H'=>Q .non H',rt:=Q } (start ["cards","hands","thing","words","level"] vs) H:=by
 obtain⟨c,h,v,s,rfl,hs,ok,hw,q⟩:=h;show iR K _ [some _,some _,some _,none,none] _;unfold iR;right;refine⟨_,rfl,dE.int _,?_⟩;right;refine yt ?_;right;refine⟨_,rfl,dE.int _,?_⟩;right;refine yt ?_;right;refine⟨by simp[FV],fun p H1 hp s1 e1=>?_⟩;refine i9 ?_;dsimp only[HU,HV];refine bp ?_;refine uF (fun m σ H2=>∃(W:Nat)(l:Addr)(xs:List V)(ss:List Sy),σ=[some (.int c),some (.int h),some v,some (.int W),some (.ref l)]/\ah H H2/\H2 l=some (.lst xs)/\fw H2 xs ss/\(∀t∈ss,t.Ok c h)/\m=(ss.map Sy.words).sum/\W+m<=30) s.words
  ⟨0,p,[v],[s],rfl,s1,e1,.cons (hs.keep s1.keep) .nil,fun t ht=>by rw[FR.mp ht];exact ok,by simp,by omega⟩ ?_
 rintro m σ H2 ⟨W,l,xs,ss,rfl,s2,e2,hx,hok,rfl,hW⟩;have lxs:=eY hx;have e:=vX ss;right;refine cT (fun c0=>?_) (fun c0=>?_)
 ·refine uE ?_
  right;refine aH (by omega) ?_;right;refine gw xs (SqL.of e2) (by omega) (fun i acc _=>acc=(GC i true).map V.bl) (fun _ _=>rfl) ?_ ?_
  ·rintro p' hp' C s' H' fp i x acc H3 hxi ⟨s3,e3,l3,rfl⟩
   obtain⟨t,ht,it⟩:=ke hx hxi;right;refine⟨c,h,x,t,rfl,it.keep s3.keep,hok t (F0 ht),fun H4 s4=>?_⟩;exact bm.put hp' (fun _ _ _ _ r _=>r) (s3.trans s4) (s4 _ _ e3) l3 (by rw[Ky,Gj];rfl)
  ·rintro p' acc H3 hp' s3 e3 rfl
   right;refine⟨p',_,rfl,SqL.of e3,?_⟩;rw[show∀n:Nat,(GC n true).all id=true from fun n=>by simp];right;refine⟨l,xs,ss,rfl,s3 _ _ e2,hx.keep s3.keep,by omega,fun p4 ys H4 s4 hp4 e4 y4=>?_⟩;right;refine⟨_,by omega,W+xs.length,p4,ys,_,rfl,(s2.trans s3).trans s4,e4,y4,fun t ht=>?_,rfl,by omega⟩;obtain⟨u,hu,ht⟩:=Kg.mp ht;exact Du (hok u hu) t ht
 ·right
  exact q _ s2
end
section
variable{K:Fg}{vs:List V}{H:Hp}{Q:VK}{E:XK}
noncomputable def iS(K:Fg):TS:=(ap (az (tOp (rI (fun _ j=>0<j) fun i j=>.int (i%j)) (au (bq K) [] E0 (aa (ab 0) (aa (ab 1) af))) (tC (.int 8))) (ai 3))
 (ap (bo (ba (tOp rEq (tOp (rI (fun _ j=>0<j) fun i j=>.int (i%j)) (tOp (rI fI fun i j=>.int (i/j)) (au (bq K) [] E0 (aa (ab 0) (aa (ab 1) af))) (tC (.int 8))) (tC (.int 16))) (tC (.int 5)))) (az (tOp (rI0 fun i j=>.int (i+j)) (tC (.int 8)) (tOp (rI (fun _ j=>0<j) fun i j=>.int (i%j)) (tOp (rI fI fun i j=>.int (i/j)) (au (bq K) [] E0 (aa (ab 0) (aa (ab 1) af))) (tC (.int 128))) (tC (.int 5)))) (ai 3)) aZ)
 (ap (az (cX af) (ai 4))
 (ap (cc (dD (aa (tOp (rI0 fun i j=>.int (i+j)) (tC (.int 1)) (tOp (rI (fun _ j=>0<j) fun i j=>.int (i%j)) (au (bq K) [] E0 (aa (ab 0) (aa (tOp (rI0 fun i j=>.int (i+j)) (ab 1) (tC (.int 1))) af))) (tC (.int 5)))) af)) (ai 5) (dY (tBM K "list" fo (ab 4) (aa (tOp (rI (fun _ j=>0<j) fun i j=>.int (i%j)) (au (bq K) [] E0 (aa (ab 0) (aa (tOp (rI0 fun i j=>.int (i+j)) (tOp (rI0 fun i j=>.int (i+j)) (ab 1) (tC (.int 2))) (ab 5)) af))) (tOp (rI0 fun i j=>.int (i+j)) (tCB yu (aa (tC (.int 4)) (aa (tOp (rI0 fun i j=>.int (i-j)) (ab 3) (tCB (oV K) (aa (ab 4) af))) af))) (tC (.int 1)))) af))))
 (ap (jN (ba (tOp (rI0 fun i j=>.bl (decide (j<i))) (au (fT K) [] E0 (aa (ab 3) (aa (ab 4) af))) (ab 2))) (ap (bo (ba (tOp (rI0 fun i j=>.bl (decide (j<i))) (tCB (rK K) (aa (ab 4) af)) (tOp (rI0 fun i j=>.int (i-j)) (ab 3) (tCB (oV K) (aa (ab 4) af))))) (az (tOp (rI0 fun i j=>.int (i-j)) (tCB (rK K) (aa (ab 4) af)) (tC (.int 1))) (km (ab 4) (tBM K "list" vv (ab 4) (aa (tCB (rK K) (aa (ab 4) af)) af)) jw)) aZ)
 (az (tOp (rI0 fun i j=>.int (i-j)) (ab 3) (tC (.int 1))) (ai 3))))
 (aG (cq (aa (ab 3) (aa (ab 4) af)))))))))
theorem vZ(h:jU K vs H Q E):iS K { nx:=fun _ H'=>Q .non H',rt:=Q } (start ["_law_script","_law_at","_law_most","_law_cards","_law_sizes","_law_k"] vs) H:=by
 obtain⟨a,ns,at_,most,rfl,hSc,ha0,ha1,hm,g⟩:=h;show iS K _ [some _,some _,some _,none,none,none] _;unfold iS;refine bp ?_;nofun;refine⟨a,ns,at_,rfl,hSc,ha0,by omega,?_⟩;nofun;refine em fun NX hNX=>?_;have key:∀c:Nat,c<=12->NX [some (.ref a),some (.int at_),some (.int most),some (.int c),none,none] H:=by
  intro c hc;refine hNX _ _ ?_;refine bp ?_;nofun;refine⟨by simp[FV],fun q H1 hq s1 e1=>?_⟩;nofun;refine em fun NX hNX=>?_;have hSc1:=hSc.same s1;nofun;refine⟨a,ns,at_+1,rfl,hSc1,by omega,by omega,?_⟩;nofun;refine d5 (1+bG ns (at_+1)%5).toNat rfl (by omega) (by omega) (fun i σ H2=>∃(ss:List Nat)(st:Option V),σ=[some (.ref a),some (.int at_),some (.int most),some (.int c),some (.ref q),st]/\ah H H2/\H2 q=some (.lst (aq ss))/\ss.length=i/\ss.sum<=c) ⟨[],none,rfl,s1,e1,rfl,GH _⟩ ?_ ?_
  ·rintro i σ H2 hi ⟨ss,st,rfl,s2,e2,hl,hs⟩
   have hSc2:=hSc.same s2;right;refine⟨nH e2,?_⟩;right;refine⟨a,ns,at_+2+(i:Int),rfl,hSc2,by omega,by omega,?_⟩;right;refine yv (ns:=ss.map fun(s:Nat)=>((s:Nat):Int)) (by rw[<-cO];exact SqL.of e2) ?_;right;rw[gm];obtain⟨lst,hlst,hlst2⟩:∃l:Nat,(if(c:Int)-((ss.sum:Nat):Int)<4 then(c:Int)-((ss.sum:Nat):Int)else 4)=(l:Int)/\l<=c-ss.sum:=by
    by_cases h:(c:Int)-((ss.sum:Nat):Int)<4
    ·exact⟨c-ss.sum,by rw[if_pos h];omega,FU _⟩
    ·exact⟨4,by rw[if_neg h];rfl,by omega⟩
   rw[hlst];right;obtain⟨z,hz,hz2⟩:∃z:Nat,bG ns (at_+2+(i:Int))%((lst:Int)+1)=(z:Int)/\z<=lst:=by
    have m1:=IJ (bG ns (at_+2+(i:Int))) (b:=(lst:Int)+1) (by omega);have m2:=IG (bG ns (at_+2+(i:Int))) (b:=(lst:Int)+1) (by omega);exact⟨(bG ns (at_+2+(i:Int))%((lst:Int)+1)).toNat,by omega,by omega⟩
   rw[hz];refine ik e2 (by rw[aS,FV];omega) fun H4 o4 e4=>?_;rw[eX]at e4;refine⟨ss++[z],_,rfl,s2.off hq o4,e4,by rw[Ga,hl];rfl,?_⟩;rw[GZ,Gk,Jt];omega
  ·rintro σ H2 ⟨ss,st,rfl,s2,e2,hl,hs⟩
   exact hNX _ _ (AE s2 hq e2 (by omega) (by omega) hs hc hm g)
 nofun;refine⟨a,ns,at_,rfl,hSc,ha0,by omega,?_⟩;nofun;refine cT (fun hb=>?_) (fun hb=>?_)
 ·nofun
  refine⟨a,ns,at_,rfl,hSc,ha0,by omega,?_⟩;nofun;have:=key (8+bG ns at_/128%5).toNat (by omega);rw[show(((8+bG ns at_/128%5).toNat:Nat):Int)=8+bG ns at_/128%5 by omega]at this;exact this
 ·nofun
  have:=key (bG ns at_%8).toNat (by omega);rw[show(((bG ns at_%8).toNat:Nat):Int)=bG ns at_%8 by omega]at this;exact this
end
theorem bm.putW{H H4:Hp}{p:Addr}{R:Nat->List V->Hp->Prop}{i:Nat}{acc:List V}{y:V}(hp:H p=none)(s:ah H H4)(e:H4 p=some (.lst acc))(l:acc.length<=i)(r:∀H6,Off p H4 H6->R (i+1) (acc++[y]) H6):
  H4 p=some (.lst acc)/\bm H p R (i+1) (acc++[y]) (upd H4 p (.lst (acc++[y]))):=
 ⟨e,s.upd hp _,av,by rw[Ga];exact ME l 1,r _ fq⟩
section
variable{g:CF TG}{tt:CF TT}{te:CF TE}{σ₀:St}{Q:VK}{H:Hp}{K:Fg}
theorem AS{j:Int}(n:Nat)(hn:j.toNat=n)(hj:j<=1000000)(hj0:-1000000<=j)(R:Addr->Nat->List V->Hp->Prop)(h0:∀p H',ah H H'->R p 0 [] H')
  (hs:∀p,H p=none->∀C s' H' fp,∀i acc H2,i<n->bm H p (R p) i acc H2->g C s' H' fp (.int i) σ₀ H2 fun σ2 H3=>tt C s' H' fp σ2 H3 fun b H4=>if b=true then te C s' H' fp σ2 H4 fun y H5=>H5 p=some (.lst acc)/\bm H p (R p) (i+1) (acc++[y]) (upd H5 p (.lst (acc++[y])))else bm H p (R p) (i+1) acc H4)
  (hd:∀p acc H2,H p=none->ah H H2->H2 p=some (.lst acc)->R p n acc H2->Q (.ref p) H2):
  ∃j':Int,[V.int j]=[.int j']/\-(2^62)<=j'/\j'<2^62/\∀p,H p=none->∃W:Nat->Nat->List V->Hp->Prop,(∃m,W 0 m [] (upd H p (.lst [])))/\∀C s' H' fp,bV (Itr 0 j'.toNat) (g C s' H' fp) (tt C s' H' fp) (te C s' H' fp) σ₀ p Q W:=by
 refine⟨j,rfl,by omega,by omega,fun p hp=>?_⟩;subst hn;exact lu (lo:=0) (bm H p (R p)) ⟨aX hp _,av,FU _,h0 _ _ (aX hp _)⟩ (fun i acc H2 _ c=>⟨c.2.1,c.2.2.1⟩) (by rw[FV];omega) (fun C s' H' fp i acc H2 hi c=>by rw[LD];exact hs p hp C s' H' fp i acc H2 hi c) fun acc H2 c=>hd p acc H2 hp c.1 c.2.1 c.2.2.2
end
section
open PySem.Spec
theorem bK.units64{k:Nat}{A:Around}(r:bK k A):A.units+64<cLine:=by have:=r.un;omega
section
variable{X:Cx}
theorem OpR.weak{f:Value->Value->Sem Value}{r r':R2}(h:OpR X f r)(w:∀x y H Q,r' x y H Q->r x y H Q):OpR X f r':=fun pins s σ H x y v u Q I rx ry q=>h pins s σ H x y v u Q I rx ry (w x y H Q q)
theorem bP.weak{f:Value}{r r':List V->Hp->VK->Prop}(h:bP X f r)(w:∀xs H Q,r' xs H Q->r xs H Q):bP X f r':=fun pins s σ H xs us Q I rx q=>h pins s σ H xs us Q I rx (w xs H Q q)
theorem kU:OpR X (IL .Add) lB:=zZ.weak fun _ _ _ _ ⟨l,b,xs,zs,e1,e2,h1,h2,hz,q⟩=>⟨l,b,xs,zs,e1,e2,h1,h2,hz,q.upd⟩
theorem AT:OpR X (IL .Mult) BB:=Ed.weak fun _ _ _ _ ⟨l,k,xs,e1,e2,h1,h2,h3,hz,q⟩=>⟨l,k,xs,e1,e2,h1,h2,h3,hz,q.upd⟩
theorem ip:bP X (.type "list") (gC X.K):=vh.weak fun _ _ _ ⟨p,ys,e,h,q⟩=>⟨p,ys,e,h,q.upd⟩
theorem o0:bP X (.type "tuple") (jJ X.K):=mh.weak fun _ _ _ ⟨p,ys,e,h,q⟩=>⟨p,ys,e,.inl ⟨h,q.upd⟩⟩
end
section
variable{X:Cx}{es:List Expr}{t:TA}{pos:Pos}
theorem bE{x1}(h:PA X es t):PE X (.Tuple es x1 pos) (cq t):=by
 intro pins s σ H Q I hq;refine MT (thn (h pos pins s σ H _ I hq) fun us s1 ⟨xs,H1,I1,r,z,q⟩=>⟨by rw[<-r.length];exact z,?_⟩);have hf:H1 s1.heap.objs.size=none:=I1.hok.fresh (FU _);refine⟨.ref s1.heap.objs.size,upd H1 s1.heap.objs.size (.tup xs),I1.laid (t':=s1.toks) (fun b u e=>FP _ e) (FU _) ?_,rfl,q.upd _ hf⟩;exact⟨z,us,r,dH.new _ _⟩
theorem bZ(h:PA X es t):PE X (.List es pos) (cX t):=by
 intro pins s σ H Q I hq;refine Nb (thn (h pos pins s σ H _ I hq) fun us s1 ⟨xs,H1,I1,r,z,q⟩=>⟨by rw[<-r.length];exact z,?_⟩);have hf:H1 s1.heap.objs.size=none:=I1.hok.fresh (FU _);refine⟨.ref s1.heap.objs.size,upd H1 s1.heap.objs.size (.lst xs),I1.laid (t':=s1.toks) (fun b u e=>FP _ e) (FU _) ?_,rfl,q.upd _ hf⟩;exact⟨z,us,0,r,F9 _ rfl⟩
end
section
variable{X:Cx}{es:List Expr}{te:TE}{t:TA}
theorem ao{v:Const}{j:Nat}{p:Pos}(ha:PE X (.Constant v j p) te)(hr:PA X es t):PA X (.Constant v j p::es) (aa te t):=eh ha hr rfl
theorem ac{x:Str}{p:Pos}(ha:PE X (.Name x p) te)(hr:PA X es t):PA X (.Name x p::es) (aa te t):=eh ha hr rfl
theorem aJ{a b:Expr}{o:Operator}{p:Pos}(ha:PE X (.BinOp a o b p) te)(hr:PA X es t):PA X (.BinOp a o b p::es) (aa te t):=eh ha hr rfl
theorem aU{f:Expr}{as:List Expr}{ks:List Keyword}{p:Pos}(ha:PE X (.Call f as ks p) te)(hr:PA X es t):PA X (.Call f as ks p::es) (aa te t):=eh ha hr rfl
theorem bg{as:List Expr}{k:Nat}{p:Pos}(ha:PE X (.Tuple as k p) te)(hr:PA X es t):PA X (.Tuple as k p::es) (aa te t):=eh ha hr rfl
theorem v3{as:List Expr}{p:Pos}(ha:PE X (.List as p) te)(hr:PA X es t):PA X (.List as p::es) (aa te t):=eh ha hr rfl
theorem aE{a b:Expr}{p:Pos}(ha:PE X (.Subscript a b p) te)(hr:PA X es t):PA X (.Subscript a b p::es) (aa te t):=eh ha hr rfl
theorem xl{a:Expr}{os:List CmpOp}{bs:List Expr}{p:Pos}(ha:PE X (.Compare a os bs p) te)(hr:PA X es t):PA X (.Compare a os bs p::es) (aa te t):=eh ha hr rfl
theorem cI{e:Expr}(ha:PE X e te)(hr:PA X es t)(hs:Gf (e::es) X.env=(false,eval e X.env)::Gf es X.env:=by rfl):PA X (e::es) (aa te t):=eh ha hr hs
structure FK(N:List Str)(sc:Scope)(i:Nat)(x:Str):Prop where
 n:N[i]?=some x
 v:Vis sc x
 d:(x==("__debug__":Str))=false
 c:(x==("__classdict__":Str))=false
end
end
section
open PySem.Spec
theorem qu{X:Cx}:SlR X (oW X.K):=fun pins s σ H x v vl vu lo hi sl Q I rx hs pl pu ⟨a,xs,e,h,n,q⟩=>Ea pins s σ H x v vl vu lo hi sl Q I rx hs pl pu ⟨a,xs,e,h,n,q.upd⟩
noncomputable def qw(P:Program)(w:World)(K:Fg)(a:Addr)(kvs:List (Str×V)):Prop:=
 (a==HH)=false/\∃(o:Obj)(es:Array M6)(ep:Nat)(vs:List (Key×Value)),K.lookup a=some o/\o.ExactDict/\o.data=.dict es ep/\KeysOf (gr P w) es/\Pairs (gr P w) es.toList vs/\(vs.map (·.1)).Nodup/\
  Paired (fun(p:Str×V)(q:Key×Value)=>q.1=.inr p.1/\aB p.2 q.2) kvs vs
theorem jp{k:Str}{v:V}:∀{kvs:List (Str×V)} {vs:List (Key×Value)},Paired (fun(p:Str×V)(q:Key×Value)=>q.1=.inr p.1/\aB p.2 q.2) kvs vs->kvs.lookup k=some v->∃u,valueAt vs (.inr k)=some u/\aB v u
 |_,_,.nil,h=>by cases h
 |_,_,.cons (a:=p) (b:=q) r t,h=>by
  obtain⟨x,y⟩:=p;obtain⟨kq,u⟩:=q;obtain⟨r1,r2⟩:=r;simp only at r1 r2;subst r1;rw[GU]at h;unfold valueAt;rw[Gu];by_cases e:k=x
  ·subst e
   rw[beq_self_eq_true]at h;cases h;rw[show decide ((Ht k:Key)=Ht k)=true from decide_eq_true rfl];exact⟨u,rfl,r2⟩
  ·rw[show(k==x)=false from beq_eq_false_iff_ne.mpr e]at h
   rw[show decide ((Ht x:Key)=Ht k)=false from decide_eq_false fun z=>e (JD z).symm];exact jp t h
section
variable{X:Cx}{o i:Expr}{pos:Pos}{td ty:TE}{a:Addr}{kvs:List (Str×V)}
theorem qw.of{pins:List (Addr×Obj)}{σ:St}{H:Hp}{s:Shared}(D:qw X.prog X.w X.K a kvs)(I:Inv X pins σ H s):∃vs,s.heap.DictOf (gr X.prog X.w) a vs/\Paired (fun(p:Str×V)(q:Key×Value)=>q.1=.inr p.1/\aB p.2 q.2) kvs vs:=by
 obtain⟨_,o,es,ep,vs,lk,ex,hd,hk,hp,nd,rel⟩:=D;exact⟨vs,⟨o,es,ep,I.kIn a o lk,ex,hd,hk,hp,nd⟩,rel⟩
theorem AU(D:qw X.prog X.w X.K a kvs)(ho:PE X o td)(hi:PE X i ty)(hs:BF i):PE X (.Subscript o i pos) (tOp (yw kvs a) td ty):=by
 intro pins s σ H Q I h;refine xM Lu.lookup hs (thn (ho pins s σ H _ I h) fun u s1 ⟨x,H1,I1,rx,q1⟩=>thn (hi pins s1 σ H1 _ I1 q1) fun iv s2 ⟨y,H2,I2,ry,ex,k,v,ey,el,q2⟩=>?_);subst ex ey;obtain rfl:u=Gi a:=rx;obtain⟨vs,dd,rel⟩:=D.of I2;obtain⟨w',hw,rw'⟩:=jp rel el;exact⟨dd.typeIs,N1 (CD (k:=.inr k) ry) dd.mapOf hw ⟨v,H2,I2.tok _,rw',q2⟩⟩
theorem oM{k:Str}:∀{kvs:List (Str×V)} {vs:List (Key×Value)},Paired (fun(p:Str×V)(q:Key×Value)=>q.1=.inr p.1/\aB p.2 q.2) kvs vs->kvs.lookup k=none->valueAt vs (.inr k)=none
 |_,_,.nil,_=>rfl
 |_,_,.cons (a:=p) (b:=q) r t,h=>by
  obtain⟨x,y⟩:=p;obtain⟨kq,u⟩:=q;obtain⟨r1,r2⟩:=r;simp only at r1 r2;subst r1;rw[GU]at h;unfold valueAt;rw[Gu];by_cases e:k=x
  ·subst e
   rw[beq_self_eq_true]at h;cases h
  ·rw[show(k==x)=false from beq_eq_false_iff_ne.mpr e]at h
   rw[show decide ((Ht x:Key)=Ht k)=false from decide_eq_false fun z=>e (JD z).symm];exact oM t h
theorem v4(D:qw X.prog X.w X.K a kvs):OpR X (HP .NotIn) (vA kvs a true):=by
 intro pins s σ H x y v u Q I rx ry h;obtain⟨rfl,k,rfl,q⟩:=h;obtain rfl:u=Gi a:=ry;obtain⟨vs,dd,rel⟩:=D.of I;refine wpAny_notIn_of (CD (k:=.inr k) rx) D.1 dd.mapOf ?_;refine⟨.bl (!(kvs.lookup k).isSome),H,I.tok _,?_,q⟩;cases e:kvs.lookup k with
 |none=>rw[oM rel e];rfl
 |some v'=>
  obtain⟨w',hw,_⟩:=jp rel e;rw[hw];rfl
end
end
section
open PySem.Spec
structure B8(P:Program)(w:World)(K:Fg)(mg:Str->Option Value)(G:Glo):Prop where
 ok:qj K G
 mf:mg "FORMS"=some (.ref G.forms)
 df:qw P w K G.forms G.kvs
theorem gy{K:Fg}{a:Addr}{od:Option Addr}{its:Array Value}{n:Nat}{sl:Array (Option Value)}(l:K.lookup a=some ⟨.type "tuple",od,.seq its n,sl⟩)(xs:List V)(hz:its.size<=FY)(r:aA xs its.toList):jn K a xs:=⟨_,its,n,l,rfl,rfl,hz,r⟩
theorem Dv{P:Program}{w:World}{K:Fg}{mg:Str->Option Value}{aF aC f1 f2 f3 f4 f5 f6 f7 f8:Addr}{k1 k2 k3 k4 k5 k6 k7 k8 u1 u2 u3 u4 u5 u6 u7 u8 u9 ua ub uc ud ue:Tok}{ep n1 n2 n3 n4 n5 n6 n7 n8:Nat}{o1 o2 o3 o4 o5 o6 o7 o8:Option Addr}{s1 s2 s3 s4 s5 s6 s7 s8:Array (Option Value)}
  (nF:(aF==HH)=false) (mf:mg "FORMS"=some (.ref aF))
  (lF:K.lookup aF=some ⟨.type "dict",none,.dict #[⟨GP w.params "holds",.str "holds" k1,.ref f1⟩,⟨GP w.params "not",.str "not" k2,.ref f2⟩,⟨GP w.params "and",.str "and" k3,.ref f3⟩,⟨GP w.params "or",.str "or" k4,.ref f4⟩,
   ⟨GP w.params "knows",.str "knows" k5,.ref f5⟩,⟨GP w.params "all",.str "all" k6,.ref f6⟩,⟨GP w.params "common",.str "common" k7,.ref f7⟩,⟨GP w.params "sees",.str "sees" k8,.ref f8⟩] ep,#[]⟩)
  (l1:K.lookup f1=some ⟨.type "tuple",o1,.seq #[.str "holder" u1,.str "card" u2] n1,s1⟩) (l2:K.lookup f2=some ⟨.type "tuple",o2,.seq #[.str "saying" u3] n2,s2⟩) (l3:K.lookup f3=some ⟨.type "tuple",o3,.seq #[.str "saying" u4,.str "saying" u5] n3,s3⟩) (l4:K.lookup f4=some ⟨.type "tuple",o4,.seq #[.str "saying" u6,.str "saying" u7] n4,s4⟩)
  (l5:K.lookup f5=some ⟨.type "tuple",o5,.seq #[.str "hand" u8,.str "saying" u9] n5,s5⟩) (l6:K.lookup f6=some ⟨.type "tuple",o6,.seq #[.str "hands" ua,.str "saying" ub] n6,s6⟩) (l7:K.lookup f7=some ⟨.type "tuple",o7,.seq #[.str "hands" uc,.str "saying" ud] n7,s7⟩) (l8:K.lookup f8=some ⟨.type "tuple",o8,.seq #[.str "hand" ue] n8,s8⟩)
  : B8 P w K mg ⟨aF,aC,f1,f2,f3,f4,f5,f6,f7,f8⟩ where
 mf:=mf
 ok:=⟨gy l1 _ (by show 2<=FY;decide) (.cons ⟨_,rfl⟩ (.cons ⟨_,rfl⟩ .nil)),gy l2 _ (by show 1<=FY;decide) (.cons ⟨_,rfl⟩ .nil),gy l3 _ (by show 2<=FY;decide) (.cons ⟨_,rfl⟩ (.cons ⟨_,rfl⟩ .nil)),gy l4 _ (by show 2<=FY;decide) (.cons ⟨_,rfl⟩ (.cons ⟨_,rfl⟩ .nil)),
  gy l5 _ (by show 2<=FY;decide) (.cons ⟨_,rfl⟩ (.cons ⟨_,rfl⟩ .nil)),gy l6 _ (by show 2<=FY;decide) (.cons ⟨_,rfl⟩ (.cons ⟨_,rfl⟩ .nil)),gy l7 _ (by show 2<=FY;decide) (.cons ⟨_,rfl⟩ (.cons ⟨_,rfl⟩ .nil)),gy l8 _ (by show 1<=FY;decide) (.cons ⟨_,rfl⟩ .nil)⟩
 df:=by
  refine⟨nF,_,_,_,[(.inr "holds",.ref f1),(.inr "not",.ref f2),(.inr "and",.ref f3),(.inr "or",.ref f4),(.inr "knows",.ref f5),(.inr "all",.ref f6),(.inr "common",.ref f7),(.inr "sees",.ref f8)],lF,⟨rfl,rfl,rfl⟩,rfl,?_,?_,?_,?_⟩
  ·intro e he
   simp only[List.mem_toArray,Array.mem_def,FW,GL,or_false]at he;rcases he with rfl|rfl|rfl|rfl|rfl|rfl|rfl|rfl
   ·exact⟨.inr "holds",bf P w _ _,rfl⟩
   ·exact⟨.inr "not",bf P w _ _,rfl⟩
   ·exact⟨.inr "and",bf P w _ _,rfl⟩
   ·exact⟨.inr "or",bf P w _ _,rfl⟩
   ·exact⟨.inr "knows",bf P w _ _,rfl⟩
   ·exact⟨.inr "all",bf P w _ _,rfl⟩
   ·exact⟨.inr "common",bf P w _ _,rfl⟩
   ·exact⟨.inr "sees",bf P w _ _,rfl⟩
  ·exact .cons (bf P w _ _) rfl (.cons (bf P w _ _) rfl (.cons (bf P w _ _) rfl (.cons (bf P w _ _) rfl (.cons (bf P w _ _) rfl (.cons (bf P w _ _) rfl (.cons (bf P w _ _) rfl (.cons (bf P w _ _) rfl .nil)))))))
  ·show([.inr "holds",.inr "not",.inr "and",.inr "or",.inr "knows",.inr "all",.inr "common",.inr "sees"]:List Key).Nodup
   decide+kernel
  ·exact .cons ⟨rfl,rfl⟩ (.cons ⟨rfl,rfl⟩ (.cons ⟨rfl,rfl⟩ (.cons ⟨rfl,rfl⟩ (.cons ⟨rfl,rfl⟩ (.cons ⟨rfl,rfl⟩ (.cons ⟨rfl,rfl⟩ (.cons ⟨rfl,rfl⟩ .nil)))))))
end
section
open PySem.Spec
theorem br.there{P:Program}{w:World}{H:Hp}{h:Heap}{a:Addr}{o:HO}(x:br P w H h a o):∃ob,h.get? a=some ob:=by
 cases o with
 |lst xs=>obtain⟨_,_,_,_,e⟩:=x;exact⟨_,e⟩
 |tup xs=>obtain⟨_,_,_,_,e,_⟩:=x;exact⟨_,e⟩
 |dK kvs=>obtain⟨_,_,_,_,o,_,_,e,_⟩:=x;exact⟨_,e⟩
 |dT kvs=>obtain⟨_,_,_,_,o,_,_,e,_⟩:=x;exact⟨_,e⟩
 |set S n=>obtain⟨o,_,_,_,e,_⟩:=x;exact⟨_,e⟩
 |ins C dx fs=>obtain⟨_,_,_,e,_⟩:=x;exact⟨_,e⟩
 |own y=>exact x
 |xd fs=>obtain⟨_,⟨_,_,_,e,_⟩,_⟩:=x;exact⟨_,e⟩
 |rng lo hi=>obtain⟨_,_,_,e⟩:=x;exact⟨_,e⟩
 |frz ob u=>obtain⟨e,_⟩:=x;exact⟨_,e⟩
 |tbl ps=>exact⟨_,x⟩
 |met f y=>exact⟨_,x⟩
 |ext φ=>obtain⟨_,e,_⟩:=x;exact e
section
variable{P:Program}{w:World}{K:Fg}{mg:Str->Option Value}{base:Heap}{N:List Str}{qual:Str}{scope:Scope}{f:Addr}{cd:Value}{A:Around}{outer:List Env}{s:Shared}{H:Hp}{E:XK}
end
end
section
open PySem.Spec
section
variable{X:Cx}{pins:List (Addr×Obj)}{σ:St}{H:Hp}{s:Shared}{B h':Heap}
end
section
variable{X:Cx}{pins pn pins':List (Addr×Obj)}{σ:St}{H:Hp}{s:Shared}{B:Heap}{E:Value->Shared->Prop}{a:Addr}
end
end
section
open PySem.Spec PySem.W
section
variable{prog:Program}{w:World}{A:Around}{E:Value->Shared->Prop}{h:Heap}{g:Array Mu}{d:Drawn}{t:Nat}{os:OsState}{a:Addr}{o:Obj}{C:Addr}{K:Frag}
end
end
section
open PySem.Spec PySem.W
end
section
open PySem.Spec PySem.W
section
variable{P:Program}{w:World}{K:Frag}{mg:Str->Option Value}{base:Heap}{k:Nat}{f:Addr}{fd:Gc}{ps:List Str}
theorem dJ.or{CX:CXT}{sp sp':Sp}(F:dJ P w K mg base CX k f fd ps sp)(G:dJ P w K mg base CX k f fd ps sp'):dJ P w K mg base CX k f fd ps (fun vs H Q E=>sp vs H Q E\/sp' vs H Q E):=
 ⟨fun vs H Q E h=>h.elim (F.len vs H Q E) (G.len vs H Q E),fun A outer s H args us vs Q E hr he hb hv hs=>hs.elim (F.run A outer s H args us vs Q E hr he hb hv) (G.run A outer s H args us vs Q E hr he hb hv)⟩
end
end
section
open PySem.Spec PySem.W
section
variable{P:Program}{w:World}{K:Frag}{mg:Str->Option Value}{base:Heap}
noncomputable def FnM(P:Program)(w:World)(K:Frag)(mg:Str->Option Value)(base:Heap)(k:Nat)(C:Addr)(m:Str)(ps:List Str)(sp:Sp):Prop:=
 ∃f fd,dJ P w K mg base CX0 k f fd ps sp/\vc K C m f/\d3 K fd ps []
structure iq(K:Frag)(C:Addr)(m qual:Str)(st:Stmt)(ps:List Str)(f:Addr)(fd:Gc):Prop where
 fn:Fun K m qual st f fd
 mt:vc K C m f
 b:d3 K fd ps []
theorem iq.ok{C:Addr}{m qual:Str}{st:Stmt}{N ps:List Str}{f:Addr}{fd:Gc}{k:Nat}{sp:Sp}(D:iq K C m qual st ps f fd)(S:ax N ps (am st))(len:∀vs H Q E,sp vs H Q E->vs.length=ps.length)
  (hbody:∀(cdv:Value)(A:Around)(outer:List Env)(s:Shared)(H:Hp)(vs:List V)(Q:VK)(E:XK),bK k (A.deeper (envOfC qual (am st) s.heap.objs.size f cdv))->sp vs H Q E->
   ∃t,PSs (lh CX0 P w K mg base N qual (am st) f cdv A outer s H E).nox (dL st) t/\t { nx:=fun _ H'=>Q .non H',rt:=Q } (start N vs) H):FnM P w K mg base (k+1) C m ps sp:=
 ⟨f,fd,D.fn.ok S len hbody,D.mt,D.b⟩
noncomputable def FnI(P:Program)(w:World)(K:Frag)(mg:Str->Option Value)(base:Heap)(k:Nat)(C:Addr)(ps:List Str)(sp:Sp):Prop:=
 ∃f fd,dJ P w K mg base CX0 k f fd ps sp/\Mk K C f/\d3 K fd ps []
structure wa(K:Frag)(C:Addr)(qual:Str)(st:Stmt)(ps:List Str)(f:Addr)(fd:Gc):Prop where
 fn:Fun K "__init__" qual st f fd
 made:Mk K C f
 b:d3 K fd ps []
theorem wa.ok{C:Addr}{qual:Str}{st:Stmt}{N ps:List Str}{f:Addr}{fd:Gc}{k:Nat}{sp:Sp}(D:wa K C qual st ps f fd)(S:ax N ps (am st))(len:∀vs H Q E,sp vs H Q E->vs.length=ps.length)
  (hbody:∀(cdv:Value)(A:Around)(outer:List Env)(s:Shared)(H:Hp)(vs:List V)(Q:VK)(E:XK),bK k (A.deeper (envOfC qual (am st) s.heap.objs.size f cdv))->sp vs H Q E->
   ∃t,PSs (lh CX0 P w K mg base N qual (am st) f cdv A outer s H E).nox (dL st) t/\t { nx:=fun _ H'=>Q .non H',rt:=Q } (start N vs) H):FnI P w K mg base (k+1) C ps sp:=
 ⟨f,fd,D.fn.ok S len hbody,D.made,D.b⟩
end
section
variable{X:Cx}{k:Nat}{C:Addr}{m:Str}{ps:List Str}{sp:Sp}{p pos apos:Pos}{o e:Expr}{es:List Expr}{ta:TE}{t:TA}
theorem bh{a:Expr}{f:Str}{p:Pos}{te:TE}(ha:PE X (.Attribute a f p) te)(hr:PA X es t):PA X (.Attribute a f p::es) (aa te t):=eh ha hr rfl
theorem d7{pl:Sem Bool}(F:FnM X.prog X.w X.K X.mg X.base k C m ps sp)(hr:bK k X.A)(c:Cls X.K C)(he:PE X o ta)(ha:PA X (e::es) t)
  (hst:Gf (e::es) X.env=(false,eval e X.env)::Gf es X.env:=by rfl) (hpl:(backTo pos (Gf es X.env)).any (·.1)=false:=by rfl)
  (ht:eval (.Call (.Attribute o m apos) (e::es) [] pos) X.env=(do
   let ov <-eval o X.env
   standAt apos.atName
   let(f,first) <-holding [ov] (KZ ov m pl)
   NS pos f first (backTo pos (Gf (e::es) X.env)) (Kc pos (Jl [] X.env))):=by rfl):
  PE X (.Call (.Attribute o m apos) (e::es) [] pos) (d2 C m sp [] E0 ta t):=by
 obtain⟨f,fd,ok,mt,b⟩:=F;exact C2 he c mt ok hr b .nil uD ha hst hpl ht
theorem AV{pl:Sem Bool}(F:FnM X.prog X.w X.K X.mg X.base k C m ps sp)(hr:bK k X.A)(c:Cls X.K C)(he:PE X o ta)
  (ht:eval (.Call (.Attribute o m apos) [] [] pos) X.env=(do
   let ov <-eval o X.env
   standAt apos.atName
   let(f,first) <-holding [ov] (KZ ov m pl)
   NS pos f first (backTo pos (Gf [] X.env)) (Kc pos (Jl [] X.env))):=by rfl):
  PE X (.Call (.Attribute o m apos) [] [] pos) (d2 C m sp [] E0 ta af):=by
 obtain⟨f,fd,ok,mt,b⟩:=F;exact Bp he c mt ok hr b .nil uD ht
theorem pb{x:Str}(F:FnI X.prog X.w X.K X.mg X.base k C ps sp)(hr:bK (k+1) X.A)(hm:X.mg x=some (.ref C))(ha:PA X (e::es) t)(hg:Gl X x:=by rfl)
  (hdb:(x==("__debug__":Str))=false:=by decide) (he:Gf (e::es) X.env=(false,eval e X.env)::Gf es X.env:=by rfl) (hpl:(backTo pos (Gf es X.env)).any (·.1)=false:=by rfl):
  PE X (.Call (.Name x p) (e::es) [] pos) (nD C sp [] E0 t):=by
 obtain⟨f,fd,ok,mk,b⟩:=F;exact C3 mk ok hr hg hm b .nil uD ha hdb he hpl
end
end
section
open PySem.Spec PySem.W
structure mZ(K:Frag)(C:Addr):Prop where
 cl:Cls K C
 n1:dn K C "dealt"
 n2:dn K C "cards"
 n3:dn K C "sizes"
 n4:dn K C "hands"
 n5:dn K C "views"
 n6:dn K C "deeds"
set_option genInjectivity false in
structure GF extends Glo where
 Table:Addr
structure dG(P:Program)(w:World)(K:Frag)(mg:Str->Option Value)(G:GF):Prop where
 tb:B8 P w K mg G.toGlo
 m_Table:mg "Table"=some (.ref G.Table)
 ct:mZ K G.Table
theorem dG.cl_Table{P:Program}{w:World}{K:Frag}{mg:Str->Option Value}{G:GF}(T:dG P w K mg G):Cls K G.Table:=T.ct.cl
theorem B9{P:Program}{w:World}{K:Frag}{mg:Str->Option Value}{G:Glo}{aT:Addr}(t:B8 P w K mg G)(m:mg "Table"=some (.ref aT))(pg:plainGet K aT Oq=true)(hd:hasDictIn K aT=true)(po:plainOver K aT=true)(sa:findIn K (.ref aT) "__setattr__"=some (some (.builtin "object.__setattr__")))
  (n1:findIn K (.ref aT) "dealt"=some none) (n2:findIn K (.ref aT) "cards"=some none) (n3:findIn K (.ref aT) "sizes"=some none) (n4:findIn K (.ref aT) "hands"=some none) (n5:findIn K (.ref aT) "views"=some none) (n6:findIn K (.ref aT) "deeds"=some none):dG P w K mg ⟨G,aT⟩:=
 ⟨t,m,⟨⟨pg,hd,po,sa⟩,n1,n2,n3,n4,n5,n6⟩⟩
end
end L2
section
namespace L2
open PySem
end L2
end
section
namespace L2
open PySem
end L2
end
namespace L2
open PySem PyProof.Rows
noncomputable def yP(K:Fg):List V->Hp->VK->Prop:=fun xs H Q=>∃(p:Addr)(ns:List Int),xs=[.ref p]/\SqL K H p (ns.map V.int)/\ns.length<=1000/\∀(q:Addr)(H':Hp)(S:Int->Bool)(n:Nat),H q=none->ah H H'->H' q=some (.set S n)->n<=ns.length->(∃L:List Int,L.Nodup/\(∀x,x∈L↔x∈ns)/\n=L.length)->Q (.ref q) H'
noncomputable def yQ:List V->Hp->VK->Prop:=fun xs H Q=>∃(p:Addr)(S:Int->Bool)(n:Nat),xs=[.ref p]/\H p=some (.set S n)/\n<=1000000/\Q (.int (n:Int)) H
noncomputable def rY(K:Fg)(ta:TA):TE:=tCB yQ (aa (tCB (yP K) ta) af)
theorem tJ{K:Fg}{σ:St}{H:Hp}{Q:VK}{p:Addr}{ns:List Int}(e:SqL K H p (ns.map V.int))(hl:ns.length<=1000)(h:∀(L:List Int)(H':Hp),ah H H'->L.Nodup->(∀x,x∈L↔x∈ns)->Q (.int (L.length:Int)) H'):
  yP K [.ref p] H fun x H1=>af σ H1 fun xs H2=>yQ (x::xs) H2 Q:=
 ⟨p,ns,rfl,e,hl,fun q H' S n _ s e2 hn ⟨L,nd,hm,hi⟩=>⟨q,S,n,rfl,e2,by omega,by rw[hi];exact h L H' s nd hm⟩⟩
noncomputable def GE(P:Hp->V->Prop)(σ:St)(H0:Hp)(te:TE):Prop:=∀H,ah H0 H->∀Q:VK,(∀x H',ah H H'->P H' x->Q x H')->te σ H Q
noncomputable def GA(P:Hp->V->Prop)(σ:St)(H0:Hp)(n:Nat)(ta:TA):Prop:=∀H,ah H0 H->∀R:List V->Hp->Prop,(∀xs H',ah H H'->xs.length=n->(∀x∈xs,P H' x)->R xs H')->ta σ H R
theorem GA.nil{P:Hp->V->Prop}{σ:St}{H0:Hp}:GA P σ H0 0 af:=fun H s R q=>CA (q [] H (ah.refl _) rfl fun _ h=>(nomatch h))
theorem GA.cons{P:Hp->V->Prop}(st:∀H H' x,ah H H'->P H x->P H' x){σ:St}{H0:Hp}{n:Nat}{te:TE}{tr:TA}(b:GE P σ H0 te)(t:GA P σ H0 n tr):GA P σ H0 (n+1) (aa te tr):=fun H s R q=>
 An (b H s _ fun x H1 s1 px=>t H1 (s.trans s1) _ fun xs H2 s2 hl hb=>q (x::xs) H2 (s1.trans s2) (by rw[Gm,hl]) fun y hy=>by
  rcases FW.mp hy with rfl|hy
  ·exact st _ _ _ s2 px
  ·exact hb y hy)
theorem m5{P:Hp->V->Prop}(st:∀H H' x,ah H H'->P H x->P H' x){σ:St}{H0 H:Hp}{n:Nat}{ta:TA}{R:List V->Hp->Prop}(s:ah H0 H)(b:GA P σ H0 n ta)(q:∀xs H',ah H H'->xs.length=n->(∀x∈xs,P H' x)->R xs H'):ta σ H R:=b H s R q
theorem lR(z:Int){m:Int}(h:0<m):∃k:Nat,z%m=(k:Int)/\(k:Int)<m:=by
 have m1:=IJ z (b:=m) (by omega);have m2:=IG z h;exact⟨(z%m).toNat,by omega,by omega⟩
section
variable{K:Fg}{vs:List V}{H:Hp}{Q:VK}{E:XK}
noncomputable def dk(_:Fg):Sp:=fun vs H Q _=>∃(z:Int)(h:Nat),vs=[.int z,.int h]/\h<=5/\∀(p:Addr)(g:List Nat)(H':Hp),ah H H'->H' p=some (.tup (aq g))->g.Pairwise (· < ·)->(∀k∈g,k<h)->Q (.ref p) H'
noncomputable def gN(K:Fg):TS:=(aG (tCB (jJ K) (aa (b8 (dD (aa (ab 1) af)) (fun _ _ _ _=>(ai 0)) (fun _ _ _ _=>(ba (tOp rEq (tOp (rI (fun _ j=>0<j) fun i j=>.int (i%j)) (tOp (rI fI fun i j=>.int (i/j)) (ab 1) (tOp (b9 K) (cX (aa (tC (.int 1)) (aa (tC (.int 2)) (aa (tC (.int 4)) (aa (tC (.int 8)) (aa (tC (.int 16)) af)))))) (ab 0))) (tC (.int 2))) (tC (.int 1))))) (fun _ _ _ _=>(ab 0)) [none,some 0]) af)))
theorem at5{i:Nat}(h:i<5):∃v:Int,atI [V.int 1,V.int 2,V.int 4,V.int 8,V.int 16] (i:Int)=some (.int v)/\0<v/\v<=16:=by
 match i,h with
 |0,_=>exact⟨1,rfl,by decide,by decide⟩
 |1,_=>exact⟨2,rfl,by decide,by decide⟩
 |2,_=>exact⟨4,rfl,by decide,by decide⟩
 |3,_=>exact⟨8,rfl,by decide,by decide⟩
 |4,_=>exact⟨16,rfl,by decide,by decide⟩
theorem tY(h:dk K vs H Q E):gN K { nx:=fun _ H'=>Q .non H',rt:=Q } (start ["_law_number","_law_hands"] vs) H:=by
 obtain⟨z,h,rfl,h5,q⟩:=h;show gN K _ [some _,some _] _;unfold gN;right;refine BC h (by omega) (by omega) (by omega) (fun i acc _=>∃g:List Nat,acc=aq g/\g.Pairwise (· < ·)/\∀k∈g,k<i) (fun _ _=>⟨[],rfl,.nil,fun _ h=>(nomatch h)⟩) ?_ ?_
 ·rintro p hp C s' H' fp i acc H2 hi ⟨s2,e2,l2,g,rfl,pw,hb⟩
  right;refine⟨by simp[FV],fun b H3 hb3 s3 e3=>?_⟩;right;obtain⟨v,hv,v0,v16⟩:=at5 (i:=i) (by omega);refine bH (SqL.of e3) hv ?_;right;have e23:=s3 _ _ e2;refine cT (fun c=>?_) (fun c=>?_)
  ·right
   refine bm.put hp (fun _ _ _ _ r _=>r) (s2.trans s3) e23 l2 ⟨g++[i],by rw[<-eX],?_,fun k hk=>?_⟩
   ·rw[MF]
    exact⟨pw,LP _ _,fun x hx y hy=>by rw[FR]at hy;have:=hb x hx;omega⟩
   ·rcases Gv.mp hk with hk|hk
    ·have:=hb k hk;omega
    ·rw[FR]at hk;omega
  ·exact bm.skip (s2.trans s3) e23 l2 ⟨g,rfl,pw,fun k hk=>by have:=hb k hk;omega⟩
 ·intro p acc H2 hp s2 e2 ⟨g,hg,pw,hb⟩
  subst hg;right;exact rM (SqL.of e2) fun t H3 ht s3 e3=>q t g H3 (s2.trans s3) e3 pw hb
noncomputable def qx(H:Hp)(x:V):Option Sy->Prop
 |some t=>aD H x t
 |none=>(∃i,x=.int i)\/∃b g,x=.ref b/\H b=some (.tup (aq g))
theorem qx.keep{H H':Hp}(k:dg H H'){x:V}{o:Option Sy}(h:qx H x o):qx H' x o:=by
 cases o with
 |some t=>exact aD.keep k h
 |none=>
  rcases h with h|⟨b,g,e,h⟩
  ·exact .inl h
  ·exact .inr ⟨b,g,e,k _ _ h⟩
theorem xV{H:Hp}{v:V}{s:Sy}(h:aD H v s):∃a items os,v=.ref a/\H a=some (.tup (.str s.word::items))/\Paired (qx H) items os/\os.filterMap id=s.subs/\items.length<=2:=by
 cases s with
 |holds w c=>obtain⟨a,e,h⟩:=h;exact⟨a,_,[none,none],e,h,.cons (.inl ⟨_,rfl⟩) (.cons (.inl ⟨_,rfl⟩) .nil),rfl,by simp⟩
 |sees w=>obtain⟨a,e,h⟩:=h;exact⟨a,_,[none],e,h,.cons (.inl ⟨_,rfl⟩) .nil,rfl,by simp⟩
 |not s=>obtain⟨a,x,e,h,r⟩:=h;exact⟨a,_,[some s],e,h,.cons r .nil,rfl,by simp⟩
 |and s t=>obtain⟨a,x,y,e,h,r,q⟩:=h;exact⟨a,_,[some s,some t],e,h,.cons r (.cons q .nil),rfl,by simp⟩
 |or s t=>obtain⟨a,x,y,e,h,r,q⟩:=h;exact⟨a,_,[some s,some t],e,h,.cons r (.cons q .nil),rfl,by simp⟩
 |knows w s=>obtain⟨a,x,e,h,r⟩:=h;exact⟨a,_,[none,some s],e,h,.cons (.inl ⟨_,rfl⟩) (.cons r .nil),rfl,by simp⟩
 |all g s=>obtain⟨a,b,x,e,h,i,r⟩:=h;exact⟨a,_,[none,some s],e,h,.cons (.inr ⟨b,g,rfl,i⟩) (.cons r .nil),rfl,by simp⟩
 |common g s=>obtain⟨a,b,x,e,h,i,r⟩:=h;exact⟨a,_,[none,some s],e,h,.cons (.inr ⟨b,g,rfl,i⟩) (.cons r .nil),rfl,by simp⟩
noncomputable def dm(_:Fg)(n:Nat):Sp:=fun vs H Q _=>∃(v:V)(s:Sy),vs=[v]/\aD H v s/\s.words<=n/\∀H',ah H H'->Q (.int (s.words:Nat)) H'
noncomputable def gO(K:Fg)(n:Nat):TS:=(ap (az (tC (.int 1)) (ai 1))
 (ap (cc (mz K (tSl (oW K) (ab 0) (li (tC (.int 1))) ig)) (ai 2) (bo (uY (tB (tCB (ko K) (aa (ab 2) (aa (tC (.ty "tuple")) af)))) (uY (ba (tOp (rJ (SqT K) true) (ab 2) (cq af))) (tB (tCB (ko K) (aa (tOp (bU K) (ab 2) (tC (.int 0))) (aa (tC (.ty "str")) af)))))) (az (tOp (rI0 fun i j=>.int (i+j)) (ab 1) (au (dm K n) [] E0 (aa (ab 2) af))) (ai 1)) aZ))
 (aG (ab 1))))
theorem mj(h:dm K 0 vs H Q E):False:=by
 obtain⟨v,s,rfl,_,h,_⟩:=h;have:=s.words_pos;omega
theorem AW{K:Fg}{H:Hp}{Q:VK}{a b:Addr}{xs:List V}(h1:SqT K H a xs)(h2:SqT K H b [])(q:Q (.bl (!xs.isEmpty)) H):rJ (SqT K) true (.ref a) (.ref b) H Q:=by
 refine⟨a,b,xs,[],fun _=>true,rfl,rfl,h1,h2,fun j x y _ hy=>by simp at hy,?_⟩;cases xs with
 |nil=>exact q
 |cons x r=>exact q
noncomputable def jq(os:List (Option Sy)):Nat:=((os.filterMap id).map Sy.words).sum
noncomputable def wb:Option Sy->Nat
 |some t=>t.words
 |none=>0
theorem AX(os:List (Option Sy))(i:Nat)(o:Option Sy)(h:os[i]?=some o):jq (os.take (i+1))=jq (os.take i)+wb o:=by
 unfold jq;rw[Hx,h,List.filterMap_append,Gj,GZ];cases o with
 |none=>simp[wb]
 |some t=>simp[wb]
theorem tZ{K:Fg}{n:Nat}{vs:List V}{H:Hp}{Q:VK}{E:XK}(h:dm K (n+1) vs H Q E):gO K n { nx:=fun _ H'=>Q .non H',rt:=Q } (start ["_law_saying_here","_law_found","_law_part"] vs) H:=by
 obtain⟨v,s,rfl,hs,hw,q⟩:=h;obtain⟨a,items,os,rfl,e,hp,hos,h2⟩:=xV hs;show gO K n _ [some _,none,none] _;unfold gO;right;refine uG (SqT.of e) (iH _ _) fun b H1 hb s1 e1=>?_;rw[lC]at e1;have hw':=s.words_subs;have hol:items.length=os.length:=by
  clear hos h2 e e1
  induction hp with
  |nil=>rfl
  |cons _ _ ih=>rw[Gm,Gm,ih]
 refine vy items (SqT.of e1) (fun i σ H2=>∃st,σ=[some (.ref a),some (.int (1+jq (os.take i):Nat)),st]/\ah H1 H2) ⟨none,rfl,ah.refl _⟩ (fun i σ H2 _ ⟨_,_,s2⟩=>SqT.of (s2 _ _ e1)) ?_ ?_
 ·rintro i x σ H2 hx ⟨st,rfl,s2⟩
  obtain⟨o,ho,io⟩:=jy hp hx;have ot:=AX os i o ho;have io2:=io.keep (s1.trans s2).keep;cases o with
  |none=>
   have ot':jq (os.take (i+1))=jq (os.take i):=ot;rcases io2 with⟨j,rfl⟩|⟨g,gs,rfl,eg⟩
   ·right
    refine j7 (.int _) (xQ K "int" (by decide) "tuple" (by decide)) ?_;right;refine jm ?_;right;exact⟨_,by rw[ot'],s2⟩
   ·right
    refine j7 (.tup eg) (iF K) ?_;right;refine⟨by simp[FV],fun u H3 hu s3 e3=>?_⟩;refine AW (SqT.of (s3 _ _ eg)) (SqT.of e3) ?_;right;cases gs with
    |nil=>
     refine jm ?_;right;exact⟨_,by rw[ot'],s2.trans s3⟩
    |cons k r=>
     refine jQ ?_;right;refine aI (SqT.of (s3 _ _ eg)) (jK _ _) ?_;right;refine j7 (.int _) (xQ K "int" (by decide) "str" (by decide)) ?_;right;refine jm ?_;right;exact⟨_,by rw[ot'],s2.trans s3⟩
  |some t=>
   have ot':jq (os.take (i+1))=jq (os.take i)+t.words:=ot;have ts:t∈s.subs:=by rw[<-hos];exact KY.mpr ⟨some t,F0 ho,rfl⟩
   have hb':=Sy.sub_words ts;obtain⟨a2,items2,_,rfl,et,_⟩:=xV io2;right;refine j7 (.tup et) (iF K) ?_;right;refine⟨by simp[FV],fun u H3 hu s3 e3=>?_⟩;refine AW (SqT.of (s3 _ _ et)) (SqT.of e3) ?_;right;refine jQ ?_;right;refine aI (SqT.of (s3 _ _ et)) (jK _ _) ?_;right;refine j7 (.str _) (vR K "str") ?_;right;refine⟨_,t,rfl,aD.keep s3.keep io2,by omega,fun H4 s4=>?_⟩;right;refine⟨some (.ref a2),?_,(s2.trans s3).trans s4⟩;rw[ot',show((1+jq (os.take i):Nat):Int)+((t.words:Nat):Int)=((1+(jq (os.take i)+t.words):Nat):Int) by omega]
 ·rintro σ H2 ⟨st,rfl,s2⟩
  right;have e:jq (os.take items.length)=(s.subs.map Sy.words).sum:=by rw[hol,GG];unfold jq;rw[hos]
  rw[e,<-hw'];exact q _ (s1.trans s2)
structure eZ(H H2:Hp)(r:Addr)(c h most:Nat)(ss:List Sy):Prop where
 same:ah H H2
 new:H r=none
 at_:∃xs,H2 r=some (.lst xs)/\fw H2 xs ss
 ne:ss≠[]
 ok:∀s∈ss,s.Ok c h/\s.words<=most
theorem eZ.push{H H2 H3:Hp}{r:Addr}{c h most:Nat}{ss:List Sy}{s:Sy}{v:V}{xs:List V}(R:eZ H H2 r c h most ss)(e:H2 r=some (.lst xs))(o:Off r H2 H3)(e3:H3 r=some (.lst (xs++[v])))(hv:aD H2 v s)(ok:s.Ok c h)(w:s.words<=most):eZ H H3 r c h most (ss++[s]) where
 same:=R.same.off R.new o
 new:=R.new
 at_:=by
  obtain⟨ys,ey,p⟩:=R.at_;rw[e]at ey;cases ey;exact⟨_,e3,lK (p.keep (o.keep e)) (.cons (hv.keep (o.keep e)) .nil)⟩
 ne:=by simp
 ok:=fun t ht=>by
  rcases Gv.mp ht with ht|ht
  ·exact R.ok t ht
  ·rw[FR]at ht;subst ht;exact⟨ok,w⟩
theorem eZ.to{H H2 H3:Hp}{r:Addr}{c h most:Nat}{ss:List Sy}(R:eZ H H2 r c h most ss)(s:ah H2 H3):eZ H H3 r c h most ss where
 same:=R.same.trans s
 new:=R.new
 at_:=by obtain⟨xs,e,p⟩:=R.at_;exact⟨xs,s _ _ e,p.keep s.keep⟩
 ne:=R.ne
 ok:=R.ok
noncomputable def jW(K:Fg):Sp:=fun vs H Q _=>∃(a:Addr)(ns:List Int)(at_:Int)(c h:Nat),vs=[.ref a,.int at_,.int c,.int h]/\d4 K H a ns/\0<=at_/\at_<=1000/\1<=h/\∀(r:Addr)(ss:List Sy)(H':Hp),eZ H H' r c h 1 ss->ss.length<=4->Q (.ref r) H'
noncomputable def iT(K:Fg):TS:=(ap (az (cX (aa (cq (aa (tC (.str "sees")) (aa (tOp (rI (fun _ j=>0<j) fun i j=>.int (i%j)) (au (bq K) [] E0 (aa (ab 0) (aa (ab 1) af))) (ab 3)) af))) af)) (ai 4))
 (ap (cc (dD (aa (tOp (rI ID fun i j=>.int (i*j)) (tC (.int 3)) (tCB Eu (aa (tOp (rI0 fun i j=>.bl (decide (j<i))) (ab 2) (tC (.int 0))) af))) af)) (ai 5) (ap (az (au (bq K) [] E0 (aa (ab 0) (aa (tOp (rI0 fun i j=>.int (i+j)) (tOp (rI0 fun i j=>.int (i+j)) (ab 1) (tC (.int 1))) (ab 5)) af))) (ai 6))
 (dY (tBM K "list" fo (ab 4) (aa (cq (aa (tC (.str "holds")) (aa (tOp (rI (fun _ j=>0<j) fun i j=>.int (i%j)) (ab 6) (tOp (rI0 fun i j=>.int (i+j)) (ab 3) (tC (.int 1)))) (aa (tOp (rI (fun _ j=>0<j) fun i j=>.int (i%j)) (tOp (rI fI fun i j=>.int (i/j)) (ab 6) (tC (.int 7))) (ab 2)) af)))) af)))))
 (aG (ab 4))))
theorem wc(h:jW K vs H Q E):iT K { nx:=fun _ H'=>Q .non H',rt:=Q } (start ["_law_script","_law_at","_law_cards","_law_hands","_law_pool_here","_law_k","_law_cell_here"] vs) H:=by
 obtain⟨a,ns,at_,c,h,rfl,hSc,ha0,ha1,h1,q⟩:=h;show iT K _ [some _,some _,some _,some _,none,none,none] _;unfold iT;right;refine⟨a,ns,at_,rfl,hSc,ha0,by omega,?_⟩;right;obtain⟨k,hk,hk2⟩:=lR (bG ns at_) (m:=(h:Int)) (by omega);rw[hk];refine⟨by simp[FV],fun p1 H1 hp1 s1 e1=>?_⟩;right;refine⟨by simp[FV],fun r H2 hr s2 e2=>?_⟩;have R0:eZ H H2 r c h 1 [.sees k]:=⟨s1.trans s2,s1.free hr,⟨_,e2,.cons ⟨p1,rfl,s2 _ _ e1⟩ .nil⟩,by simp,fun s hs=>by rw[FR]at hs;subst hs;exact⟨show k<h by omega,FU _⟩⟩;right;obtain⟨n,hn,hn3,hnc⟩:∃n:Nat,((3:Int)*(if decide ((0:Int)<(c:Int))=true then 1 else 0))=(n:Int)/\n<=3/\(c=0->n=0):=by
  by_cases hc:(0:Int)<(c:Int)
  ·exact⟨3,by rw[if_pos (decide_eq_true hc)];rfl,FU _,fun z=>by omega⟩
  ·exact⟨0,by rw[if_neg (by rw[decide_eq_false hc];exact F3)];rfl,by decide,fun _=>rfl⟩
 rw[hn];refine d5 n (by omega) (by omega) (by omega) (fun i σ H3=>∃(ss:List Sy)(v5 v6:Option V),σ=[some (.ref a),some (.int at_),some (.int c),some (.int h),some (.ref r),v5,v6]/\eZ H H3 r c h 1 ss/\ss.length=i+1) ⟨_,none,none,rfl,R0,rfl⟩ ?_ ?_
 ·rintro i σ H3 hi ⟨ss,v5,v6,rfl,R,hl⟩
  have hc:0<c:=by
   rcases K8 c with z|z
   ·have:=hnc z;omega
   ·exact z
  obtain⟨xs,e3,px⟩:=R.at_;have hxl:=eY px;right;refine⟨a,ns,at_+1+(i:Int),rfl,hSc.same R.same,by omega,by omega,?_⟩;right;refine⟨nH e3,?_⟩;right;obtain⟨k1,hk1,hk12⟩:=lR (bG ns (at_+1+(i:Int))) (m:=(h:Int)+1) (by omega);obtain⟨k2,hk2',hk22⟩:=lR (bG ns (at_+1+(i:Int))/7) (m:=(c:Int)) (by omega);rw[hk1,hk2'];refine⟨by simp[FV],fun p4 H4 hp4 s4 e4=>?_⟩;right;refine ik (s4 _ _ e3) (by rw[FV];omega) fun H5 o5 e5=>?_;exact⟨_,_,_,rfl,(R.to s4).push (s4 _ _ e3) o5 e5 (s:=.holds k1 k2) ⟨p4,rfl,e4⟩ ⟨by omega,by omega⟩ (FU _),by rw[Ga,hl];rfl⟩
 ·rintro σ H3 ⟨ss,v5,v6,rfl,R,hl⟩
  right;exact q r ss H3 R (by omega)
noncomputable def fB(c h:Nat)(H:Hp)(x:V):Prop:=∃s:Sy,aD H x s/\s.Ok c h/\s.words<=63
theorem fB.same{c h:Nat}{H H':Hp}{x:V}(g:fB c h H x)(s:ah H H'):fB c h H' x:=by
 obtain⟨t,i,o,w⟩:=g;exact⟨t,i.keep s.keep,o,w⟩
theorem m6{H:Hp}:∀{l:List V} {m:List Sy},fw H l m->l≠[]->∃x y,atI l (-1)=some x/\y∈m/\aD H x y:=by
 intro l m p hne;have hl:=eY p;have hp:0<l.length:=KG.mpr hne;obtain⟨x,hx⟩:∃x,l[l.length-1]?=some x:=⟨_,FN (by omega)⟩;obtain⟨y,hy,iy⟩:=ke p hx;refine⟨x,y,?_,F0 hy,iy⟩;unfold atI ixN;rw[if_neg (by decide),if_pos (by omega),show(-1+(l.length:Int)).toNat=l.length-1 by omega];exact hx
noncomputable def fC(K:Fg):Sp:=fun vs H Q _=>∃(a:Addr)(ns:List Int)(at_:Int)(c h most:Nat),vs=[.ref a,.int at_,.int c,.int h,.int most]/\d4 K H a ns/\0<=at_/\at_<=1000/\1<=h/\h<=5/\1<=most/\most<=30/\∀(v:V)(s:Sy)(H':Hp),ah H H'->aD H' v s->s.Ok c h->s.words<=most->Q v H'
noncomputable def fU(K:Fg):TS:=(ap (az (au (jW K) [] E0 (aa (ab 0) (aa (ab 1) (aa (ab 2) (aa (ab 3) af))))) (ai 5))
 (ap (cc (dD (aa (tOp (rI (fun _ j=>0<j) fun i j=>.int (i%j)) (au (bq K) [] E0 (aa (ab 0) (aa (tOp (rI0 fun i j=>.int (i+j)) (ab 1) (tC (.int 4))) af))) (tC (.int 12))) af)) (ai 6) (ap (az (au (bq K) [] E0 (aa (ab 0) (aa (tOp (rI0 fun i j=>.int (i+j)) (tOp (rI0 fun i j=>.int (i+j)) (ab 1) (tC (.int 5))) (ab 6)) af))) (ai 7))
 (ap (az (tOp (b9 K) (ab 5) (tUn (rU fun i=>.int (-i)) (tC (.int 1)))) (ai 8))
 (ap (az (tOp (b9 K) (ab 5) (tOp (rI (fun _ j=>0<j) fun i j=>.int (i%j)) (tOp (rI fI fun i j=>.int (i/j)) (ab 7) (tC (.int 12))) (tCB (cH K) (aa (ab 5) af)))) (ai 9))
 (ap (az (cX (aa (cq (aa (tC (.str "not")) (aa (ab 8) af))) (aa (cq (aa (tC (.str "and")) (aa (ab 8) (aa (ab 9) af)))) (aa (cq (aa (tC (.str "or")) (aa (ab 9) (aa (ab 8) af)))) (aa (cq (aa (tC (.str "not")) (aa (ab 9) af))) af))))) (ai 10))
 (ap (az (tOp lB (ab 10) (cX (aa (cq (aa (tC (.str "knows")) (aa (tOp (rI (fun _ j=>0<j) fun i j=>.int (i%j)) (tOp (rI fI fun i j=>.int (i/j)) (ab 7) (tC (.int 7))) (ab 3)) (aa (ab 8) af)))) (aa (cq (aa (tC (.str "knows")) (aa (tOp (rI (fun _ j=>0<j) fun i j=>.int (i%j)) (tOp (rI fI fun i j=>.int (i/j)) (ab 7) (tC (.int 7))) (ab 3)) (aa (cq (aa (tC (.str "not")) (aa (ab 8) af))) af)))) af)))) (ai 10))
 (ap (az (tOp lB (ab 10) (cX (aa (cq (aa (tC (.str "all")) (aa (au (dk K) [] E0 (aa (tOp (rI fI fun i j=>.int (i/j)) (ab 7) (tC (.int 36))) (aa (ab 3) af))) (aa (ab 8) af)))) (aa (cq (aa (tC (.str "common")) (aa (au (dk K) [] E0 (aa (tOp (rI fI fun i j=>.int (i/j)) (ab 7) (tC (.int 36))) (aa (ab 3) af))) (aa (ab 9) af)))) af)))) (ai 10))
 (ap (az (tOp lB (ab 10) (cX (aa (cq (aa (tC (.str "common")) (aa (au (dk K) [] E0 (aa (tOp (rI fI fun i j=>.int (i/j)) (ab 7) (tC (.int 36))) (aa (ab 3) af))) (aa (ab 8) af)))) (aa (cq (aa (tC (.str "knows")) (aa (tOp (rI (fun _ j=>0<j) fun i j=>.int (i%j)) (tOp (rI fI fun i j=>.int (i/j)) (ab 7) (tC (.int 7))) (ab 3)) (aa (ab 9) af)))) af)))) (ai 10))
 (ap (az (tOp lB (ab 10) (cX (aa (cq (aa (tC (.str "and")) (aa (ab 9) (aa (cq (aa (tC (.str "not")) (aa (ab 8) af))) af)))) (aa (cq (aa (tC (.str "or")) (aa (ab 8) (aa (cq (aa (tC (.str "knows")) (aa (tOp (rI (fun _ j=>0<j) fun i j=>.int (i%j)) (tOp (rI fI fun i j=>.int (i/j)) (ab 7) (tC (.int 7))) (ab 3)) (aa (ab 9) af)))) af)))) af)))) (ai 10))
 (bo (ba (tOp (rI0 fun i j=>.bl (decide (i<=j))) (au (dm K 70) [] E0 (aa (tOp (b9 K) (ab 10) (tOp (rI (fun _ j=>0<j) fun i j=>.int (i%j)) (ab 7) (tC (.int 12)))) af)) (ab 4))) (dY (tBM K "list" fo (ab 5) (aa (tOp (b9 K) (ab 10) (tOp (rI (fun _ j=>0<j) fun i j=>.int (i%j)) (ab 7) (tC (.int 12)))) af))) aZ))))))))))
 (aG (tOp (b9 K) (ab 5) (tUn (rU fun i=>.int (-i)) (tC (.int 1)))))))
theorem rZ(h:fC K vs H Q E):fU K { nx:=fun _ H'=>Q .non H',rt:=Q } (start ["_law_script","_law_at","_law_cards","_law_hands","_law_most","_law_pool_here","_law_k","_law_cell_here","_law_one","_law_other","_law_some"] vs) H:=by
 obtain⟨a,ns,at_,c,h,most,rfl,hSc,ha0,ha1,h1,h5,hm1,hm30,q⟩:=h;show fU K _ [some _,some _,some _,some _,some _,none,none,none,none,none,none] _;unfold fU;right;refine⟨a,ns,at_,c,h,rfl,hSc,ha0,ha1,h1,fun r ss0 H1 R0 hl4=>?_⟩;right;refine⟨a,ns,at_+4,rfl,hSc.same R0.same,by omega,by omega,?_⟩;right;have R1:eZ H H1 r c h most ss0:=⟨R0.same,R0.new,R0.at_,R0.ne,fun s hs=>⟨(R0.ok s hs).1,by have:=(R0.ok s hs).2;omega⟩⟩;refine d5 (bG ns (at_+4)%12).toNat rfl (by omega) (by omega) (fun i σ H2=>∃(ss:List Sy)(v6 v7 v8 v9 v10:Option V),σ=[some (.ref a),some (.int at_),some (.int c),some (.int h),some (.int most),some (.ref r),v6,v7,v8,v9,v10]/\eZ H H2 r c h most ss/\ss.length<=4+i) ⟨ss0,none,none,none,none,none,rfl,R1,by omega⟩ ?_ ?_
 ·rintro i σ H2 hi ⟨ss,v6,v7,v8,v9,v10,rfl,R,hl⟩
  obtain⟨xs,e2,px⟩:=R.at_;have hxl:=eY px;have hne:xs≠[]:=fun z=>R.ne (JV.mp (by rw[<-hxl,z];rfl));have hpos:0<xs.length:=KG.mpr hne;refine i9 ?_;dsimp only[HU,HV];refine bp ?_;nofun;refine⟨a,ns,at_+5+(i:Int),rfl,hSc.same R.same,by omega,by omega,?_⟩;generalize bG ns (at_+5+(i:Int))=z;nofun;refine bp ?_;nofun;obtain⟨x1,s1,hx1,hs1,is1⟩:=m6 px hne;obtain⟨ok1,w1⟩:=R.ok s1 hs1;refine bH (SqL.of e2) hx1 ?_;nofun;refine bp ?_;nofun;obtain⟨x2,hx2,hm2⟩:=Ap xs (z/12) rfl hpos;obtain⟨j2,hj2⟩:=MG hm2;obtain⟨s2,hs2,is2⟩:=ke px hj2;obtain⟨ok2,w2⟩:=R.ok s2 (F0 hs2);refine bH (SqL.of e2) hx2 ?_;nofun;refine bp ?_;refine iG ?_;refine nI ?_;refine m5 (P:=fB c h) (fun _ _ _ s g=>g.same s) (H0:=H2) (n:=4) (ah.refl _) ?_ fun ys0 Hy0 sy0 ly0 by0=>?_
  ·skip
   refine GA.cons (fun _ _ _ s g=>g.same s) (n:=3) ?_ ?_
   ·intro H' s' Q q
    have i1:=is1.keep s'.keep;have i2:=is2.keep s'.keep;right;refine⟨by simp[FV],fun p1 G1 hp1 t1 e1=>?_⟩;have I1:aD G1 (.ref p1) (.not s1):=⟨p1,_,rfl,e1,(aD.keep (ah.keep t1) i1)⟩;exact q _ _ t1 ⟨_,I1,ok1,by simp only[Sy.words];omega⟩
   refine GA.cons (fun _ _ _ s g=>g.same s) (n:=2) ?_ ?_
   ·intro H' s' Q q
    have i1:=is1.keep s'.keep;have i2:=is2.keep s'.keep;right;refine⟨by simp[FV],fun p1 G1 hp1 t1 e1=>?_⟩;have I1:aD G1 (.ref p1) (.and s1 s2):=⟨p1,_,_,rfl,e1,(aD.keep (ah.keep t1) i1),(aD.keep (ah.keep t1) i2)⟩;exact q _ _ t1 ⟨_,I1,⟨ok1,ok2⟩,by simp only[Sy.words];omega⟩
   refine GA.cons (fun _ _ _ s g=>g.same s) (n:=1) ?_ ?_
   ·intro H' s' Q q
    have i1:=is1.keep s'.keep;have i2:=is2.keep s'.keep;right;refine⟨by simp[FV],fun p1 G1 hp1 t1 e1=>?_⟩;have I1:aD G1 (.ref p1) (.or s2 s1):=⟨p1,_,_,rfl,e1,(aD.keep (ah.keep t1) i2),(aD.keep (ah.keep t1) i1)⟩;exact q _ _ t1 ⟨_,I1,⟨ok2,ok1⟩,by simp only[Sy.words];omega⟩
   refine GA.cons (fun _ _ _ s g=>g.same s) (n:=0) ?_ ?_
   ·intro H' s' Q q
    have i1:=is1.keep s'.keep;have i2:=is2.keep s'.keep;right;refine⟨by simp[FV],fun p1 G1 hp1 t1 e1=>?_⟩;have I1:aD G1 (.ref p1) (.not s2):=⟨p1,_,rfl,e1,(aD.keep (ah.keep t1) i2)⟩;exact q _ _ t1 ⟨_,I1,ok2,by simp only[Sy.words];omega⟩
   exact GA.nil
  refine⟨by rw[ly0,FV];decide,fun l0 Hl0 hl0 sl0 el0=>?_⟩;have sL0:ah H2 Hl0:=sy0.trans sl0;have L0:ys0.length=4:=ly0;have B0:∀x∈ys0,fB c h Hl0 x:=fun x hx=>(by0 x hx).same sl0;have eL0:=el0;refine i9 ?_;dsimp only[HU,HV];generalize hX0:ys0=X0 at *;refine bp ?_;refine iG ?_;refine oU ?_;refine lA rfl ?_;refine nI ?_;refine m5 (P:=fB c h) (fun _ _ _ s g=>g.same s) (H0:=H2) (n:=2) sL0 ?_ fun ys1 Hy1 sy1 ly1 by1=>?_
  ·skip
   refine GA.cons (fun _ _ _ s g=>g.same s) (n:=1) ?_ ?_
   ·intro H' s' Q q
    have i1:=is1.keep s'.keep;have i2:=is2.keep s'.keep;right;obtain⟨kk1,hk1,hk21⟩:=lR (z/7) (m:=(h:Int)) (by omega);rw[hk1];refine⟨by simp[FV],fun p1 G1 hp1 t1 e1=>?_⟩;have I1:aD G1 (.ref p1) (.knows kk1 s1):=⟨p1,_,rfl,e1,(aD.keep (ah.keep t1) i1)⟩;exact q _ _ t1 ⟨_,I1,⟨by omega,ok1⟩,by simp only[Sy.words];omega⟩
   refine GA.cons (fun _ _ _ s g=>g.same s) (n:=0) ?_ ?_
   ·intro H' s' Q q
    have i1:=is1.keep s'.keep;have i2:=is2.keep s'.keep;right;refine⟨by simp[FV],fun p1 G1 hp1 t1 e1=>?_⟩;have I1:aD G1 (.ref p1) (.not s1):=⟨p1,_,rfl,e1,(aD.keep (ah.keep t1) i1)⟩;right;obtain⟨kk2,hk2,hk22⟩:=lR (z/7) (m:=(h:Int)) (by omega);rw[hk2];refine⟨by simp[FV],fun p2 G2 hp2 t2 e2=>?_⟩;have I2:aD G2 (.ref p2) (.knows kk2 (.not s1)):=⟨p2,_,rfl,e2,(aD.keep (ah.keep t2) I1)⟩;exact q _ _ (t1.trans t2) ⟨_,I2,⟨by omega,ok1⟩,by simp only[Sy.words];omega⟩
   exact GA.nil
  refine⟨by rw[ly1,FV];decide,fun l1 Hl1 hl1 sl1 el1=>?_⟩;refine nJ (sl1 _ _ (sy1 _ _ eL0)) el1 (by rw[L0,ly1,FV];decide) fun m1 Hm1 hm1 sm1 em1=>?_;have sA1:=(sy1.trans sl1).trans sm1;have sL1:ah H2 Hm1:=sL0.trans sA1;have L1:(X0++ys1).length=6:=by rw[Ga,L0,ly1]
  have B1:∀x∈X0++ys1,fB c h Hm1 x:=fun x hx=>by
   rcases Gv.mp hx with hx|hx
   ·exact(B0 x hx).same sA1
   ·exact(by1 x hx).same (sl1.trans sm1)
  have eL1:=em1;refine i9 ?_;dsimp only[HU,HV];generalize X0++ys1=X1 at L1 B1 eL1;clear B0 L0 eL0 by1 ly1 el1 em1;refine bp ?_;refine iG ?_;refine oU ?_;refine lA rfl ?_;refine nI ?_;refine m5 (P:=fB c h) (fun _ _ _ s g=>g.same s) (H0:=H2) (n:=2) sL1 ?_ fun ys2 Hy2 sy2 ly2 by2=>?_
  ·skip
   refine GA.cons (fun _ _ _ s g=>g.same s) (n:=1) ?_ ?_
   ·intro H' s' Q q
    have i1:=is1.keep s'.keep;have i2:=is2.keep s'.keep;right;refine⟨_,h,rfl,h5,fun g1 gs1 G1 t1 eg1 pw1 hb1=>?_⟩;right;refine⟨by simp[FV],fun p2 G2 hp2 t2 e2=>?_⟩;have I2:aD G2 (.ref p2) (.all gs1 s1):=⟨p2,g1,_,rfl,e2,t2 _ _ eg1,(aD.keep (ah.keep (t1.trans t2)) i1)⟩;exact q _ _ (t1.trans t2) ⟨_,I2,⟨⟨pw1,hb1⟩,ok1⟩,by simp only[Sy.words];omega⟩
   refine GA.cons (fun _ _ _ s g=>g.same s) (n:=0) ?_ ?_
   ·intro H' s' Q q
    have i1:=is1.keep s'.keep;have i2:=is2.keep s'.keep;right;refine⟨_,h,rfl,h5,fun g1 gs1 G1 t1 eg1 pw1 hb1=>?_⟩;right;refine⟨by simp[FV],fun p2 G2 hp2 t2 e2=>?_⟩;have I2:aD G2 (.ref p2) (.common gs1 s2):=⟨p2,g1,_,rfl,e2,t2 _ _ eg1,(aD.keep (ah.keep (t1.trans t2)) i2)⟩;exact q _ _ (t1.trans t2) ⟨_,I2,⟨⟨pw1,hb1⟩,ok2⟩,by simp only[Sy.words];omega⟩
   exact GA.nil
  refine⟨by rw[ly2,FV];decide,fun l2 Hl2 hl2 sl2 el2=>?_⟩;refine nJ (sl2 _ _ (sy2 _ _ eL1)) el2 (by rw[L1,ly2,FV];decide) fun m2 Hm2 hm2 sm2 em2=>?_;have sA2:=(sy2.trans sl2).trans sm2;have sL2:ah H2 Hm2:=sL1.trans sA2;have L2:(X1++ys2).length=8:=by rw[Ga,L1,ly2]
  have B2:∀x∈X1++ys2,fB c h Hm2 x:=fun x hx=>by
   rcases Gv.mp hx with hx|hx
   ·exact(B1 x hx).same sA2
   ·exact(by2 x hx).same (sl2.trans sm2)
  have eL2:=em2;refine i9 ?_;dsimp only[HU,HV];generalize X1++ys2=X2 at L2 B2 eL2;clear B1 L1 eL1 by2 ly2 el2 em2;refine bp ?_;refine iG ?_;refine oU ?_;refine lA rfl ?_;refine nI ?_;refine m5 (P:=fB c h) (fun _ _ _ s g=>g.same s) (H0:=H2) (n:=2) sL2 ?_ fun ys3 Hy3 sy3 ly3 by3=>?_
  ·skip
   refine GA.cons (fun _ _ _ s g=>g.same s) (n:=1) ?_ ?_
   ·intro H' s' Q q
    have i1:=is1.keep s'.keep;have i2:=is2.keep s'.keep;right;refine⟨_,h,rfl,h5,fun g1 gs1 G1 t1 eg1 pw1 hb1=>?_⟩;right;refine⟨by simp[FV],fun p2 G2 hp2 t2 e2=>?_⟩;have I2:aD G2 (.ref p2) (.common gs1 s1):=⟨p2,g1,_,rfl,e2,t2 _ _ eg1,(aD.keep (ah.keep (t1.trans t2)) i1)⟩;exact q _ _ (t1.trans t2) ⟨_,I2,⟨⟨pw1,hb1⟩,ok1⟩,by simp only[Sy.words];omega⟩
   refine GA.cons (fun _ _ _ s g=>g.same s) (n:=0) ?_ ?_
   ·intro H' s' Q q
    have i1:=is1.keep s'.keep;have i2:=is2.keep s'.keep;right;obtain⟨kk1,hk1,hk21⟩:=lR (z/7) (m:=(h:Int)) (by omega);rw[hk1];refine⟨by simp[FV],fun p1 G1 hp1 t1 e1=>?_⟩;have I1:aD G1 (.ref p1) (.knows kk1 s2):=⟨p1,_,rfl,e1,(aD.keep (ah.keep t1) i2)⟩;exact q _ _ t1 ⟨_,I1,⟨by omega,ok2⟩,by simp only[Sy.words];omega⟩
   exact GA.nil
  refine⟨by rw[ly3,FV];decide,fun l3 Hl3 hl3 sl3 el3=>?_⟩;refine nJ (sl3 _ _ (sy3 _ _ eL2)) el3 (by rw[L2,ly3,FV];decide) fun m3 Hm3 hm3 sm3 em3=>?_;have sA3:=(sy3.trans sl3).trans sm3;have sL3:ah H2 Hm3:=sL2.trans sA3;have L3:(X2++ys3).length=10:=by rw[Ga,L2,ly3]
  have B3:∀x∈X2++ys3,fB c h Hm3 x:=fun x hx=>by
   rcases Gv.mp hx with hx|hx
   ·exact(B2 x hx).same sA3
   ·exact(by3 x hx).same (sl3.trans sm3)
  have eL3:=em3;refine i9 ?_;dsimp only[HU,HV];generalize X2++ys3=X3 at L3 B3 eL3;clear B2 L2 eL2 by3 ly3 el3 em3;refine bp ?_;refine iG ?_;refine oU ?_;refine lA rfl ?_;refine nI ?_;refine m5 (P:=fB c h) (fun _ _ _ s g=>g.same s) (H0:=H2) (n:=2) sL3 ?_ fun ys4 Hy4 sy4 ly4 by4=>?_
  ·skip
   refine GA.cons (fun _ _ _ s g=>g.same s) (n:=1) ?_ ?_
   ·intro H' s' Q q
    have i1:=is1.keep s'.keep;have i2:=is2.keep s'.keep;right;refine⟨by simp[FV],fun p1 G1 hp1 t1 e1=>?_⟩;have I1:aD G1 (.ref p1) (.not s1):=⟨p1,_,rfl,e1,(aD.keep (ah.keep t1) i1)⟩;right;refine⟨by simp[FV],fun p2 G2 hp2 t2 e2=>?_⟩;have I2:aD G2 (.ref p2) (.and s2 (.not s1)):=⟨p2,_,_,rfl,e2,(aD.keep (ah.keep (t1.trans t2)) i2),(aD.keep (ah.keep t2) I1)⟩;exact q _ _ (t1.trans t2) ⟨_,I2,⟨ok2,ok1⟩,by simp only[Sy.words];omega⟩
   refine GA.cons (fun _ _ _ s g=>g.same s) (n:=0) ?_ ?_
   ·intro H' s' Q q
    have i1:=is1.keep s'.keep;have i2:=is2.keep s'.keep;right;obtain⟨kk1,hk1,hk21⟩:=lR (z/7) (m:=(h:Int)) (by omega);rw[hk1];refine⟨by simp[FV],fun p1 G1 hp1 t1 e1=>?_⟩;have I1:aD G1 (.ref p1) (.knows kk1 s2):=⟨p1,_,rfl,e1,(aD.keep (ah.keep t1) i2)⟩;right;refine⟨by simp[FV],fun p2 G2 hp2 t2 e2=>?_⟩;have I2:aD G2 (.ref p2) (.or s1 (.knows kk1 s2)):=⟨p2,_,_,rfl,e2,(aD.keep (ah.keep (t1.trans t2)) i1),(aD.keep (ah.keep t2) I1)⟩;exact q _ _ (t1.trans t2) ⟨_,I2,⟨ok1,⟨by omega,ok2⟩⟩,by simp only[Sy.words];omega⟩
   exact GA.nil
  refine⟨by rw[ly4,FV];decide,fun l4 Hl4 hl4 sl4 el4=>?_⟩;refine nJ (sl4 _ _ (sy4 _ _ eL3)) el4 (by rw[L3,ly4,FV];decide) fun m4 Hm4 hm4 sm4 em4=>?_;have sA4:=(sy4.trans sl4).trans sm4;have sL4:ah H2 Hm4:=sL3.trans sA4;have L4:(X3++ys4).length=12:=by rw[Ga,L3,ly4]
  have B4:∀x∈X3++ys4,fB c h Hm4 x:=fun x hx=>by
   rcases Gv.mp hx with hx|hx
   ·exact(B3 x hx).same sA4
   ·exact(by4 x hx).same (sl4.trans sm4)
  have eL4:=em4;refine i9 ?_;dsimp only[HU,HV];generalize X3++ys4=X4 at L4 B4 eL4;clear B3 L3 eL3 by4 ly4 el4 em4;obtain⟨y,hy,my⟩:=Ap X4 z (m:=12) L4 (by decide);obtain⟨sy,iy,oky,wy⟩:=B4 y my;have R4:=R.to sL4;have e24:=sL4 _ _ e2;right;refine bH (SqL.of eL4) hy ?_;right;refine⟨y,sy,rfl,iy,by omega,fun H5 s5=>?_⟩;right;refine cT (fun cm=>?_) (fun cm=>?_)
  ·right
   refine⟨nH (s5 _ _ e24),?_⟩;right;refine bH (SqL.of (s5 _ _ eL4)) hy ?_;right;refine ik (s5 _ _ e24) (by rw[FV];omega) fun H6 o6 e6=>?_;exact⟨_,_,_,_,_,_,rfl,(R4.to s5).push (s5 _ _ e24) o6 e6 (iy.keep s5.keep) oky (by omega),by rw[Ga];show ss.length+1<=_;omega⟩
  ·right
   exact⟨_,_,_,_,_,_,rfl,R4.to s5,by omega⟩
 ·rintro σ H2 ⟨ss,v6,v7,v8,v9,v10,rfl,R,hl⟩
  obtain⟨xs,e2,px⟩:=R.at_;have hxl:=eY px;have hne:xs≠[]:=fun z=>R.ne (JV.mp (by rw[<-hxl,z];rfl));obtain⟨x1,s1,hx1,hs1,is1⟩:=m6 px hne;right;exact bH (SqL.of e2) hx1 (q x1 s1 H2 R.same is1 (R.ok s1 hs1).1 (R.ok s1 hs1).2)
end
section
variable{K:Fg}{vs:List V}{H:Hp}{Q:VK}{E:XK}
open KF
noncomputable def iaR:IA->V
 |none=>.non
 |some c=>.int c
noncomputable def wAt(w:List Nat)(c:Int):Int:=(w.getD c.toNat 0:Nat)
noncomputable def kW(w:List Nat)(h:Int)(cs:List Int)(a:IA):Prop:=
 (a=none/\∀c∈cs,wAt w c≠h)\/∃c,a=some c/\c∈cs/\wAt w c=h/\∀d∈cs,wAt w d=h->c<=d
theorem kW.uniq{w:List Nat}{h:Int}{cs ds:List Int}(m:∀y,y∈cs↔y∈ds){a b:IA}(x:kW w h cs a)(y:kW w h ds b):a=b:=by
 rcases x with⟨rfl,x⟩|⟨c,rfl,x1,x2,x3⟩
 ·rcases y with⟨rfl,_⟩|⟨d,rfl,y1,y2,_⟩
  ·rfl
  ·exact absurd y2 (x d ((m d).mpr y1))
 ·rcases y with⟨rfl,y⟩|⟨d,rfl,y1,y2,y3⟩
  ·exact absurd x2 (y c ((m c).mp x1))
  ·have h1:=x3 d ((m d).mpr y1) y2
   have h2:=y3 c ((m c).mp x1) x2;rw[show c=d by omega]
theorem kW.stay{w:List Nat}{h c d:Int}{cs:List Int}(x:kW w h cs (some d))(e:¬c<d):kW w h (cs++[c]) (some d):=by
 rcases x with⟨z,_⟩|⟨d',z,x1,x2,x3⟩
 ·cases z
 ·cases z
  refine .inr ⟨d,rfl,G8 _ x1,x2,fun y hy hz=>?_⟩;rcases Gv.mp hy with z|z
  ·exact x3 y z hz
  ·rw[FR.mp z]
   omega
noncomputable def d8(_:Fg):Sp:=fun vs H Q _=>∃z:Str,vs=[.bl true,.str z]/\Q .non H
noncomputable def eN(K:Fg):TS:=(bo (dX (tB (ab 0))) mw aZ)
theorem pf(h:d8 K vs H Q E):eN K { nx:=fun _ H'=>Q .non H',rt:=Q } (start ["fit","reason"] vs) H:=by
 obtain⟨z,rfl,q⟩:=h;show eN K _ [some _,some _] _;unfold eN;right;exact q
theorem jf{K:Fg}{ta tv:TE}{f:Str}{D:ic}{σ:St}{H:Hp}(h:tv σ H fun y H1=>ta σ H1 fun x H2=>∃a C dx fs,x=.ref a/\H2 a=some (.ins C dx fs)/\Cls K C/\dn K C f/\fs.length<1000/\D.nx σ (upd H2 a (.ins C dx (eU f y fs)))):kn K ta tv f D σ H:=h
theorem cM{K:Fg}{ta:TE}{f:Str}{σ:St}{H:Hp}{Q:VK}(h:ta σ H fun x H1=>∃a C dx fs v,x=.ref a/\H1 a=some (.ins C dx fs)/\Cls K C/\dn K C f/\fs.lookup f=some v/\Q v H1):dv K ta f σ H Q:=h
theorem we{C:Addr}{sp:Sp}{dvs:List V}{E:XK}{t:TA}{σ:St}{H:Hp}{Q:VK}(h:t σ H fun vs H1=>∀x dx,H1 x=none->H1 dx=none->dx≠x->sp (.ref x::(vs++dvs)) (upd (upd H1 dx (.own x)) x (.ins C dx [])) (fun v H2=>v=.non/\Q (.ref x) H2) E):nD C sp dvs E t σ H Q:=h
theorem fO{C:Addr}{m:Str}{sp:Sp}{dvs:List V}{E:XK}{ta:TE}{t:TA}{σ:St}{H:Hp}{Q:VK}(h:ta σ H fun x H1=>∃a dx fs,x=.ref a/\H1 a=some (.ins C dx fs)/\fs.lookup m=none/\t σ H1 fun vs H2=>sp (x::(vs++dvs)) H2 Q E):d2 C m sp dvs E ta t σ H Q:=h
noncomputable def Kx(x:Addr)(H H':Hp):Prop:=∀b o,b≠x->H b=some o->H' b=some o
theorem Kx.refl(x:Addr)(H:Hp):Kx x H H:=fun _ _ _ e=>e
theorem Kx.same{x:Addr}{H H1 H2:Hp}(k:Kx x H H1)(s:ah H1 H2):Kx x H H2:=fun b o n e=>s _ _ (k b o n e)
theorem Kx.upd{x:Addr}{H H1:Hp}{u:HO}(k:Kx x H H1):Kx x H (L2.upd H1 x u):=fun b o n e=>by rw[aO n];exact k b o n e
theorem fb{H H':Hp}{x p:Addr}{ws:List (List Nat)}{C dx:Addr}{fs:List (Str×V)}(D:bt H p ws)(hx:H x=some (.ins C dx fs))(k:Kx x H H'):bt H' p ws:=by
 obtain⟨rs,e,hr⟩:=D;refine⟨rs,k _ _ (fun z=>by rw[z,hx]at e;cases e) e,Paired.mapP hr fun a w e=>k _ _ (fun z=>by rw[z,hx]at e;cases e) e⟩
theorem gP{H:Hp}{x b:Addr}{C dx:Addr}{fs:List (Str×V)}{xs:List V}(hx:H x=some (.ins C dx fs))(e:H b=some (.lst xs)):b≠x:=fun z=>by rw[z,hx]at e;cases e
theorem kh{R:Hp->Prop}{H:Hp}{a C dx:Addr}{fs:List (Str×V)}(h:∀H3,Kx a H H3->H3 a=some (.ins C dx fs)->R H3):R (upd H a (.ins C dx fs)):=h _ (Kx.upd (Kx.refl _ _)) av
structure Kp(M:List Addr)(H H':Hp):Prop where
 k:∀b o,H b=some o->(b∉M\/∀xs,o≠.lst xs)->H' b=some o
 f:∀b,H' b=none->H b=none
theorem Kp.of{M:List Addr}{H H':Hp}(s:ah H H'):Kp M H H':=⟨fun b o e _=>s b o e,fun b h=>s.free h⟩
theorem Kp.trans{M:List Addr}{H H1 H2:Hp}(a:Kp M H H1)(b:Kp M H1 H2):Kp M H H2:=⟨fun x o e h=>b.k x o (a.k x o e h) h,fun x h=>a.f x (b.f x h)⟩
theorem Kp.mono{M N:List Addr}{H H':Hp}(a:Kp M H H')(h:∀b∈M,b∈N):Kp N H H':=⟨fun x o e q=>a.k x o e (q.imp (fun n m=>n (h x m)) id),a.f⟩
theorem Kp.keep{M:List Addr}{H H':Hp}(a:Kp M H H'):dg H H':=fun b xs e=>a.k b _ e (.inr fun _ z=>nomatch z)
theorem Kp.tup{M:List Addr}{H H':Hp}(a:Kp M H H'){b:Addr}{xs:List V}(e:H b=some (.tup xs)):H' b=some (.tup xs):=a.keep _ _ e
theorem Kp.ins{M:List Addr}{H H':Hp}(a:Kp M H H'){b C dx:Addr}{fs:List (Str×V)}(e:H b=some (.ins C dx fs)):H' b=some (.ins C dx fs):=a.k b _ e (.inr fun _ z=>nomatch z)
theorem Kp.lst{M:List Addr}{H H':Hp}(a:Kp M H H'){b:Addr}{o:HO}(n:b∉M)(e:H b=some o):H' b=some o:=a.k b _ e (.inl n)
theorem Kp.new{M:List Addr}{H0 H H':Hp}(s:ah H0 H)(a:Kp M H H')(h:∀b∈M,H0 b=none):ah H0 H':=fun b o e=>a.lst (fun m=>by rw[h b m]at e;cases e) (s b o e)
theorem Kp.upd{M:List Addr}{H H':Hp}{l:Addr}{xs ys:List V}(a:Kp M H H')(e:H' l=some (.lst xs))(hl:l∈M):Kp M H (L2.upd H' l (.lst ys)):=⟨fun b o q n=>by
 by_cases z:b=l
 ·subst z
  have:=a.k _ _ q n;rw[e]at this;cases this;rcases n with n|n
  ·exact absurd hl n
  ·exact absurd rfl (n _)
 ·rw[aO z]
  exact a.k b o q n,fun b h=>by
 by_cases z:b=l
 ·subst z
  rw[av]at h;cases h
 ·rw[aO z]at h
  exact a.f b h⟩
theorem Kp.off{M:List Addr}{H H1 H2:Hp}{l:Addr}{xs ys:List V}(a:Kp M H H1)(e:H1 l=some (.lst xs))(hl:l∈M)(o:Off l H1 H2)(e2:H2 l=some (.lst ys)):Kp M H H2:=by
 have:H2=L2.upd H1 l (.lst ys):=by
  funext b
  by_cases z:b=l
  ·subst z;rw[av];exact e2
  ·rw[aO z];exact o b z
 rw[this];exact a.upd e hl
noncomputable def qy(M:List Addr)(H:Hp)(d:V)(m:List Nat×List V):Prop:=∃t h v,d=.ref t/\H t=some (.tup [.ref h,.ref v])/\H h=some (.tup (aq m.1))/\H v=some (.lst m.2)/\v∉M
theorem qy.kp{M N:List Addr}{H H':Hp}{d:V}{m:List Nat×List V}(h:qy M H d m)(a:Kp N H H')(hn:∀b∈N,b∈M):qy M H' d m:=by
 obtain⟨t,x,v,e,h1,h2,h3,h4⟩:=h;exact⟨t,x,v,e,a.tup h1,a.tup h2,a.lst (fun z=>h4 (hn _ z)) h3,h4⟩
noncomputable def ph(pd ps pv pe:Addr)(T:TM):List (Str×V):=[("dealt",.ref pd),("cards",.int T.c),("sizes",.ref ps),("hands",.int T.k),("views",.ref pv),("deeds",.ref pe)]
structure TbX(G:GF)(M:List Addr)(H:Hp)(x pv pe:Addr)(T:TM)(dx pd ps:Addr)(qs:List Addr)(es:List V):Prop where
 hx:H x=some (.ins G.Table dx (ph pd ps pv pe T))
 dl:bt H pd T.ws
 nd:pd∉M
 sz:H ps=some (.lst (aq T.ss))
 ns:ps∉M
 vs:H pv=some (.lst (qs.map V.ref))
 qv:Paired (fun(q:Addr)(v:List Nat)=>H q=some (.lst (aq v))/\q∉M) qs T.vw
 pes:H pe=some (.lst es)
 ed:Paired (qy M H) es T.ds
structure Tb(G:GF)(M:List Addr)(H:Hp)(x pv pe:Addr)(T:TM):Prop where
 ok:T.Ok
 ex:∃dx pd ps qs es,TbX G M H x pv pe T dx pd ps qs es
 ne:pv≠pe
 mv:pv∈M
 me:pe∈M
 al:∀b∈M,H b≠none
theorem bt.kp{M:List Addr}{H H':Hp}{p:Addr}{ws:List (List Nat)}(d:bt H p ws)(a:Kp M H H')(n:p∉M):bt H' p ws:=d.to' a.keep fun rs e=>a.lst n e
theorem Tb.kp{G:GF}{M N:List Addr}{H H':Hp}{x pv pe:Addr}{T:TM}(t:Tb G M H x pv pe T)(a:Kp N H H')(hn:∀b∈N,b∈M)(n1:pv∉N)(n2:pe∉N):Tb G M H' x pv pe T:=by
 obtain⟨dx,pd,ps,qs,es,X⟩:=t.ex;exact⟨t.ok,⟨dx,pd,ps,qs,es,a.ins X.hx,X.dl.kp a fun z=>X.nd (hn _ z),X.nd,a.lst (fun z=>X.ns (hn _ z)) X.sz,X.ns,a.lst n1 X.vs,Paired.mapP X.qv fun _ _ ⟨e,n⟩=>⟨a.lst (fun z=>n (hn _ z)) e,n⟩,a.lst n2 X.pes,Paired.mapP X.ed fun _ _ h=>h.kp a hn⟩,t.ne,t.mv,t.me,fun b hb z=>t.al b hb (a.f b z)⟩
theorem Tb.same{G:GF}{M:List Addr}{H H':Hp}{x pv pe:Addr}{T:TM}(t:Tb G M H x pv pe T)(s:ah H H'):Tb G M H' x pv pe T:=t.kp (N:=[]) (Kp.of s) (fun _ z=>nomatch z) (fun z=>nomatch z) (fun z=>nomatch z)
theorem Tb.grow{G:GF}{M N:List Addr}{H:Hp}{x pv pe:Addr}{T:TM}(t:Tb G M H x pv pe T){H':Hp}(s:ah H H')(hn:∀b∈N,H b=none)(ha:∀b∈N,H' b≠none):Tb G (N++M) H' x pv pe T:=by
 obtain⟨dx,pd,ps,qs,es,X⟩:=t.ex;have go:∀{b:Addr} {o:HO},H b=some o->b∉M->b∉N++M:=fun e n z=>by
  rcases Gv.mp z with z|z
  ·rw[hn _ z]at e;cases e
  ·exact n z
 have hd:pd∉N++M:=by
  obtain⟨rs,e,_⟩:=X.dl;exact go e X.nd
 exact⟨t.ok,⟨dx,pd,ps,qs,es,s _ _ X.hx,X.dl.same' s,hd,s _ _ X.sz,go X.sz X.ns,s _ _ X.vs,Paired.mapP X.qv fun _ _ ⟨e,n⟩=>⟨s _ _ e,go e n⟩,s _ _ X.pes,Paired.mapP X.ed fun _ _ ⟨t,h,v,e,h1,h2,h3,h4⟩=>⟨t,h,v,e,s _ _ h1,s _ _ h2,s _ _ h3,go h3 h4⟩⟩,t.ne,GB _ t.mv,GB _ t.me,fun b hb=>by
  rcases Gv.mp hb with z|z
  ·exact ha b z
  ·intro y
   exact t.al b z (s.free y)⟩
theorem Tb.off{G:GF}{M:List Addr}{H:Hp}{x pv pe:Addr}{T:TM}(t:Tb G M H x pv pe T){p:Addr}(h:H p=none):p∉M:=fun z=>t.al p z h
theorem Tb.at{G:GF}{M:List Addr}{H:Hp}{x pv pe:Addr}{T:TM}(t:Tb G M H x pv pe T)(m:Str)(h1:(m=="dealt")=false)(h2:(m=="cards")=false)(h3:(m=="sizes")=false)(h4:(m=="hands")=false)(h5:(m=="views")=false)(h6:(m=="deeds")=false):∃dx fs,H x=some (.ins G.Table dx fs)/\fs.lookup m=none:=by
 obtain⟨dx,pd,ps,qs,es,X⟩:=t.ex;refine⟨dx,_,X.hx,?_⟩;simp only[ph,Jk,h1,h2,h3,h4,h5,h6]
noncomputable def ck(_:Fg)(G:GF):Sp:=fun vs H Q _=>∃(M:List Addr)(x dx a:Addr)(c:Nat)(ss:List Nat),vs=[.ref x,.int c,.ref a]/\H x=some (.ins G.Table dx [])/\H a=some (.lst (aq ss))/\il c ss/\KM.bR c ss<=2000/\(∀b∈M,H b≠none)/\x∉M/\
 ∀(H':Hp)(pv pe:Addr),Kx x H H'->H pv=none->H pe=none->Tb G (pv::pe::M) H' x pv pe (TM.begun c ss)->Q .non H'
noncomputable def gQ(K:Fg)(G:GF):TS:=(ap (kn K (ab 0) (au (iM K) [] E0 (aa (ab 1) (aa (ab 2) af))) "dealt")
 (ap (kn K (ab 0) (ab 1) "cards")
 (ap (kn K (ab 0) (tCB (gC K) (aa (ab 2) af)) "sizes")
 (ap (kn K (ab 0) (tCB (cH K) (aa (ab 2) af)) "hands")
 (ap (kn K (ab 0) (b8 (dD (aa (dv K (ab 0) "hands") af)) (fun _ _ _ _=>(ai 0)) (fun _ _ _ _=>bI) (fun _ _ _ _=>(au (jo K) [] E0 (aa (dv K (ab 1) "dealt") (aa (ab 0) af)))) [none,some 0]) "views")
 (kn K (ab 0) (cX af) "deeds"))))))
noncomputable abbrev wf:List Str:=["self","cards","sizes"]
theorem wg{α β:Type}{F:α->β->Prop}{l:List α}{m:List β}{a:α}{b:β}(h:Paired F l m)(q:F a b):Paired F (l++[a]) (m++[b]):=by
 induction h with
 |nil=>exact .cons q .nil
 |cons x _ ih=>exact .cons x ih
theorem wj{R:Addr->List Nat->Prop}:∀{acc:List V} {f:Nat->List Nat},(∀j:Nat,j<acc.length->∃q,acc[j]?=some (.ref q)/\R q (f j))->∃qs:List Addr,acc=qs.map V.ref/\Paired R qs ((F5 acc.length).map f)
 | [],_,_=>⟨[],rfl,.nil⟩
 |x::acc,f,h=>by
  obtain⟨qs,e,p⟩:=wj (acc:=acc) (f:=fun j=>f (j+1)) fun j hj=>by
   obtain⟨q,h1,h2⟩:=h (j+1) (by rw[Gm];omega);exact⟨q,by simpa using h1,h2⟩
  obtain⟨q,h1,h2⟩:=h 0 (by simp);refine⟨q::qs,by rw[F6,<-e];exact congrArg (· ::acc) (by simpa using h1),?_⟩;rw[Gm,Mb,F6,I0];exact .cons h2 p
theorem t0{K:Fg}{G:GF}(ct:mZ K G.Table){vs:List V}{H:Hp}{Q:VK}{E:XK}(h:ck K G vs H Q E):gQ K G { nx:=fun _ H'=>Q .non H',rt:=Q } (start wf vs) H:=by
 obtain⟨M,x,dx,a,c,ss,rfl,hx,e,pk,hm,hM,hxM,q⟩:=h;have nk:∀{H1:Hp} {b:Addr} {fs:List (Str×V)},Kx x H H1->H1 x=some (.ins G.Table dx fs)->H1 b=none->H b=none:=fun{H1 b fs} kk ex eb=>by
  cases e:H b with
  |none=>rfl
  |some o=>
   by_cases z:b=x
   ·rw[z,ex]at eb;cases eb
   ·rw[kk _ _ z e]at eb;cases eb
 have h5:=pk.l5;have nxa:a≠x:=fun z=>by rw[z,hx]at e;cases e
 show gQ K G _ [some _,some _,some _] _;unfold gQ;refine bp (jf ?_);right;refine⟨c,a,ss,rfl,e,pk,hm,fun p H1 s1 hp D1=>?_⟩;have okT:=TM.Ok.begun pk hm;have hws:∀w∈KM.aW (ss++[c-ss.sum]) c,w.length<=1000:=fun w hw=>by
  have:=(KM.bB _ c w hw).len;have:=pk.c12;omega
 have hwl:(KM.aW (ss++[c-ss.sum]) c).length<=2000:=by rw[KM.iK pk.sum];exact hm
 obtain⟨ws,hWs⟩:∃ws,ws=KM.aW (ss++[c-ss.sum]) c:=⟨_,rfl⟩;rw[<-hWs]at hws hwl D1;right;refine⟨x,G.Table,dx,[],rfl,s1 _ _ hx,ct.cl,ct.n1,by simp,kh fun H2 l2 x2=>?_⟩;have k2:Kx x H H2:=fun b o n e=>l2 _ _ n (s1 _ _ e);have D2:=fb D1 (s1 _ _ hx) l2;refine bp (jf ?_);right;refine⟨x,G.Table,dx,_,rfl,x2,ct.cl,ct.n2,Im rfl,kh fun H3 l3 x3=>?_⟩;have k3:Kx x H H3:=fun b o n e=>l3 _ _ n (k2 _ _ n e);have D3:=fb D2 x2 l3;refine bp (jf ?_);right;refine kM (SqL.of (k3 _ _ nxa e)) fun l4 H4 hl4 s4 e4=>?_;have nxl:l4≠x:=gP (s4 _ _ x3) e4;right;refine⟨x,G.Table,dx,_,rfl,s4 _ _ x3,ct.cl,ct.n3,Im rfl,kh fun H5 l5 x5=>?_⟩;have k5:Kx x H H5:=fun b o n e=>l5 _ _ n (s4 _ _ (k3 _ _ n e));have D5:=fb (D3.same' s4) (s4 _ _ x3) l5;have a5:=k5 _ _ nxa e;refine bp (jf ?_);right;rw[aS];refine⟨x,G.Table,dx,_,rfl,x5,ct.cl,ct.n4,Im rfl,kh fun H6 l6 x6=>?_⟩;have k6:Kx x H H6:=fun b o n e=>l6 _ _ n (k5 _ _ n e);have D6:=fb D5 x5 l6;have e46:H6 l4=some (.lst (aq ss)):=l6 _ _ nxl (l5 _ _ nxl e4);refine bp (jf ?_);right;refine cM ?_;right;refine⟨x,G.Table,dx,_,_,rfl,x6,ct.cl,ct.n4,rfl,?_⟩;right;refine AS ss.length (by omega) (by omega) (by omega) (fun p' i acc H2=>acc.length=i/\∀j:Nat,j<i->∃q,acc[j]?=some (.ref q)/\(q≠p'/\q∉M)/\H2 q=some (.lst (aq (fN ws (j:Int))))) (fun _ _ _=>⟨rfl,fun j hj=>absurd hj (JH _)⟩) ?_ ?_
 ·intro p' hp' C s' H' fp i acc H7 hi ⟨s7,e7,l7,r7⟩
  right;refine cM ?_;right;refine⟨x,G.Table,dx,_,_,rfl,s7 _ _ x6,ct.cl,ct.n1,rfl,?_⟩;right;refine⟨p,ws,(i:Int),rfl,D6.same' s7,hws,by omega,fun q8 H8 hq8 s8 e8=>?_⟩;obtain⟨r1,r2⟩:=r7;refine bm.putW hp' (s7.trans s8) (s8 _ _ e7) l7 fun H9 o9=>⟨by rw[Ga,r1];rfl,fun j hj=>?_⟩;by_cases hj2:j<i
  ·obtain⟨q,h1,h2,h3⟩:=r2 j hj2
   exact⟨q,by rw[IQ (by omega)];exact h1,h2,(o9 _ h2.1).trans (s8 _ _ h3)⟩
  ·have ej:j=i:=by omega
   subst ej;have hqp:q8≠p':=fun z=>by rw[z,e7]at hq8;cases hq8
   exact⟨q8,by rw[JA (by omega),r1,LG];rfl,⟨hqp,fun z=>hM _ z (nk (k6.same s7) (s7 _ _ x6) hq8)⟩,(o9 _ hqp).trans e8⟩
 ·intro pv acc H7 hpv s7 e7 ⟨r1,r2⟩
  right;refine⟨x,G.Table,dx,_,rfl,s7 _ _ x6,ct.cl,ct.n5,Im rfl,kh fun H8 kk x8=>?_⟩;have k8:Kx x H H8:=fun b o n e=>kk _ _ n (s7 _ _ (k6 _ _ n e));have D8:=fb (D6.same' s7) (s7 _ _ x6) kk;have v8:=kk _ _ (gP (s7 _ _ x6) e7) e7;refine jf ?_;right;refine⟨by simp[FV],fun pe H9 hpe s9 e9=>?_⟩;right;refine⟨x,G.Table,dx,_,rfl,s9 _ _ x8,ct.cl,ct.n6,Im rfl,kh fun HA kz xA=>?_⟩;have kA:Kx x H HA:=fun b o n e=>kz _ _ n (s9 _ _ (k8 _ _ n e));have gv:=nk k6 x6 hpv;have ge:=nk k8 x8 hpe;have npv:pv≠pe:=aP v8 hpe;have npd:p∉pv::pe::M:=fun z=>by
   obtain⟨rs6,er6,_⟩:=id D6;rcases FW.mp z with z|z
   ·rw[z]at er6;rw[er6]at hpv;cases hpv
   ·rcases FW.mp z with z|z
    ·obtain⟨rs8,er8,_⟩:=id D8
     rw[z]at er8;rw[er8]at hpe;cases hpe
    ·exact hM _ z hp
  have e48:=kk _ _ nxl (s7 _ _ e46);have nps:l4∉pv::pe::M:=fun z=>by
   rcases FW.mp z with z|z
   ·rw[z]at e46;rw[e46]at hpv;cases hpv
   ·rcases FW.mp z with z|z
    ·rw[z]at e48;rw[e48]at hpe;cases hpe
    ·exact hM _ z (nk k3 x3 hl4)
  have rr:=wj (R:=fun q v=>(q≠pv/\q∉M)/\H8 q=some (.lst (aq v))) (f:=fun j=>fN ws ((j:Nat):Int)) (fun j hj=>by
   obtain⟨q,h1,h2,h3⟩:=r2 j (by rw[<-r1];exact hj);exact⟨q,h1,h2,kk _ _ (gP (s7 _ _ x6) h3) h3⟩)
  rw[r1]at rr;obtain⟨qs,rfl,hqs⟩:=rr;have up:∀{b:Addr} {xs:List V},H8 b=some (.lst xs)->HA b=some (.lst xs):=fun e=>kz _ _ (gP (s9 _ _ x8) (s9 _ _ e)) (s9 _ _ e);have pe9:=kz _ _ (gP (s9 _ _ x8) e9) e9;refine q HA pv pe kA gv ge ⟨okT,⟨dx,p,l4,qs,[],xA,?_,npd,up e48,nps,up v8,?_,pe9,.nil⟩,npv,F2,FX _ F2,fun b hb y=>?_⟩
  ·show bt _ p (KM.aW (ss++[c-ss.sum]) c)
   rw[<-hWs];exact fb (D8.same' s9) (s9 _ _ x8) kz
  ·show Paired _ qs ((F5 ss.length).map fun i=>fN (KM.aW (ss++[c-ss.sum]) c) ((i:Nat):Int))
   rw[<-hWs];refine Paired.mapP hqs fun a' v ⟨h2,h3⟩=>⟨up h3,fun z=>?_⟩;rcases FW.mp z with z|z
   ·exact h2.1 z
   ·rcases FW.mp z with z|z
    ·rw[z]at h3;rw[h3]at hpe;cases hpe
    ·exact h2.2 z
  ·rcases FW.mp hb with z|z
   ·rw[z,up v8]at y;cases y
   ·rcases FW.mp z with z|z
    ·rw[z,pe9]at y;cases y
    ·cases eb:H b with
     |none=>exact hM b z eb
     |some o=>rw[kA b o (fun w=>hxM (w▸z)) eb]at y;cases y
end
section
open KF
theorem TbX.view{G:GF}{M:List Addr}{H:Hp}{x pv pe:Addr}{T:TM}{dx pd ps:Addr}{qs:List Addr}{es:List V}(X:TbX G M H x pv pe T dx pd ps qs es){i:Nat}(hi:i<T.vw.length):∃qi,qs[i]?=some qi/\H qi=some (.lst (aq (T.vw.getD i [])))/\qi∉M:=by
 have lq:qs.length=T.vw.length:=GJ X.qv;have hq:qs[i]?=some (qs[i]'(by omega)):=FN _;obtain⟨v,hv,h1,h2⟩:=bL X.qv hq;exact⟨_,hq,by rw[jL hv];exact h1,h2⟩
noncomputable def fV(_:Fg)(G:GF):Sp:=fun vs H Q _=>∃(M:List Addr)(x pv pe:Addr)(T:TM)(i:Nat),vs=[.ref x,.int i]/\Tb G M H x pv pe T/\i<T.k/\∀(p:Addr)(H':Hp),H p=none->ah H H'->H' p=some (.lst (aq (T.vw.getD i [])))->Q (.ref p) H'
noncomputable def gR(K:Fg)(G:GF):TS:=(ap (dY (au (d8 K) [] E0 (aa (au (eB K) [] E0 (aa (ab 1) (aa (dv K (ab 0) "hands") af))) (aa (tC (.str "this is no hand")) af))))
 (aG (tCB (gC K) (aa (tOp (b9 K) (dv K (ab 0) "views") (ab 1)) af))))
noncomputable abbrev wk:List Str:=["self","hand"]
theorem t9{K:Fg}{G:GF}(ct:mZ K G.Table){vs:List V}{H:Hp}{Q:VK}{E:XK}(h:fV K G vs H Q E):gR K G { nx:=fun _ H'=>Q .non H',rt:=Q } (start wk vs) H:=by
 obtain⟨M,x,pv,pe,T,i,rfl,t,hi,q⟩:=h;obtain⟨dx,pd,ps,qs,es,X⟩:=t.ex;show gR K G _ [some _,some _] _;unfold gR;right;refine cM ?_;right;refine⟨x,G.Table,dx,_,_,rfl,X.hx,ct.cl,ct.n4,rfl,?_⟩;right;refine⟨(i:Int),(T.k:Int),rfl,?_⟩;rw[kf (by omega) (by omega)];right;refine⟨_,rfl,?_⟩;right;refine cM ?_;right;refine⟨x,G.Table,dx,_,_,rfl,X.hx,ct.cl,ct.n5,rfl,?_⟩;right;obtain⟨qi,hq,h2,_⟩:=X.view (i:=i) (by rw[t.ok.len];exact hi);refine bH (SqL.of X.vs) (dh (v:=.ref qi) (by rw[FZ,hq];rfl)) ?_;right;refine kM (SqL.of h2) fun p H1 hp s1 e1=>?_;exact q p H1 hp s1 e1
noncomputable def Tld(G:GF)(M:List Addr)(H:Hp)(x pv pe:Addr)(T:TM)(ys:List V)(Q:VK):Prop:=∀p Hm H',Kp [pv,pe] H Hm->Tb G M Hm x pv pe T->Hm p=none->ah Hm H'->H' p=some (.lst ys)->Q (.ref p) H'
theorem wl{G:GF}{M:List Addr}{H:Hp}{x pv pe:Addr}{T:TM}{ys:List V}{Q:VK}(h:∀p H',H p=none->Kp [pv,pe] H H'->H' p=some (.lst ys)->Tb G M H' x pv pe T->Q (.ref p) H'):Tld G M H x pv pe T ys Q:=fun p _ H' k t hp s e=>h p H' (k.f _ hp) (k.trans (Kp.of s)) e (t.same s)
noncomputable def ir(_:Fg)(G:GF):Sp:=fun vs H Q _=>∃(M:List Addr)(x pv pe tp vp:Addr)(T:TM)(g:List Nat)(as:List IA)(ys:List V),vs=[.ref x,.ref tp,.ref vp]/\Tb G M H x pv pe T/\H tp=some (.tup (aq g))/\(∀h∈g,h<T.k)/\H vp=some (.lst ys)/\vp∉M/\ys.map iaV=as.map some/\as.length=T.n/\T.ds.length<1000/\
 Tld G M H x pv pe (T.learn g as ys) ys Q
noncomputable def fW(K:Fg)(G:GF):TS:=(ap (cc (mz K (ab 1)) (ai 3) (az (au (oZ K) [] E0 (aa (tOp (b9 K) (dv K (ab 0) "views") (ab 3)) (aa (ab 2) af))) (km (dv K (ab 0) "views") (ab 3) jw)))
 (ap (dY (tBM K "list" fo (dv K (ab 0) "deeds") (aa (cq (aa (ab 1) (aa (ab 2) af))) af)))
 (aG (tCB (gC K) (aa (ab 2) af)))))
noncomputable abbrev uf:List Str:=["self","hands","values","hand"]
theorem CJ{n j:Nat}(h:j<n):ixN n (j:Int)=some j:=by
 unfold ixN;rw[if_pos (by omega),if_pos (by omega)];simp
theorem yR{α β:Type}{F:α->β->Prop}{l:List α}{m:List β}(h:Paired F l m){a:α}{b:β}(r:F a b):∀i:Nat,Paired F (l.set i a) (m.set i b):=by
 induction h with
 |nil=>exact fun i=>.nil
 |cons r' t ih=>
  intro i;cases i with
  |zero=>exact .cons r t
  |succ i=>exact .cons r' (ih i)
theorem r0{K:Fg}{G:GF}(ct:mZ K G.Table){vs:List V}{H:Hp}{Q:VK}{E:XK}(h:ir K G vs H Q E):fW K G { nx:=fun _ H'=>Q .non H',rt:=Q } (start uf vs) H:=by
 obtain⟨M,x,pv,pe,tp,vp,T,g,as,ys,rfl,t,et,hg,evp,nvp,hia,hla,hds,q⟩:=h;obtain⟨dx,pd,ps,qs,es,X⟩:=t.ex;have n2:=t.ok.n2;show fW K G _ [some _,some _,some _,none] _;unfold fW;right;have me1:pv∈[pv,pe]:=F2;have me2:pe∈[pv,pe]:=FX _ F2;have sub:∀b∈[pv,pe],b∈M:=fun b hb=>by
  rcases FW.mp hb with z|z
  ·rw[z];exact t.mv
  ·rw[FR.mp z];exact t.me
 have nvp':vp∉[pv,pe]:=fun z=>nvp (sub _ z);refine vy (aq g) (SqT.of et) (fun j σ' H2=>∃(u:Option V)(qs2:List Addr),σ'=[some (.ref x),some (.ref tp),some (.ref vp),u]/\Kp [pv] H H2/\H2 pv=some (.lst (qs2.map V.ref))/\Paired (fun(q:Addr)(v:List Nat)=>H2 q=some (.lst (aq v))/\q∉M) qs2 (lrn T.vw (g.take j) as)) ⟨none,qs,rfl,Kp.of (ah.refl _),X.vs,X.qv⟩ ?_ ?_ ?_
 ·rintro j σ' H2 hj ⟨u,qs2,rfl,k2,_⟩
  exact SqT.of (k2.tup et)
 ·rintro j y σ' H2 hy ⟨u,qs2,rfl,k2,e2,p2⟩
  obtain⟨hd,hh,rfl⟩:=fu hy;have hk:=hg hd (F0 hh);have hx2:=k2.ins X.hx;have lq:qs2.length=T.vw.length:=by rw[GJ p2,nU]
  have hdl:hd<qs2.length:=by rw[lq,t.ok.len];exact hk
  have hq:qs2[hd]?=some (qs2[hd]'hdl):=FN _;generalize qs2[hd]'hdl=qi at hq;obtain⟨v,hv,h1,h2⟩:=bL p2 hq;have hvw:Within T.n v:=nV (P:=Within T.n) (fun v hv=>gJ hv hla) (g.take j) T.vw (fun h hh=>by rw[t.ok.len];exact hg h (List.mem_of_mem_take hh)) t.ok.win v (F0 hv);right;refine cM ?_;right;refine⟨x,G.Table,dx,_,_,rfl,hx2,ct.cl,ct.n5,rfl,?_⟩;right;refine bH (SqL.of e2) (dh (v:=.ref qi) (by rw[FZ,hq];rfl)) ?_;right;refine⟨qi,vp,v,ys,as,rfl,h1,k2.lst (fun z=>nvp' (by rw[FR.mp z];exact me1)) evp,hia,by rw[hvw.1,hla],by rw[hvw.1];omega,fun q' H3 hq' s3 e3=>?_⟩;right;refine cM ?_;right;refine⟨x,G.Table,dx,_,_,rfl,s3 _ _ hx2,ct.cl,ct.n5,rfl,?_⟩;right;refine kL (s3 _ _ e2) (CJ (by rw[FQ];exact hdl)) ?_;have nq:q'≠pv:=(aP e2 hq').symm;have nqM:q'∉M:=fun z=>t.al _ z (k2.f _ hq');refine⟨_,qs2.set hd q',rfl,(k2.trans (Kp.of s3)).upd (s3 _ _ e2) (FR.mpr rfl),by rw[av,List.map_set],?_⟩;rw[cN hh,BZ,jL hv];refine yR (Paired.mapP p2 fun a w ⟨z1,z2⟩=>⟨?_,z2⟩) ⟨by rw[aO nq];exact e3,nqM⟩ hd;rw[aO (show a≠pv from fun z=>z2 (by rw[z];exact t.mv))];exact s3 _ _ z1
 ·rintro σ' H2 ⟨u,qs2,rfl,k2,e2,p2⟩
  rw[aS,GG]at p2;have hx2:=k2.ins X.hx;have ee2:=k2.lst (fun z=>t.ne (FR.mp z).symm) X.pes;right;refine cM ?_;right;refine⟨x,G.Table,dx,_,_,rfl,hx2,ct.cl,ct.n6,rfl,?_⟩;refine⟨.inl ⟨rfl,_,SqL.of ee2⟩,?_⟩;right;refine⟨by simp[FV],fun p3 H3 hp3 s3 e3=>?_⟩;right;have les:es.length=T.ds.length:=GJ X.ed;refine ik (s3 _ _ ee2) (by rw[FV];omega) fun H4 o4 e4=>?_;have k4:Kp [pv,pe] H H4:=((k2.mono fun b hb=>by rw[FR.mp hb];exact me1).trans (Kp.of s3)).off (s3 _ _ ee2) me2 o4 e4;right;refine kM (SqL.of (k4.lst nvp' evp)) fun p5 H5 hp5 s5 e5=>?_;have keep4:∀{b:Addr} {o:HO},b≠pe->H2 b=some o->H4 b=some o:=fun nb e=>(o4 _ nb).trans (s3 _ _ e);refine q p5 H4 H5 k4 ⟨t.ok.learn hg hla,⟨dx,pd,ps,qs2,es++[.ref p3],k4.ins X.hx,X.dl.kp k4 fun z=>X.nd (sub _ z),X.nd,k4.lst (fun z=>X.ns (sub _ z)) X.sz,X.ns,keep4 t.ne e2,Paired.mapP p2 fun a w ⟨z1,z2⟩=>⟨keep4 (show a≠pe from fun z=>z2 (by rw[z];exact t.me)) z1,z2⟩,e4,?_⟩,t.ne,t.mv,t.me,fun b hb z=>t.al b hb (k4.f b z)⟩ hp5 s5 e5;refine wg (Paired.mapP X.ed fun _ _ h=>h.kp k4 sub) ⟨p3,tp,vp,rfl,?_,k4.tup et,k4.lst nvp' evp,nvp⟩;exact(o4 _ (fun z=>by rw[z]at hp3;rw[ee2]at hp3;cases hp3)).trans e3
noncomputable def dt(_:Fg)(G:GF):Sp:=fun vs H Q _=>∃(M:List Addr)(x pv pe:Addr)(T:TM)(v:V)(s:Sy),vs=[.ref x,v]/\Tb G M H x pv pe T/\aD H v s/\s.Ok T.c T.k/\s.words<=30/\
 ∀p H',H p=none->ah H H'->H' p=some (.lst (blV T.n (T.tr s)))->Q (.ref p) H'
noncomputable def fD(K:Fg)(G:GF):TS:=(ap (bo (dX (tB (au (jV K) [] E0 (aa (dv K (ab 0) "cards") (aa (dv K (ab 0) "hands") (aa (ab 1) af)))))) mw aZ)
 (aG (au (bN K 35) [] E0 (aa (dv K (ab 0) "dealt") (aa (dv K (ab 0) "views") (aa (ab 1) af))))))
noncomputable abbrev r6:List Str:=["self","S"]
theorem Tb.tab{G:GF}{M:List Addr}{H:Hp}{x pv pe:Addr}{T:TM}{dx pd ps:Addr}{qs:List Addr}{es:List V}(ok:T.Ok)(X:TbX G M H x pv pe T dx pd ps qs es):Table H pd pv T.c T.n T.ws T.vw:=
 ⟨X.dl,rfl,ok.cards,by have:=ok.n2;omega,by have:=ok.pk.c12;omega,⟨qs,X.vs,Paired.mapP X.qv fun _ _ h=>h.1⟩,ok.win,by rw[ok.len];have:=ok.pk.l5;show T.ss.length<=1000;omega⟩
theorem qz{K:Fg}{G:GF}(ct:mZ K G.Table){vs:List V}{H:Hp}{Q:VK}{E:XK}(h:dt K G vs H Q E):fD K G { nx:=fun _ H'=>Q .non H',rt:=Q } (start r6 vs) H:=by
 obtain⟨M,x,pv,pe,T,v,s,rfl,t,hS,hok,hw,q⟩:=h;obtain⟨dx,pd,ps,qs,es,X⟩:=t.ex;show fD K G _ [some _,some _] _;unfold fD;right;refine cM ?_;right;refine⟨x,G.Table,dx,_,_,rfl,X.hx,ct.cl,ct.n2,rfl,?_⟩;right;refine cM ?_;right;refine⟨x,G.Table,dx,_,_,rfl,X.hx,ct.cl,ct.n4,rfl,?_⟩;right;refine⟨T.c,T.k,v,s,rfl,hS,hok,hw,fun H1 s1=>?_⟩;have x1:=s1 _ _ X.hx;right;refine cM ?_;right;refine⟨x,G.Table,dx,_,_,rfl,x1,ct.cl,ct.n1,rfl,?_⟩;right;refine cM ?_;right;refine⟨x,G.Table,dx,_,_,rfl,x1,ct.cl,ct.n5,rfl,?_⟩;right;refine⟨pd,pv,v,T.c,T.n,T.ws,T.vw,s,rfl,(Tb.tab t.ok X).same s1,hS.keep s1.keep,by rw[t.ok.len];exact hok,by omega,fun p H2 hp2 s2 e2=>?_⟩;right;exact q p H2 (s1.free hp2) (s1.trans s2) e2
noncomputable def d9(_:Fg)(G:GF):Sp:=fun vs H Q _=>∃(M:List Addr)(x pv pe tp:Addr)(T:TM)(g:List Nat)(v:V)(s:Sy),vs=[.ref x,.ref tp,v]/\Tb G M H x pv pe T/\H tp=some (.tup (aq g))/\g.Pairwise (· < ·)/\(∀h∈g,h<T.k)/\aD H v s/\s.Ok T.c T.k/\s.words<=30/\T.ds.length<1000/\
 Tld G M H x pv pe (T.word g s) (blV T.n (T.tr s)) Q
noncomputable def gS(K:Fg)(G:GF):TS:=(ap (dY (au (d8 K) [] E0 (aa (au (gK K) [] E0 (aa (ab 1) (aa (dv K (ab 0) "hands") af))) (aa (tC (.str "this is no tuple of hands")) af))))
 (aG (d2 G.Table "learn" (ir K G) [] E0 (ab 0) (aa (ab 1) (aa (d2 G.Table "truths" (dt K G) [] E0 (ab 0) (aa (ab 2) af)) af)))))
noncomputable abbrev wm:List Str:=["self","hands","S"]
theorem ug{K:Fg}{G:GF}(ct:mZ K G.Table){vs:List V}{H:Hp}{Q:VK}{E:XK}(h:d9 K G vs H Q E):gS K G { nx:=fun _ H'=>Q .non H',rt:=Q } (start wm vs) H:=by
 obtain⟨M,x,pv,pe,tp,T,g,v,s,rfl,t,et,pw,hg,hS,hok,hw,hds,q⟩:=h;obtain⟨dx,pd,ps,qs,es,X⟩:=t.ex;show gS K G _ [some _,some _,some _] _;unfold gS;right;refine cM ?_;right;refine⟨x,G.Table,dx,_,_,rfl,X.hx,ct.cl,ct.n4,rfl,?_⟩;right;refine⟨tp,g,T.k,rfl,et,pw,hg,?_⟩;right;refine⟨_,rfl,?_⟩;right;obtain⟨dx1,fs1,hx1,hl1⟩:=t.at "learn" (by decide+kernel) (by decide+kernel) (by decide+kernel) (by decide+kernel) (by decide+kernel) (by decide+kernel);refine fO ?_;right;refine⟨x,dx1,fs1,rfl,hx1,hl1,?_⟩;right;obtain⟨dx2,fs2,hx2,hl2⟩:=t.at "truths" (by decide+kernel) (by decide+kernel) (by decide+kernel) (by decide+kernel) (by decide+kernel) (by decide+kernel);refine fO ?_;right;refine⟨x,dx2,fs2,rfl,hx2,hl2,?_⟩;right;refine⟨M,x,pv,pe,T,v,s,rfl,t,hS,hok,hw,fun p1 H1 hp1 s1 e1=>?_⟩;right;refine⟨M,x,pv,pe,tp,p1,T,g,_,_,rfl,t.same s1,s1 _ _ et,hg,e1,t.off hp1,EK _ _,gx _ _,hds,fun p2 Hm H2 k2 t2 hp2 s2 e2=>?_⟩;right;exact q p2 Hm H2 ((Kp.of s1).trans k2) t2 hp2 s2 e2
noncomputable def EN(w:List Nat)(h:Int)(ns:List Int):IA:=(ns.filter fun c=>decide (wAt w c=h)).min?
noncomputable def wn(ws:List (List Nat))(h:Int)(ns:List Int):List IA:=ws.map fun w=>EN w h ns
noncomputable def TM.show(T:TM)(i:Nat)(h:Int)(ns:List Int):TM:=T.learn [i] (wn T.ws h ns) ((wn T.ws h ns).map iaR)
noncomputable def iw(_:Fg)(G:GF):Sp:=fun vs H Q _=>∃(M:List Addr)(x pv pe:Addr)(T:TM),vs=[.ref x]/\Tb G M H x pv pe T/\
 ∀(x' pv' pe':Addr) H',H x'=none->H pv'=none->H pe'=none->ah H H'->Tb G (pv'::pe'::M) H' x' pv' pe' T->Q (.ref x') H'
noncomputable def fX(K:Fg)(G:GF):TS:=(ap (az (nD G.Table (ck K G) [] E0 (aa (dv K (ab 0) "cards") (aa (dv K (ab 0) "sizes") af))) (ai 1))
 (ap (kn K (ab 1) (tCB (gC K) (aa (dv K (ab 0) "views") af)) "views")
 (ap (kn K (ab 1) (tCB (gC K) (aa (dv K (ab 0) "deeds") af)) "deeds")
 (aG (ab 1)))))
noncomputable abbrev uh:List Str:=["self","other"]
theorem r9{K:Fg}{G:GF}(ct:mZ K G.Table){vs:List V}{H:Hp}{Q:VK}{E:XK}(h:iw K G vs H Q E):fX K G { nx:=fun _ H'=>Q .non H',rt:=Q } (start uh vs) H:=by
 obtain⟨M,x,pv,pe,T,rfl,t,q⟩:=h;obtain⟨dx,pd,ps,qs,es,X⟩:=t.ex;show fX K G _ [some _,none] _;unfold fX;refine bp (iG (we ?_));right;refine cM ?_;right;refine⟨x,G.Table,dx,_,_,rfl,X.hx,ct.cl,ct.n2,rfl,?_⟩;right;refine cM ?_;right;refine⟨x,G.Table,dx,_,_,rfl,X.hx,ct.cl,ct.n3,rfl,?_⟩;right;intro x' dx' hx' hdx' hne;have st:ah H (upd (upd H dx' (.own x')) x' (.ins G.Table dx' [])):=((ah.refl H).upd hdx' _).upd hx' _;have x'M:x'∉M:=fun z=>t.al _ z hx';refine⟨M,x',dx',ps,T.c,T.ss,rfl,av,st _ _ X.sz,t.ok.pk,t.ok.few,fun b hb z=>t.al b hb (st.free z),x'M,fun H1 pv0 pe0 k1 hpv0 hpe0 t1=>?_⟩;have s1:ah H H1:=fun b o e=>k1 _ _ (aP e hx') (st _ _ e);obtain⟨dx1,pd1,ps1,qs1,es1,X1⟩:=t1.ex;refine⟨rfl,?_⟩;right;refine jf ?_;right;refine cM ?_;right;refine⟨x,G.Table,dx,_,_,rfl,s1 _ _ X.hx,ct.cl,ct.n5,rfl,?_⟩;right;refine kM (SqL.of (s1 _ _ X.vs)) fun pv' H2 hpv' s2 e2=>?_;right;refine⟨x',G.Table,dx1,_,rfl,s2 _ _ X1.hx,ct.cl,ct.n5,by simp[ph],kh fun H3 kx3 x3=>?_⟩;have nxv:pv'≠x':=gP (s2 _ _ X1.hx) e2;have s3:ah H H3:=fun b o e=>kx3 _ _ (aP e hx') (s2 _ _ (s1 _ _ e));have e3:=kx3 _ _ nxv e2;have dl3:=fb (X1.dl.same' s2) (s2 _ _ X1.hx) kx3;have sz3:=kx3 _ _ (gP (s2 _ _ X1.hx) (s2 _ _ X1.sz)) (s2 _ _ X1.sz);right;refine jf ?_;right;refine cM ?_;right;refine⟨x,G.Table,dx,_,_,rfl,s3 _ _ X.hx,ct.cl,ct.n6,rfl,?_⟩;right;refine kM (SqL.of (s3 _ _ X.pes)) fun pe' H4 hpe' s4 e4=>?_;right;refine⟨x',G.Table,dx1,_,rfl,s4 _ _ x3,ct.cl,ct.n6,Im rfl,kh fun H5 kx5 x5=>?_⟩;have s5:ah H H5:=fun b o e=>kx5 _ _ (aP e hx') (s4 _ _ (s3 _ _ e));have e5:=kx5 _ _ (gP (s4 _ _ x3) e4) e4;have v5:=kx5 _ _ nxv (s4 _ _ e3);have dl5:=fb (dl3.same' s4) (s4 _ _ x3) kx5;have sz5:=kx5 _ _ (gP (s4 _ _ x3) (s4 _ _ sz3)) (s4 _ _ sz3);right;have gv:H pv'=none:=s1.free hpv';have ge:H pe'=none:=s3.free hpe';have nve:pv'≠pe':=aP e3 hpe';have nM:∀{b:Addr} {o:HO},H b=some o->b∉M->b∉pv'::pe'::M:=fun e n z=>by
  rcases FW.mp z with z|z
  ·rw[z,gv]at e;cases e
  ·rcases FW.mp z with z|z
   ·rw[z,ge]at e;cases e
   ·exact n z
 have nd1:pd1∉pv'::pe'::M:=fun z=>by
  obtain⟨rs1,er1,_⟩:=X1.dl;obtain⟨rs3,er3,_⟩:=dl3;rcases FW.mp z with z|z
  ·rw[z,hpv']at er1;cases er1
  ·rcases FW.mp z with z|z
   ·rw[z,hpe']at er3;cases er3
   ·exact X1.nd (FX _ (FX _ z))
 have ns1:ps1∉pv'::pe'::M:=fun z=>by
  have er1:=X1.sz;rcases FW.mp z with z|z
  ·rw[z,hpv']at er1;cases er1
  ·rcases FW.mp z with z|z
   ·rw[z,hpe']at sz3;cases sz3
   ·exact X1.ns (FX _ (FX _ z))
 refine q x' pv' pe' H5 hx' gv ge s5 ⟨t.ok,⟨dx1,pd1,ps1,qs,es,x5,dl5,nd1,sz5,ns1,v5,Paired.mapP X.qv fun _ _ ⟨e,n⟩=>⟨s5 _ _ e,nM e n⟩,e5,Paired.mapP X.ed fun _ _ ⟨t,h,v,e,h1,h2,h3,h4⟩=>⟨t,h,v,e,s5 _ _ h1,s5 _ _ h2,s5 _ _ h3,nM h3 h4⟩⟩,nve,F2,FX _ F2,fun b hb z=>?_⟩;rcases FW.mp hb with y|y
 ·rw[y,v5]at z;cases z
 ·rcases FW.mp y with y|y
  ·rw[y,e5]at z;cases z
  ·exact t.al b y (s5.free z)
end
section
open KF
noncomputable def eO(sys:List Sy)(j:Nat):Sy:=sys.getD (j%sys.length) (.sees 0)
noncomputable def TM.turn(T:TM)(sys:List Sy):Nat->TM
 |0=>T
 |j+1=>(T.turn sys j).word (F5 T.k) (eO sys j)
noncomputable def TM.told(T:TM)(sys:List Sy)(j:Nat):Nat->Prop:=(T.turn sys j).tr (eO sys j)
noncomputable def TM.still(T:TM)(sys:List Sy):Nat->Nat
 |0=>0
 |j+1=>if(T.turn sys (j+1)).vw=(T.turn sys j).vw then T.still sys j+1 else 0
structure TM.Len(T:TM)(sys:List Sy)(turns L:Nat):Prop where
 le:L<=turns
 go:∀i,i<L->T.still sys i<sys.length
 st:L=turns\/sys.length<=T.still sys L
theorem jg(T:TM)(sys:List Sy):∀j,(T.turn sys j).c=T.c/\(T.turn sys j).ss=T.ss
 |0=>⟨rfl,rfl⟩
 |j+1=>jg T sys j
theorem Dw(T:TM)(sys:List Sy)(j:Nat):(T.turn sys j).ws=T.ws:=by unfold TM.ws;rw[(jg T sys j).1,(jg T sys j).2]
theorem AY(T:TM)(sys:List Sy)(j:Nat):(T.turn sys j).n=T.n:=by unfold TM.n;rw[Dw]
theorem jh(T:TM)(sys:List Sy)(j:Nat):(T.turn sys j).k=T.k:=by unfold TM.k;rw[(jg T sys j).2]
theorem xW(T:TM)(sys:List Sy):∀j,(T.turn sys j).ds.length=T.ds.length+j
 |0=>rfl
 |j+1=>by
  show((T.turn sys j).ds++[_]).length=_;rw[Ga,xW T sys j];rfl
theorem Len.uniq{T:TM}{sys:List Sy}{a b L M:Nat}(h1:T.Len sys a L)(h2:T.Len sys b M):M<=L\/(L=a/\a<=M):=by
 by_cases z:M<=L
 ·exact .inl z
 ·rcases h1.st with e|e
  ·exact .inr ⟨e,by omega⟩
  ·have:=h2.go L (by omega)
   omega
end
noncomputable def Ca:R2:=fun x y H Q=>∃a b vs ws,x=.ref a/\y=.ref b/\cj H a vs/\cj H b ws/\Q (.bl (decide (vs=ws))) H
theorem Fn{a b:Addr}{vs ws:List (List Nat)}{H:Hp}{Q:VK}(h1:cj H a vs)(h2:cj H b ws)(q:Q (.bl (decide (vs=ws))) H):Ca (.ref a) (.ref b) H Q:=⟨a,b,vs,ws,rfl,rfl,h1,h2,q⟩
noncomputable def uL:List V->Hp->VK->Prop:=fun xs H Q=>∃(p:Addr)(n:Nat),xs=[.ref p]/\H p=some (.rng 0 (n:Int))/\n<=1000000/\New H (.tup ((F5 n).map fun(i:Nat)=>V.int ((i:Nat):Int))) fun p H2=>Q (.ref p) H2
noncomputable def CK(ta:TA):TE:=tCB uL (aa (tCB yI ta) af)
theorem Fo{H:Hp}{Q:VK}{n:Nat}(hn:n<=1000000)(h:New H (.tup ((F5 n).map fun(i:Nat)=>V.int ((i:Nat):Int))) fun p H2=>Q (.ref p) H2):New H (.rng 0 (n:Int)) fun p H2=>uL [.ref p] H2 Q:=
 fun p H' _ s e=>⟨p,n,rfl,e,hn,fun l H2 hl s2 e2=>h l H2 (s.free hl) (s.trans s2) e2⟩
theorem EO{σ:St}{H:Hp}{Q:VK}{ta:TA}(h:ta σ H fun vs H1=>∃n:Nat,vs=[.int (n:Int)]/\n<=1000000/\New H1 (.rng 0 (n:Int)) fun p H2=>uL [.ref p] H2 Q):CK ta σ H Q:=h
section
variable{g:CF TG}{tt:CF TT}{te:CF TE}{σ₀:St}{Q:VK}{H:Hp}{K:Fg}
end
section
open KF
noncomputable def pi(H:Hp)(p:Addr)(sys:List Sy):Prop:=∃xs:List V,H p=some (.lst xs)/\Paired (aD H) xs sys
theorem pi.same{H H':Hp}{p:Addr}{sys:List Sy}(h:pi H p sys)(s:ah H H'):pi H' p sys:=let⟨xs,e,q⟩:=h;⟨xs,s _ _ e,Paired.mapP q fun _ _ z=>z.keep s.keep⟩
theorem pi.kp{M:List Addr}{H H':Hp}{p:Addr}{sys:List Sy}(h:pi H p sys)(a:Kp M H H')(n:p∉M):pi H' p sys:=let⟨xs,e,q⟩:=h;⟨xs,a.lst n e,Paired.mapP q fun _ _ z=>z.keep a.keep⟩
theorem tK{sys:List Sy}{j:Nat}(h:0<sys.length):sys[j%sys.length]?=some (eO sys j):=by
 unfold eO;rw[FO,FN (Nat.mod_lt _ h)];rfl
theorem oN{α β:Type}{F:α->β->Prop}:∀{xs:List α} {ys:List β} {i:Nat} {y:β},Paired F xs ys->ys[i]?=some y->∃x,xs[i]?=some x/\F x y
 |_,_,_,_,.nil,e=>by simp at e
 |_,_,0,_,.cons r _,e=>by simp at e;subst e;exact⟨_,rfl,r⟩
 |_,_,i+1,y,.cons _ t,e=>by
  obtain⟨u,h1,h2⟩:=oN (i:=i) (y:=y) t (by simpa using e);exact⟨u,by simpa using h1,h2⟩
noncomputable def AZ(H0 H:Hp)(p:Addr)(n:Nat)(f:Nat->Nat->Prop)(L:Nat):Prop:=∃rs:List Addr,H p=some (.lst (rs.map V.ref))/\Paired (fun(r:Addr)(i:Nat)=>H r=some (.lst (blV n (f i)))/\r≠p/\H0 r=none) rs (F5 L)
noncomputable def nW(_:Fg)(G:GF):Sp:=fun vs H Q _=>∃(M:List Addr)(x pv pe sl:Addr)(T:TM)(sys:List Sy)(turns:Nat),vs=[.ref x,.ref sl,.int turns]/\Tb G M H x pv pe T/\pi H sl sys/\0<sys.length/\(∀s∈sys,s.Ok T.c T.k/\s.words<=30)/\turns<=100/\T.ds.length<=500/\
 ∀(p:Addr)(L:Nat) H',H p=none->ah H H'->AZ H H' p T.n (T.told sys) L->T.Len sys turns L->Q (.ref p) H'
noncomputable def qA(K:Fg)(G:GF):TS:=(ap (az (d2 G.Table "again" (iw K G) [] E0 (ab 0) af) (ai 3))
 (ap (az (CK (aa (dv K (ab 3) "hands") af)) (ai 4))
 (ap (az (cX af) (ai 5))
 (ap (az (tC (.int 0)) (ai 6))
 (ap (jN (uY (ba (tOp (rI0 fun i j=>.bl (decide (i<j))) (tCB (cH K) (aa (ab 5) af)) (ab 2))) (ba (tOp (rI0 fun i j=>.bl (decide (i<j))) (ab 6) (tCB (cH K) (aa (ab 1) af))))) (ap (az (tCB (gC K) (aa (dv K (ab 3) "views") af)) (ai 7))
 (ap (dY (tBM K "list" fo (ab 5) (aa (d2 G.Table "word" (d9 K G) [] E0 (ab 3) (aa (ab 4) (aa (tOp (b9 K) (ab 1) (tOp (rI (fun _ j=>0<j) fun i j=>.int (i%j)) (tCB (cH K) (aa (ab 5) af)) (tCB (cH K) (aa (ab 1) af)))) af))) af)))
 (az (tIf (ba (tOp Ca (dv K (ab 3) "views") (ab 7))) (tOp (rI0 fun i j=>.int (i+j)) (ab 6) (tC (.int 1))) (tC (.int 0))) (ai 6)))))
 (aG (ab 5)))))))
noncomputable abbrev EQ:List Str:=["table","sayings","turns","own","everyone","told","still","before"]
theorem Dy{K:Fg}{G:GF}(ct:mZ K G.Table){vs:List V}{H:Hp}{Q:VK}{E:XK}(h:nW K G vs H Q E):qA K G { nx:=fun _ H'=>Q .non H',rt:=Q } (start EQ vs) H:=by
 obtain⟨M,x,pv,pe,sl,T,sys,turns,rfl,t,hsl,h0,hsys,ht,hds,q⟩:=h;have hk5:T.k<=5:=t.ok.pk.l5;show qA K G _ [some _,some _,some _,none,none,none,none,none] _;unfold qA;right;obtain⟨dx1,fs1,hx1,hl1⟩:=t.at "again" (by decide+kernel) (by decide+kernel) (by decide+kernel) (by decide+kernel) (by decide+kernel) (by decide+kernel);refine fO ?_;right;refine⟨x,dx1,fs1,rfl,hx1,hl1,?_⟩;right;refine⟨M,x,pv,pe,T,rfl,t,fun x' pv' pe' H1 hx' hpv' hpe' s1 t1=>?_⟩;right;refine EO ?_;right;refine cM ?_;right;obtain⟨dx,pd,ps,qs,es,X⟩:=t1.ex;refine⟨x',G.Table,dx,_,_,rfl,X.hx,ct.cl,ct.n4,rfl,?_⟩;right;refine⟨T.k,rfl,by omega,Fo (by omega) fun tp H2 htp s2 e2=>?_⟩;have e2':H2 tp=some (.tup (aq (F5 T.k))):=e2;right;refine⟨by simp[FV],fun p H3 hp s3 e3=>?_⟩;right;have t3:Tb G (p::pv'::pe'::M) H3 x' pv' pe' T:=(t1.same s2).grow (N:=[p]) s3 (fun b hb=>by rw[FR.mp hb];exact hp) (fun b hb=>by rw[FR.mp hb,e3];exact fun z=>nomatch z);have s13:=(s1.trans s2).trans s3;have hp0:H p=none:=s1.free (s2.free hp);have npv:pv'≠p:=fun z=>by
  have:=(t1.same s2).al pv' F2;rw[z]at this;exact this hp
 have npe:pe'≠p:=fun z=>by
  have:=(t1.same s2).al pe' (FX _ F2);rw[z]at this;exact this hp
 obtain⟨xs,exs,hxs⟩:=hsl;have lxs:xs.length=sys.length:=GJ hxs;have new3:∀b∈[p,pv',pe'],H b=none:=fun b hb=>by
  rcases FW.mp hb with z|z
  ·rw[z];exact hp0
  ·rcases FW.mp z with z|z
   ·rw[z];exact hpv'
   ·rw[FR.mp z];exact hpe'
 refine uF (fun m σ H4=>∃(j:Nat)(u:Option V)(rs:List Addr),m=turns-j/\j<=turns/\σ=[some (.ref x),some (.ref sl),some (.int turns),some (.ref x'),some (.ref tp),some (.ref p),some (.int (T.still sys j:Nat)),u]/\ah H H4/\H4 tp=some (.tup (aq (F5 T.k)))/\Tb G (p::pv'::pe'::M) H4 x' pv' pe' (T.turn sys j)/\H4 p=some (.lst (rs.map V.ref))/\Paired (fun(r:Addr)(i:Nat)=>H4 r=some (.lst (blV T.n (T.told sys i)))/\r∉p::pv'::pe'::M/\H r=none) rs (F5 j)/\∀i,i<j->T.still sys i<sys.length) turns ⟨0,none,[],by omega,GH _,rfl,s13,s3 _ _ e2',t3,e3,.nil,fun i hi=>absurd hi (JH _)⟩ ?_;rintro m σ H4 ⟨j,u,rs,rfl,hj,rfl,s4,e4,t4,ep4,p4,hgo⟩;have lrs:rs.length=j:=by rw[GJ p4,G5]
 right;rw[FQ,lrs];have fin:(j=turns\/sys.length<=T.still sys j)->Q (.ref p) H4:=fun z=>q p j H4 hp0 s4 ⟨rs,ep4,Paired.mapP p4 fun r i ⟨z1,z2,z3⟩=>⟨z1,fun y=>z2 (by rw[y];exact F2),z3⟩⟩ ⟨hj,hgo,z⟩;refine cT (fun c1=>?_) (fun c1=>?_)
 ·right
  refine j6 (ys:=xs) (SqL.of (s4 _ _ exs)) ?_;right;rw[lxs];refine cT (fun c2=>?_) (fun c2=>?_)
  ·refine uE ?_
   have hjt:j<turns:=by omega
   have hst:T.still sys j<sys.length:=by omega
   right;refine cM ?_;right;obtain⟨dx4,pd4,ps4,qs4,es4,X4⟩:=t4.ex;refine⟨x',G.Table,dx4,_,_,rfl,X4.hx,ct.cl,ct.n5,rfl,?_⟩;right;refine kM (SqL.of X4.vs) fun b H5 hb s5 e5=>?_;have t5:=t4.same s5;right;refine⟨.inl ⟨rfl,_,SqL.of (s5 _ _ ep4)⟩,?_⟩;right;obtain⟨dx5,fs5,hx5,hl5⟩:=t5.at "word" (by decide+kernel) (by decide+kernel) (by decide+kernel) (by decide+kernel) (by decide+kernel) (by decide+kernel);refine fO ?_;right;refine⟨x',dx5,fs5,rfl,hx5,hl5,?_⟩;right;refine j6 (ys:=rs.map V.ref) (SqL.of (s5 _ _ ep4)) ?_;right;refine j6 (ys:=xs) (SqL.of (s5 _ _ (s4 _ _ exs))) ?_;right;rw[FQ,lrs,lxs];obtain⟨v,hv,iv⟩:=oN hxs (tK (sys:=sys) (j:=j) h0);rw[show((j:Int)%(sys.length:Int))=((j%sys.length:Nat):Int)from rfl];refine bH (SqL.of (s5 _ _ (s4 _ _ exs))) (dh hv) ?_;right;obtain⟨ok1,ok2⟩:=hsys (eO sys j) (F0 (tK h0));have hdj:=xW T sys j;refine⟨_,x',pv',pe',tp,T.turn sys j,F5 T.k,v,eO sys j,rfl,t5,s5 _ _ e4,J7,fun h hh=>by rw[jh];exact Gr.mp hh,iv.keep (s4.trans s5).keep,by rw[jh,(jg T sys j).1];exact ok1,ok2,by omega,wl fun p6 H6 hp6 k6 e6 t6=>?_⟩;rw[AY]at e6;right;have n6:p∉[pv',pe']:=fun z=>by
    rcases FW.mp z with z|z
    ·exact npv z.symm
    ·exact npe (FR.mp z).symm
   have ep6:=k6.lst n6 (s5 _ _ ep4);refine ik ep6 (by rw[FQ,FV];omega) fun H7 o7 e7=>?_;have k7:Kp [p] H6 H7:=(Kp.of (ah.refl H6)).off ep6 (FR.mpr rfl) o7 e7;have t7:=t6.kp k7 (fun b hb=>by rw[FR.mp hb];exact F2) (fun z=>npv (FR.mp z)) (fun z=>npe (FR.mp z));have p6M:p6∉p::pv'::pe'::M:=t5.off hp6;have k57:Kp [p,pv',pe'] H5 H7:=(k6.mono fun b hb=>FX _ hb).trans (k7.mono fun b hb=>by rw[FR.mp hb];exact F2);have sub3:∀b∈[p,pv',pe'],b∈p::pv'::pe'::M:=fun b hb=>by
    rcases FW.mp hb with z|z
    ·rw[z];exact F2
    ·rcases FW.mp z with z|z
     ·rw[z];exact FX _ F2
     ·rw[FR.mp z];exact FX _ (FX _ F2)
   have bM:b∉p::pv'::pe'::M:=t4.off hb;right;refine cM ?_;right;obtain⟨dx7,pd7,ps7,qs7,es7,X7⟩:=t7.ex;refine⟨x',G.Table,dx7,_,_,rfl,X7.hx,ct.cl,ct.n5,rfl,?_⟩;right;have vb:cj H7 b (T.turn sys j).vw:=⟨qs4,k57.lst (fun z=>bM (sub3 _ z)) e5,Paired.mapP X4.qv fun _ _ ⟨z1,z2⟩=>k57.lst (fun z=>z2 (sub3 _ z)) (s5 _ _ z1)⟩;have vn:cj H7 pv' (T.turn sys (j+1)).vw:=⟨qs7,X7.vs,Paired.mapP X7.qv fun _ _ z=>z.1⟩;refine Fn vn vb ?_;have s7:ah H H7:=k57.new (s4.trans s5) new3;have done:∀z:Nat,z=T.still sys (j+1)->∃m',m'<turns-j/\∃(j':Nat)(u:Option V)(rs:List Addr),m'=turns-j'/\j'<=turns/\[some (.ref x),some (.ref sl),some (.int turns),some (.ref x'),some (.ref tp),some (.ref p),some (.int (z:Nat)),some (.ref b)]=[some (.ref x),some (.ref sl),some (.int turns),some (.ref x'),some (.ref tp),some (.ref p),some (.int (T.still sys j':Nat)),u]/\ah H H7/\H7 tp=some (.tup (aq (F5 T.k)))/\Tb G (p::pv'::pe'::M) H7 x' pv' pe' (T.turn sys j')/\H7 p=some (.lst (rs.map V.ref))/\Paired (fun(r:Addr)(i:Nat)=>H7 r=some (.lst (blV T.n (T.told sys i)))/\r∉p::pv'::pe'::M/\H r=none) rs (F5 j')/\∀i,i<j'->T.still sys i<sys.length:=by
    intro z hz;refine⟨turns-(j+1),by omega,j+1,some (.ref b),rs++[p6],rfl,hjt,by rw[hz],s7,k57.tup (s5 _ _ e4),t7,by rw[e7,Gj];rfl,?_,fun i hi=>?_⟩
    ·rw[Iv]
     refine wg (Paired.mapP p4 fun r i ⟨z1,z2,z3⟩=>⟨k57.lst (fun y=>z2 (sub3 _ y)) (s5 _ _ z1),z2,z3⟩) ⟨k7.lst (fun y=>p6M (by rw[FR.mp y];exact F2)) e6,p6M,(s4.trans s5).free hp6⟩
    ·by_cases y:i=j
     ·rw[y];exact hst
     ·exact hgo i (by omega)
   by_cases c3:(T.turn sys (j+1)).vw=(T.turn sys j).vw
   ·rw[decide_eq_true c3]
    right;refine done (T.still sys j+1) ?_;show _=if _ then _ else _
    rw[if_pos c3]
   ·rw[decide_eq_false c3]
    right;refine done 0 ?_;show _=if _ then _ else _
    rw[if_neg c3]
  ·right
   exact fin (.inr (by omega))
 ·right
  exact fin (.inl (by omega))
end
section
variable{K:Fg}{vs:List V}{H:Hp}{Q:VK}{E:XK}
open KF
set_option genInjectivity false in
inductive Dd where
 |word (g:List Nat) (s:Sy)
 |show(i:Nat) (h:Int) (ns:List Int)
noncomputable def yS(N:Addr->Prop)(H:Hp)(v:V):Dd->Prop
 | .word g s=>∃a b x,v=.ref a/\H a=some (.tup [.str "word",.ref b,x])/\H b=some (.tup (aq g))/\aD H x s
 | .show i h ns=>∃a l,v=.ref a/\H a=some (.tup [.str "show",.int i,.int h,.ref l])/\H l=some (.lst (ns.map V.int))/\N l
noncomputable def Dd.Ok(c k:Nat):Dd->Prop
 | .word g s=>g.Pairwise (· < ·)/\(∀h∈g,h<k)/\s.Ok c k/\s.words<=20
 | .show i h ns=>i<k/\0<=h/\h<=k/\ns.length<6/\∀n∈ns,0<=n/\n<c
noncomputable def TM.deed(T:TM):Dd->TM
 | .word g s=>T.word g s
 | .show i h ns=>T.show i h ns
noncomputable def TM.dtold(T:TM):Dd->List V
 | .word g s=>blV T.n (T.tr s)
 | .show i h ns=>(wn T.ws h ns).map iaR
theorem yS.to{N N':Addr->Prop}{H H':Hp}{v:V}{d:Dd}(h:yS N H v d)(k:dg H H')(f:∀l xs,N l->H l=some (.lst xs)->H' l=some (.lst xs)/\N' l):yS N' H' v d:=by
 cases d with
 |word g s=>obtain⟨a,b,x,e,h1,h2,h3⟩:=h;exact⟨a,b,x,e,k _ _ h1,k _ _ h2,h3.keep k⟩
 |«show» i hh ns=>obtain⟨a,l,e,h1,h2,h3⟩:=h;exact⟨a,l,e,k _ _ h1,(f _ _ h3 h2).1,(f _ _ h3 h2).2⟩
end
section
open KF
theorem tL(T:TM)(ok:T.Ok)(s:Sy){h:Nat}(hh:h<T.k):(T.word (F5 T.k) s).vw.getD h []=da (T.vw.getD h []) (blA T.n (T.tr s)):=by
 show(lrn T.vw (F5 T.k) _).getD h []=_;rw[rW _ _ _ h LH (by rw[ok.len];exact hh),if_pos (Gr.mpr hh)]
theorem cP{T:TM}(ok:T.Ok){h:Nat}(hh:h<T.k):Within T.n (T.vw.getD h []):=by
 have hl:h<T.vw.length:=by rw[ok.len];exact hh
 refine ok.win _ ?_;rw[FO,FN hl];exact Hq hl
theorem wo{P:Nat->Nat->Prop}{R:Nat->Prop}(h:∀x y,P x y->(R x↔R y)){i j:Nat}(c:bD P i j):R i↔R j:=by
 induction c with
 |refl=>exact Iff.rfl
 |one h1=>exact h _ _ h1
 |symm _ ih=>exact ih.symm
 |trans _ _ ih1 ih2=>exact ih1.trans ih2
theorem lS{T:TM}(ok:T.Ok){h:Nat}(hh:h<T.k){P:Nat->Prop}{x y:Nat}(hx:x<T.n)(hy:y<T.n):(da (T.vw.getD h []) (blA T.n P))[x]?=(da (T.vw.getD h []) (blA T.n P))[y]?↔(T.vw.getD h [])[x]?=(T.vw.getD h [])[y]?/\(P x↔P y):=by
 have w:=cP ok hh;have hl:(T.vw.getD h []).length=(blA T.n P).length:=by rw[w.1,gx]
 unfold da;rw[mX (by rw[Iw,w.1,gx,Ju];exact hx) (by rw[Iw,w.1,gx,Ju];exact hy),xR hl (by rw[w.1];exact hx) (by rw[w.1];exact hy),xT hx hy]
theorem dW{v:List Nat}{n i j:Nat}(hl:v.length=n)(hi:i<n)(hj:j<n):v.getD j 0=v.getD i 0↔v[j]?=v[i]?:=by
 rw[FO,FO,FN (show j<v.length by omega),FN (show i<v.length by omega)];exact⟨fun h=>congrArg some h,fun h=>F1 h⟩
end
section
open KF
open Classical in
noncomputable def FL(f:Nat->Nat->Prop)(n k:Nat):List Nat:=(F5 n).filter fun i=>decide (f i k)
open Classical in
section
variable{f:Nat->Nat->Prop}{many i j k:Nat}
end
noncomputable def Dbt(n:Nat)(ps:List (List Int))(v:List Nat)(i:Nat):Prop:=∃o,o<n/\v.getD o 0=v.getD i 0/\ps.getD o []≠ps.getD i []
theorem nX{n:Nat}{v:List Nat}(hw:Within n v)(hc:aM v=v){i:Nat}(hi:i<n):v.getD (v.getD i 0) 0=v.getD i 0/\v.getD i 0<n:=by
 obtain⟨h1,h2⟩:=d6 hw hi;have:=(AO hc h1).1;rw[h1]at this;refine⟨?_,h2⟩;rw[FO (i:=v.getD i 0),<-this];rfl
theorem wp{n:Nat}{ps:List (List Int)}{v:List Nat}(hw:Within n v)(hc:aM v=v){i:Nat}(hi:i<n):KN n v (uK n ps v) i↔¬Dbt n ps v i:=by
 constructor
 ·rintro h ⟨o,ho,e,ne⟩
  have a:ps.getD o []=ps.getD (v.getD o 0) []:=h o ho e;have b:ps.getD i []=ps.getD (v.getD i 0) []:=h i hi rfl;rw[e]at a;exact ne (a.trans b.symm)
 ·intro h o ho e
  obtain⟨r1,r2⟩:=nX hw hc hi;have nd:∀o,o<n->v.getD o 0=v.getD i 0->ps.getD o []=ps.getD i []:=fun o ho e=>Classical.byContradiction fun z=>h ⟨o,ho,e,z⟩;show ps.getD o []=ps.getD (v.getD o 0) [];rw[nd o ho e,e,nd _ r2 r1]
end
end L2
section
namespace KM
theorem m7(room:List Nat):∀(i:Nat)(w:List Nat),w.length=i->(∀j∈w,j<room.length)->(∀j,w.count j<=room.getD j 0)->w∈aW room i
 |0,w,hl,_,_=>by
  rw[JV.mp hl];exact FR.mpr rfl
 |i+1,w,hl,hj,hc=>by
  obtain⟨v,x,rfl⟩:∃v x,w=v++[x]:=⟨w.dropLast,w.getLast (by intro e;rw[e]at hl;simp at hl),(List.dropLast_concat_getLast _).symm⟩;have hv:v.length=i:=by simp at hl;exact hl
  have hx:x<room.length:=hj x (by simp);have cx:=hc x;rw[Jp,Lr]at cx;show v++[x]∈(aW room i).flatMap _;refine Kg.mpr ⟨v,m7 room i v hv (fun j h=>hj j (G8 _ h)) (fun j=>?_),Gh.mpr ⟨x,?_,rfl⟩⟩
  ·have:=hc j
   rw[Jp]at this;omega
  ·unfold ka
   exact Ip.mpr ⟨Gr.mpr hx,decide_eq_true (by omega)⟩
end KM
end
section
set_option maxRecDepth 10000
namespace KM
theorem xX:∀x:List Nat,lex x x=false
 | []=>rfl
 |a::x=>by
  show(if a=a then lex x x else decide (a<a))=false;rw[if_pos rfl];exact xX x
theorem kF(room:List Nat)(i:Nat):(aW room i).Nodup:=(mP room i).imp fun{x y} h e=>by
 rw[e,xX]at h;cases h
theorem lT{α:Type}[DecidableEq α]:∀{l m:List α},l.Nodup->(∀x∈l,x∈m)->l.length=m.length->l.Perm m
 | [],m,_,_,h=>by rw[List.eq_nil_of_length_eq_zero h.symm]
 |x::l,m,nd,sub,h=>by
  rw[Hi]at nd;have hx:=sub x F2;have p:=List.perm_cons_erase hx;have hl:l.length=(m.erase x).length:=by
   have:=p.length_eq;simp at this h;omega
  have q:=lT nd.2 (fun y hy=>(MH (fun e:y=x=>nd.1 (e▸hy))).mpr (sub y (FX _ hy))) hl;exact(Ou.cons x q).trans p.symm
theorem yT{r s:List Nat}(p:r.Perm s):bT r=bT s:=by
 unfold bT;exact(p.map aR).foldr_eq' (fun x _ y _ z=>Ig y x z) 1
theorem sf{r s:List Nat}(p:r.Perm s):(aW r r.sum).length=(aW s s.sum).length:=by
 have h1:=mO r;have h2:=mO s;rw[yT p,p.sum_nat]at h1;have hp:=mN s;rw[<-h1]at h2;rw[p.sum_nat];exact(JC hp h2).symm
theorem Cb{room:List Nat}{i:Nat}{w:List Nat}(b:yC room i w)(j:Nat):w.count j<=room.getD j 0:=by
 by_cases h:j<room.length
 ·exact b.cnt j h
 ·rw[KB fun z=>h (b.all j z)]
  exact GH _
theorem ki{α β:Type}{f:α->β}{l:List α}(nd:l.Nodup)(inj:∀x∈l,∀y∈l,f x=f y->x=y):(l.map f).Nodup:=by
 induction l with
 |nil=>exact Mq
 |cons a l ih=>
  rw[Hi]at nd;rw[F6,Hi];refine⟨fun z=>?_,ih nd.2 fun x hx y hy=>inj x (FX _ hx) y (FX _ hy)⟩;obtain⟨b,hb,e⟩:=Gh.mp z;exact nd.1 (inj b (FX _ hb) a F2 e▸hb)
structure cp(t:List Nat)(n:Nat):Prop where
 pm:t.Perm (F5 n)
theorem cp.len{t:List Nat}{n:Nat}(h:cp t n):t.length=n:=by rw[h.pm.length_eq,G5]
theorem cp.lt{t:List Nat}{n i:Nat}(h:cp t n)(hi:i<n):t.getD i 0<n:=by
 have:t.getD i 0∈t:=by
  rw[FO,FN (by rw[h.len];exact hi)];exact Hq _
 exact Gr.mp (h.pm.mem_iff.mp this)
theorem cp.inj{t:List Nat}{n i j:Nat}(h:cp t n)(hi:i<n)(hj:j<n)(e:t.getD i 0=t.getD j 0):i=j:=by
 have nd:t.Nodup:=h.pm.nodup_iff.mpr LH;rw[FO,FO,FN (by rw[h.len];exact hi),FN (by rw[h.len];exact hj)]at e;exact(NP nd).mp e
theorem cp.onto{t:List Nat}{n k:Nat}(h:cp t n)(hk:k<n):∃i,i<n/\t.getD i 0=k:=by
 have:k∈t:=h.pm.mem_iff.mpr (Gr.mpr hk);obtain⟨i,hi⟩:=MG this;refine⟨i,by rw[<-h.len];exact(FS.mp hi).1,?_⟩;rw[FO,hi];rfl
theorem cW(w:List Nat):(F5 w.length).map (fun i=>w.getD i 0)=w:=by
 refine GW fun i=>?_;rw[FZ];by_cases h:i<w.length
 ·rw[GO h,FN h]
  simp[FO,FN h]
 ·rw[Gd (by simpa using h),Gd (by omega)]
  rfl
theorem xm{t room others:List Nat}(h:cp t room.length)(hl:others.length=room.length)(ho:∀i,i<room.length->others.getD (t.getD i 0) 0=room.getD i 0):room.Perm others:=by
 have e1:t.map (fun k=>others.getD k 0)=room:=by
  refine GW fun i=>?_;rw[FZ];by_cases hi:i<room.length
  ·have ht:i<t.length:=by rw[h.len];exact hi
   have e:=ho i hi;rw[FN ht,FN hi];simp only[FO,FN ht,FN hi,Option.getD_some]at e;simp only[JG,FO];rw[e]
  ·rw[Gd (by rw[h.len];omega),Gd (by omega)]
   rfl
 have e2:(F5 room.length).map (fun k=>others.getD k 0)=others:=by rw[<-hl];exact cW others
 have:=h.pm.map fun k=>others.getD k 0;rw[e1,e2]at this;exact this
theorem ml{f:Nat->Nat}:∀{w:List Nat} {i:Nat},(∀j∈w,f j=f i->j=i)->(w.map f).count (f i)=w.count i
 | [],_,_=>rfl
 |a::w,i,h=>by
  rw[F6,Kw,Kw,ml fun j hj=>h j (FX _ hj)];by_cases e:a=i
  ·rw[e]
   simp
  ·have:f a≠f i:=fun z=>e (h a F2 z)
   simp[e,this]
theorem turned{t room others:List Nat}(h:cp t room.length)(hl:others.length=room.length)(ho:∀i,i<room.length->others.getD (t.getD i 0) 0=room.getD i 0):((aW room room.sum).map fun w=>w.map fun j=>t.getD j 0).Perm (aW others room.sum):=by
 have pp:=xm h hl ho;refine lT (ki (kF _ _) fun x hx y hy e=>?_) (fun v hv=>?_) (by rw[FQ,sf pp,pp.sum_nat])
 ·have bx:=bB _ _ x hx
  have by':=bB _ _ y hy;refine GW fun i=>?_;have ei:=congrArg (fun l:List Nat=>l[i]?) e;simp only[FZ]at ei;cases q:x[i]? with
  |none=>
   rw[q]at ei;cases q2:y[i]? with
   |none=>rfl
   |some b=>rw[q2]at ei;cases ei
  |some a=>
   rw[q]at ei;cases q2:y[i]? with
   |none=>rw[q2]at ei;cases ei
   |some b=>
    rw[q2]at ei;rw[h.inj (bx.all a (F0 q)) (by'.all b (F0 q2)) (F1 ei)]
 ·obtain⟨w,hw,rfl⟩:=Gh.mp hv
  have b:=bB _ _ w hw;have lt:∀j∈w.map (fun j=>t.getD j 0),j<others.length:=fun j hj=>by
   obtain⟨i,hi,rfl⟩:=Gh.mp hj;rw[hl];exact h.lt (b.all i hi)
  refine m7 others room.sum _ (by rw[FQ];exact b.len) lt fun k=>?_;by_cases hk:k<room.length
  ·obtain⟨i,hi,rfl⟩:=h.onto hk
   rw[ml (f:=fun j=>t.getD j 0) (fun j hj e=>h.inj (b.all j hj) hi e),ho i hi];exact b.cnt i hi
  ·rw[KB fun z=>hk (hl▸lt k z)]
   exact GH _
theorem ER{p room:List Nat}(h:cp p room.sum):((aW room room.sum).map fun w=>p.map fun i=>w.getD i 0).Perm (aW room room.sum):=by
 refine lT (ki (kF _ _) fun x hx y hy e=>?_) (fun v hv=>?_) (by rw[FQ])
 ·have bx:=bB _ _ x hx
  have by':=bB _ _ y hy;have at_:∀i,i<room.sum->x.getD i 0=y.getD i 0:=fun i hi=>by
   have:i∈p:=h.pm.mem_iff.mpr (Gr.mpr hi);exact(List.map_inj_left.mp e) i this
  rw[<-cW x,<-cW y,bx.len,by'.len];exact Hy fun i hi=>at_ i (Gr.mp hi)
 ·obtain⟨w,hw,rfl⟩:=Gh.mp hv
  have b:=bB _ _ w hw;have pm:(p.map fun i=>w.getD i 0).Perm w:=by
   have:=h.pm.map fun i=>w.getD i 0;rw[<-b.len,cW w]at this;exact this
  exact m7 room room.sum _ (by rw[pm.length_eq];exact b.len) (fun j hj=>b.all j (pm.mem_iff.mp hj)) fun j=>by rw[pm.count_eq];exact Cb b j
end KM
end
namespace L2
open PySem PyProof.Rows
section
variable{σ:St}{H:Hp}{Q:VK}{a:Addr}{kvs:List (Key×V)}{i:Int}{v:V}
end
section
variable{g:CF TG}{tt:CF TT}{te:CF TE}{σ₀:St}{Q:VK}{H:Hp}
end
noncomputable def sg:V->List V->Hp->VK->Prop:=fun x vs H Q=>∃(l:Addr)(xs:List V)(k:Nat)(y:V),x=.ref l/\vs=[.int (k:Int),y]/\H l=some (.lst xs)/\xs.length<FY/\k<=xs.length/\Q .non (upd H l (.lst (xs.take k++y::xs.drop k)))
theorem Cc{H:Hp}{Q:VK}{l:Addr}{xs:List V}{k:Nat}{y:V}(e:H l=some (.lst xs))(hz:xs.length<FY)(hk:k<=xs.length)(h:∀H',Off l H H'->H' l=some (.lst (xs.take k++y::xs.drop k))->Q .non H'):sg (.ref l) [.int (k:Int),y] H Q:=⟨l,xs,k,y,rfl,rfl,e,hz,hk,h _ fq av⟩
theorem CL{α:Type}[DecidableEq α]:∀{l m:List α},l.Nodup->(∀x∈l,x∈m)->l.length<=m.length
 | [],m,_,_=>GH _
 |x::l,m,nd,h=>by
  have hx:=h x (by simp);rw[Hi]at nd;have:=CL (m:=m.erase x) nd.2 fun y hy=>(MH (fun(e:y=x)=>nd.1 (e▸hy))).mpr (h y (by simp[hy]));rw[List.length_erase_of_mem hx]at this;have hp:0<m.length:=List.length_pos_of_mem hx;simp only[Gm];omega
section
open KF
noncomputable def Sy.bend(t:List Nat):Sy->Sy
 | .holds w c=>.holds w (t.getD c 0)
 | .sees h=>.sees h
 | .not s=>.not (s.bend t)
 | .and s u=>.and (s.bend t) (u.bend t)
 | .or s u=>.or (s.bend t) (u.bend t)
 | .knows h s=>.knows h (s.bend t)
 | .all g s=>.all g (s.bend t)
 | .common g s=>.common g (s.bend t)
theorem cg(t:List Nat):∀s:Sy,(s.bend t).words=s.words
 | .holds _ _=>rfl
 | .sees _=>rfl
 | .not s=>congrArg (· +1) (cg t s)
 | .and s u=>by show(s.bend t).words+(u.bend t).words+1=_;rw[cg t s,cg t u];rfl
 | .or s u=>by show(s.bend t).words+(u.bend t).words+1=_;rw[cg t s,cg t u];rfl
 | .knows _ s=>congrArg (· +1) (cg t s)
 | .all _ s=>congrArg (· +1) (cg t s)
 | .common _ s=>congrArg (· +1) (cg t s)
theorem dQ{t:List Nat}{c k:Nat}(h:KM.cp t c):∀{s:Sy},s.Ok c k->(s.bend t).Ok c k
 | .holds _ _,o=>⟨o.1,h.lt o.2⟩
 | .sees _,o=>o
 | .not s,o=>dQ h (s:=s) o
 | .and s u,o=>⟨dQ h (s:=s) o.1,dQ h (s:=u) o.2⟩
 | .or s u,o=>⟨dQ h (s:=s) o.1,dQ h (s:=u) o.2⟩
 | .knows _ s,o=>⟨o.1,dQ h (s:=s) o.2⟩
 | .all _ s,o=>⟨o.1,dQ h (s:=s) o.2⟩
 | .common _ s,o=>⟨o.1,dQ h (s:=s) o.2⟩
structure lU(ws:List (List Nat))(c:Nat)(t:List Nat)(f:Nat->Nat):Prop where
 lt:∀i,i<ws.length->f i<ws.length
 inj:∀i j,i<ws.length->j<ws.length->f i=f j->i=j
 onto:∀k,k<ws.length->∃i,i<ws.length/\f i=k
 card:∀i j,i<ws.length->j<c->(ws.getD (f i) []).getD (t.getD j 0) 0=(ws.getD i []).getD j 0
structure wq(n:Nat)(f:Nat->Nat)(vs us:List (List Nat)):Prop where
 len:us.length=vs.length
 al:∀h i j,h<vs.length->i<n->j<n->((vs.getD h []).getD i 0=(vs.getD h []).getD j 0↔(us.getD h []).getD (f i) 0=(us.getD h []).getD (f j) 0)
noncomputable def Vws(n:Nat)(vs:List (List Nat)):Prop:=∀v∈vs,Within n v/\aM v=v
theorem qB{n:Nat}{vs:List (List Nat)}(h:Vws n vs){k:Nat}(hk:k<vs.length):Within n (vs.getD k [])/\aM (vs.getD k [])=vs.getD k []:=by
 refine h _ ?_;rw[FO,FN hk];exact Hq hk
section
variable{ws:List (List Nat)}{c:Nat}{t:List Nat}{f:Nat->Nat}{vs us:List (List Nat)}
theorem CM(E:lU ws c t f)(R:wq ws.length f vs us){h:Nat}(hh:h<vs.length){P P':Nat->Prop}(hP:∀i,i<ws.length->(P i↔P' (f i))){i:Nat}(hi:i<ws.length):KN ws.length (vs.getD h []) P i↔KN ws.length (us.getD h []) P' (f i):=by
 constructor
 ·intro k j hj e
  obtain⟨x,hx,rfl⟩:=E.onto j hj;exact(hP x hx).mp (k x hx ((R.al h x i hh hx hi).mpr e))
 ·intro k j hj e
  exact(hP j hj).mpr (k (f j) (E.lt j hj) ((R.al h j i hh hj hi).mp e))
theorem jB(w:List Nat)(k:Nat)(h:Nat):((w.map fun(s:Nat)=>((s:Nat):Int))[k]?=some ((h:Nat):Int))↔w[k]?=some h:=by
 rw[FZ];cases w[k]? with
 |none=>simp
 |some x=>
  show some ((x:Nat):Int)=some ((h:Nat):Int)↔some x=some h;rw[Lq,Lq];omega
theorem tM{w:List Nat}{k h:Nat}:(((k:Nat):Int)∈cf w ((h:Nat):Int))↔w[k]?=some h:=by
 unfold cf kD;rw[Gh];constructor
 ·rintro⟨j,hj,e⟩
  have:j=k:=by omega
  subst this;exact(jB w j h).mp (of_decide_eq_true (Ip.mp hj).2)
 ·intro e
  refine⟨k,Ip.mpr ⟨Gr.mpr (FS.mp e).1,decide_eq_true ((jB w k h).mpr e)⟩,rfl⟩
theorem tN{w w':List Nat}{h c:Nat}(hl:w.length=c)(hl':w'.length=c):cf w ((h:Nat):Int)=cf w' ((h:Nat):Int)↔∀k:Nat,k<c->(w.getD k 0=h↔w'.getD k 0=h):=by
 have at_:∀{w:List Nat},w.length=c->∀k,k<c->(w[k]?=some h↔w.getD k 0=h):=fun{w} hl k hk=>by
  rw[FO,FN (show k<w.length by omega)];exact⟨fun e=>F1 e,fun e=>congrArg some e⟩
 constructor
 ·intro e k hk
  rw[<-at_ hl k hk,<-at_ hl' k hk,<-tM,<-tM,e]
 ·intro e
  unfold cf kD;rw[hl,hl']
  congr 1
  refine Nz fun k hk=>?_;have hk':=Gr.mp hk;refine decide_eq_decide.mpr ?_;rw[jB,jB,at_ hl k hk',at_ hl' k hk'];exact e k hk'
theorem si(E:lU ws c t f)(ht:KM.cp t c)(hw:∀w∈ws,w.length=c)(k:Nat){i j:Nat}(hi:i<ws.length)(hj:j<ws.length):(ws.map fun w=>cf w (k:Int)).getD i []=(ws.map fun w=>cf w (k:Int)).getD j []↔(ws.map fun w=>cf w (k:Int)).getD (f i) []=(ws.map fun w=>cf w (k:Int)).getD (f j) []:=by
 have g:∀x,x<ws.length->(ws.map fun w=>cf w (k:Int)).getD x []=cf (ws.getD x []) (k:Int):=fun x hx=>by
  rw[FO,FZ,FO,FN hx];rfl
 have l:∀x,x<ws.length->(ws.getD x []).length=c:=fun x hx=>by
  rw[FO,FN hx];exact hw _ (Hq hx)
 have fi:=E.lt i hi;have fj:=E.lt j hj;rw[g i hi,g j hj,g _ fi,g _ fj,tN (l i hi) (l j hj),tN (l _ fi) (l _ fj)];constructor
 ·intro h x hx
  obtain⟨y,hy,rfl⟩:=ht.onto hx;rw[E.card i y hi hy,E.card j y hj hy];exact h y hy
 ·intro h x hx
  have:=h _ (ht.lt hx);rw[E.card i x hi hx,E.card j x hj hx]at this;exact this
theorem ES(E:lU ws c t f)(ht:KM.cp t c)(hw:∀w∈ws,w.length=c)(R:wq ws.length f vs us)(k:Nat){h:Nat}(hh:h<vs.length){i:Nat}(hi:i<ws.length):Dbt ws.length (ws.map fun w=>cf w (k:Int)) (vs.getD h []) i↔Dbt ws.length (ws.map fun w=>cf w (k:Int)) (us.getD h []) (f i):=by
 constructor
 ·rintro⟨o,ho,e,ne⟩
  exact⟨f o,E.lt o ho,(R.al h o i hh ho hi).mp e,fun z=>ne ((si E ht hw k ho hi).mpr z)⟩
 ·rintro⟨o,ho,e,ne⟩
  obtain⟨x,hx,rfl⟩:=E.onto o ho;exact⟨x,hx,(R.al h x i hh hx hi).mpr e,fun z=>ne ((si E ht hw k hx hi).mp z)⟩
theorem qC{n:Nat}{g:List Nat}(V:Vws n vs){h:Nat}(hg:h∈g)(hh:h<vs.length){x y:Nat}(hx:x<n)(hy:y<n)(e:(vs.getD h []).getD x 0=(vs.getD h []).getD y 0):bD (cK n (g.map fun h=>vs.getD h [])) x y:=by
 obtain⟨w,_⟩:=qB V hh;have st:∀{z:Nat},z<n->cK n (g.map fun h=>vs.getD h []) z ((vs.getD h []).getD z 0):=fun hz=>⟨_,Gh.mpr ⟨h,hg,rfl⟩,hz,(d6 w hz).1⟩;have a:=bD.one (P:=cK n (g.map fun h=>vs.getD h [])) (st hx);rw[e]at a;exact a.trans (bD.one (st hy)).symm
theorem qD{n:Nat}{g:List Nat}(V:Vws n vs)(hg:∀h∈g,h<vs.length){x y:Nat}(s:cK n (g.map fun h=>vs.getD h []) x y):∃h∈g,x<n/\y<n/\(vs.getD h []).getD x 0=(vs.getD h []).getD y 0:=by
 obtain⟨v,hv,hx,e⟩:=s;obtain⟨h,hm,rfl⟩:=Gh.mp hv;obtain⟨w,cn⟩:=qB V (hg h hm);obtain⟨e1,e2⟩:=d6 w hx;rw[e1]at e;have ey:=F1 e;exact⟨h,hm,hx,by rw[<-ey];exact e2,by rw[<-ey];exact(nX w cn hx).1.symm⟩
theorem xY(E:lU ws c t f)(R:wq ws.length f vs us)(V:Vws ws.length vs)(U:Vws ws.length us){g:List Nat}(hg:∀h∈g,h<vs.length){x y:Nat}(hx:x<ws.length)(hy:y<ws.length):bD (cK ws.length (g.map fun h=>vs.getD h [])) x y↔bD (cK ws.length (g.map fun h=>us.getD h [])) (f x) (f y):=by
 have hg':∀h∈g,h<us.length:=fun h hh=>by rw[R.len];exact hg h hh
 constructor
 ·intro k
  refine((wo (P:=cK ws.length (g.map fun h=>vs.getD h [])) (R:=fun z=>z<ws.length/\bD (cK ws.length (g.map fun h=>us.getD h [])) (f x) (f z)) (fun a b s=>?_) k).mp ⟨hx,.refl _⟩).2;obtain⟨h,hm,ha,hb,e⟩:=qD V hg s;have cn:=qC U hm (hg' h hm) (E.lt a ha) (E.lt b hb) ((R.al h a b (hg h hm) ha hb).mp e);exact⟨fun z=>⟨hb,z.2.trans cn⟩,fun z=>⟨ha,z.2.trans cn.symm⟩⟩
 ·intro k
  have key:∀a b,cK ws.length (g.map fun h=>us.getD h []) a b->((∃z,z<ws.length/\f z=a/\bD (cK ws.length (g.map fun h=>vs.getD h [])) x z)↔∃z,z<ws.length/\f z=b/\bD (cK ws.length (g.map fun h=>vs.getD h [])) x z):=fun a b s=>by
   obtain⟨h,hm,ha,hb,e⟩:=qD U hg' s;obtain⟨p,hp,rfl⟩:=E.onto a ha;obtain⟨q,hq,rfl⟩:=E.onto b hb;have cn:=qC V hm (hg h hm) hp hq ((R.al h p q (hg h hm) hp hq).mpr e);exact⟨fun⟨z,hz,ez,cz⟩=>⟨q,hq,rfl,by rw[E.inj z p hz hp ez]at cz;exact cz.trans cn⟩,fun⟨z,hz,ez,cz⟩=>⟨p,hp,rfl,by rw[E.inj z q hz hq ez]at cz;exact cz.trans cn.symm⟩⟩
  obtain⟨z,hz,e,cz⟩:=(wo key k).mp ⟨x,hx,rfl,.refl _⟩;rw[<-E.inj z y hz hy e];exact cz
theorem jC(E:lU ws c t f)(ht:KM.cp t c)(hw:∀w∈ws,w.length=c)(R:wq ws.length f vs us)(V:Vws ws.length vs)(U:Vws ws.length us):∀{s:Sy},s.Ok c vs.length->∀i,i<ws.length->(TR ws.length ws vs s i↔TR ws.length ws us (s.bend t) (f i))
 | .holds w k,o,i,hi=>by
  show(ws.getD i []).getD k 0=w↔(ws.getD (f i) []).getD (t.getD k 0) 0=w;rw[E.card i k hi o.2]
 | .sees h,o,i,hi=>by
  have o':h<vs.length:=o;obtain⟨w1,c1⟩:=qB V o';obtain⟨w2,c2⟩:=qB U (show h<us.length by rw[R.len];exact o');show KN _ _ _ _↔KN _ _ _ _;rw[R.len,wp w1 c1 hi,wp w2 c2 (E.lt i hi)];exact not_congr (ES E ht hw R vs.length o' hi)
 | .not s,o,i,hi=>not_congr (jC E ht hw R V U (s:=s) o i hi)
 | .and s u,o,i,hi=>and_congr (jC E ht hw R V U (s:=s) o.1 i hi) (jC E ht hw R V U (s:=u) o.2 i hi)
 | .or s u,o,i,hi=>or_congr (jC E ht hw R V U (s:=s) o.1 i hi) (jC E ht hw R V U (s:=u) o.2 i hi)
 | .knows h s,o,i,hi=>CM E R o.1 (jC E ht hw R V U (s:=s) o.2) hi
 | .all g s,o,i,hi=>by
  have k:=fun h hh=>CM E R (h:=h) (o.1.2 h hh) (jC E ht hw R V U (s:=s) o.2) hi;show(∀v∈g.map (fun h=>vs.getD h []),KN _ v _ i)↔∀v∈g.map (fun h=>us.getD h []),KN _ v _ (f i);constructor
  ·intro a v hv
   obtain⟨h,hh,rfl⟩:=Gh.mp hv;exact(k h hh).mp (a _ (Gh.mpr ⟨h,hh,rfl⟩))
  ·intro a v hv
   obtain⟨h,hh,rfl⟩:=Gh.mp hv;exact(k h hh).mpr (a _ (Gh.mpr ⟨h,hh,rfl⟩))
 | .common g s,o,i,hi=>by
  have ih:=jC E ht hw R V U (s:=s) o.2;show(∀j,j<_->bD _ i j->TR _ _ _ s j)↔∀j,j<_->bD _ (f i) j->TR _ _ _ (s.bend t) j;constructor
  ·intro a j hj k
   obtain⟨x,hx,rfl⟩:=E.onto j hj;exact(ih x hx).mp (a x hx ((xY E R V U o.1.2 hi hx).mpr k))
  ·intro a j hj k
   exact(ih j hj).mpr (a (f j) (E.lt j hj) ((xY E R V U o.1.2 hi hj).mp k))
end
structure bC(T U:TM)(t:List Nat)(f:Nat->Nat):Prop where
 c:U.c=T.c
 ss:U.ss=T.ss
 ok:T.Ok
 ok':U.Ok
 ht:KM.cp t T.c
 ex:lU T.ws T.c t f
 rel:wq T.n f T.vw U.vw
theorem bC.ws{T U:TM}{t:List Nat}{f:Nat->Nat}(p:bC T U t f):U.ws=T.ws:=by unfold TM.ws;rw[p.c,p.ss]
theorem bC.n{T U:TM}{t:List Nat}{f:Nat->Nat}(p:bC T U t f):U.n=T.n:=by unfold TM.n;rw[p.ws]
theorem bC.k{T U:TM}{t:List Nat}{f:Nat->Nat}(p:bC T U t f):U.k=T.k:=by unfold TM.k;rw[p.ss]
theorem bC.tr{T U:TM}{t:List Nat}{f:Nat->Nat}(p:bC T U t f){s:Sy}(o:s.Ok T.c T.k){i:Nat}(hi:i<T.n):T.tr s i↔U.tr (s.bend t) (f i):=by
 have V:Vws T.n T.vw:=fun v hv=>⟨p.ok.win v hv,p.ok.can v hv⟩;have W:Vws T.n U.vw:=fun v hv=>⟨by rw[<-p.n];exact p.ok'.win v hv,p.ok'.can v hv⟩;unfold TM.tr;rw[p.n,p.ws];exact jC p.ex p.ht p.ok.cards p.rel V W (by rw[p.ok.len];exact o) i hi
theorem qE{T:TM}(ok:T.Ok){h:Nat}(hh:h<T.k):aM (T.vw.getD h [])=T.vw.getD h []:=by
 have hl:h<T.vw.length:=by rw[ok.len];exact hh
 refine ok.can _ ?_;rw[FO,FN hl];exact Hq hl
theorem wt{T:TM}(ok:T.Ok){g:List Nat}(pw:g.Pairwise (· < ·))(s:Sy){h:Nat}(hh:h<T.k):(T.word g s).vw.getD h []=if h∈g then da (T.vw.getD h []) (blA T.n (T.tr s))else T.vw.getD h []:=
 rW _ g T.vw h (pw.imp fun h=>GK h) (by rw[ok.len];exact hh)
theorem bC.word{T U:TM}{t:List Nat}{f:Nat->Nat}(p:bC T U t f){g:List Nat}(pw:g.Pairwise (· < ·))(hg:∀h∈g,h<T.k){s:Sy}(o:s.Ok T.c T.k):bC (T.word g s) (U.word g (s.bend t)) t f:=by
 have ok1:=p.ok.word (s:=s) hg;have ok2:=p.ok'.word (g:=g) (s:=s.bend t) (fun h hh=>by rw[p.k];exact hg h hh);refine⟨p.c,p.ss,ok1,ok2,p.ht,p.ex,⟨by rw[ok1.len,ok2.len];exact p.k,fun h i j hh hi hj=>?_⟩⟩;have hk:h<T.k:=by rw[ok1.len]at hh;exact hh
 have hk':h<U.k:=by rw[p.k];exact hk
 have base:=p.rel.al h i j (by rw[p.ok.len];exact hk) hi hj;rw[wt p.ok pw s hk,wt p.ok' pw _ hk'];by_cases m:h∈g
 ·rw[if_pos m,if_pos m]
  have fi:f i<U.n:=by rw[p.n];exact p.ex.lt i hi
  have fj:f j<U.n:=by rw[p.n];exact p.ex.lt j hj
  have w1:=cP p.ok hk;have w2:=cP p.ok' hk';rw[dW (gJ w1 (gx _ _)).1 hj hi,lS p.ok hk hi hj,dW (gJ w2 (gx _ _)).1 fj fi,lS p.ok' hk' fi fj,<-p.tr o hi,<-p.tr o hj,<-dW w1.1 hj hi,<-dW w2.1 fj fi,base]
 ·rw[if_neg m,if_neg m]
  exact base
theorem lV(t:List Nat)(sys:List Sy)(j:Nat):eO (sys.map (Sy.bend t)) j=(eO sys j).bend t:=by
 unfold eO;rw[FQ,FO,FZ,FO];cases sys[j%sys.length]? <;>rfl
theorem m8{sys:List Sy}(h:0<sys.length)(j:Nat):eO sys j∈sys:=by
 unfold eO;rw[FO,FN (Nat.mod_lt _ h)];exact Hq _
section
variable{T U:TM}{t:List Nat}{f:Nat->Nat}{sys:List Sy}
theorem bC.turn(p:bC T U t f)(h0:0<sys.length)(o:∀s∈sys,s.Ok T.c T.k):∀j,bC (T.turn sys j) (U.turn (sys.map (Sy.bend t)) j) t f
 |0=>p
 |j+1=>by
  have q:=bC.turn p h0 o j;show bC ((T.turn sys j).word (F5 T.k) (eO sys j)) ((U.turn (sys.map (Sy.bend t)) j).word (F5 U.k) (eO (sys.map (Sy.bend t)) j)) t f;rw[lV,p.k];exact q.word J7 (fun h hh=>by rw[jh];exact Gr.mp hh) (by rw[jh,(jg T sys j).1];exact o _ (m8 h0 j))
theorem bC.told(p:bC T U t f)(h0:0<sys.length)(o:∀s∈sys,s.Ok T.c T.k)(j:Nat){i:Nat}(hi:i<T.n):T.told sys j i↔U.told (sys.map (Sy.bend t)) j (f i):=by
 unfold TM.told;rw[lV];exact(p.turn h0 o j).tr (by rw[jh,(jg T sys j).1];exact o _ (m8 h0 j)) (by rw[AY];exact hi)
theorem unch{T:TM}(ok:T.Ok)(s:Sy):(T.word (F5 T.k) s).vw=T.vw↔∀h,h<T.k->∀i j,i<T.n->j<T.n->(T.vw.getD h []).getD i 0=(T.vw.getD h []).getD j 0->(T.tr s i↔T.tr s j):=by
 constructor
 ·intro e h hh i j hi hj ev
  have w:=cP ok hh;have e2:=tL T ok s hh;rw[e]at e2;have e3:=(dW w.1 hj hi).mp ev;rw[e2]at e3;exact((lS ok hh hi hj).mp e3).2
 ·intro a
  refine B5 (by show(lrn T.vw _ _).length=_;rw[nU]) fun h hh=>?_;have hk:h<T.k:=by rw[ok.len]at hh;exact hh
  have w:=cP ok hk;rw[tL T ok s hk];refine BY (qE ok hk) (by rw[w.1,gx]) fun i j hi hj e=>?_;rw[w.1]at hi hj;exact(xT hi hj).mpr (a h hk i j hi hj ((dW w.1 hj hi).mpr e))
theorem bC.unch(p:bC T U t f){s:Sy}(o:s.Ok T.c T.k):(T.word (F5 T.k) s).vw=T.vw↔(U.word (F5 U.k) (s.bend t)).vw=U.vw:=by
 rw[L2.unch p.ok,L2.unch p.ok'];constructor
 ·intro a h hh i j hi hj e
  rw[p.n]at hi hj;rw[p.k]at hh;obtain⟨x,hx,rfl⟩:=p.ex.onto i hi;obtain⟨y,hy,rfl⟩:=p.ex.onto j hj;rw[<-p.tr o hx,<-p.tr o hy];exact a h hh x y hx hy ((p.rel.al h x y (by rw[p.ok.len];exact hh) hx hy).mpr e)
 ·intro a h hh i j hi hj e
  rw[p.tr o hi,p.tr o hj];exact a h (by rw[p.k];exact hh) (f i) (f j) (by rw[p.n];exact p.ex.lt i hi) (by rw[p.n];exact p.ex.lt j hj) ((p.rel.al h i j (by rw[p.ok.len];exact hh) hi hj).mp e)
theorem bC.still(p:bC T U t f)(h0:0<sys.length)(o:∀s∈sys,s.Ok T.c T.k):∀j,T.still sys j=U.still (sys.map (Sy.bend t)) j
 |0=>rfl
 |j+1=>by
  have q:=p.turn h0 o j;have ih:=bC.still p h0 o j;have u:=q.unch (s:=eO sys j) (by rw[jh,(jg T sys j).1];exact o _ (m8 h0 j));rw[jh,jh,<-lV]at u;have u':(T.turn sys (j+1)).vw=(T.turn sys j).vw↔(U.turn (sys.map (Sy.bend t)) (j+1)).vw=(U.turn (sys.map (Sy.bend t)) j).vw:=u;show(if _ then _ else _)=if _ then _ else _
  by_cases c:(T.turn sys (j+1)).vw=(T.turn sys j).vw
  ·rw[if_pos c,if_pos (u'.mp c),ih]
  ·rw[if_neg c,if_neg (fun z=>c (u'.mpr z))]
theorem bC.len(p:bC T U t f)(h0:0<sys.length)(o:∀s∈sys,s.Ok T.c T.k){a L M:Nat}(h:T.Len sys a L)(h':U.Len (sys.map (Sy.bend t)) a M):L=M:=by
 have l:U.Len (sys.map (Sy.bend t)) a L:=⟨h.le,fun i hi=>by rw[<-p.still h0 o,FQ];exact h.go i hi,by rw[<-p.still h0 o,FQ];exact h.st⟩;have l1:=l.le;have l2:=h'.le;rcases Len.uniq l h' with z|⟨z,y⟩<;>rcases Len.uniq h' l with z'|⟨z',y'⟩<;>omega
end
theorem A0{n:Nat}{v u:List Nat}{f:Nat->Nat}(hv:Within n v)(cv:aM v=v)(hu:Within n u)(flt:∀i,i<n->f i<n)(al:∀i j,i<n->j<n->u.getD (f i) 0=u.getD (f j) 0->v.getD i 0=v.getD j 0){L M:List Int}(nL:L.Nodup)(hL:∀x,x∈L↔x∈v.map fun(s:Nat)=>((s:Nat):Int))(hM:∀x,x∈M↔x∈u.map fun(s:Nat)=>((s:Nat):Int)):L.length<=M.length:=by
 have rep:∀x∈L,∃r:Nat,x=(r:Int)/\r<n/\v.getD r 0=r:=fun x hx=>by
  obtain⟨r,hr,rfl⟩:=Gh.mp ((hL x).mp hx);obtain⟨i,hi,e⟩:=KJ hr;have hin:i<n:=by rw[<-hv.1];exact hi
  have er:v.getD i 0=r:=by rw[FO,FN hi,<-e];rfl
  obtain⟨q1,q2⟩:=nX hv cv hin;rw[er]at q1 q2;exact⟨r,rfl,q2,q1⟩
 have:=CL (l:=L.map fun x=>((u.getD (f x.toNat) 0:Nat):Int)) (m:=M) (KM.ki nL fun x hx y hy e=>?_) (fun z hz=>?_)
 ·rw[FQ]at this;exact this
 ·obtain⟨r,rfl,hr,er⟩:=rep x hx
  obtain⟨q,rfl,hq,eq⟩:=rep y hy;have e':u.getD (f r) 0=u.getD (f q) 0:=by have:=e;simp only[Ie]at this;omega
  have:=al r q hr hq e';rw[er,eq]at this;rw[this]
 ·obtain⟨x,hx,rfl⟩:=Gh.mp hz
  obtain⟨r,rfl,hr,_⟩:=rep x hx;rw[hM,Ie];have hf:=flt r hr;refine Gh.mpr ⟨_,?_,rfl⟩;rw[FO,FN (show f r<u.length by rw[hu.1];exact hf)];exact Hq _
theorem bC.cnt{T U:TM}{t:List Nat}{f:Nat->Nat}(p:bC T U t f){h:Nat}(hh:h<T.k){L M:List Int}(nL:L.Nodup)(nM:M.Nodup)(hL:∀x,x∈L↔x∈(T.vw.getD h []).map fun(s:Nat)=>((s:Nat):Int))(hM:∀x,x∈M↔x∈(U.vw.getD h []).map fun(s:Nat)=>((s:Nat):Int)):L.length=M.length:=by
 have hv:h<T.vw.length:=by rw[p.ok.len];exact hh
 have hh':h<U.k:=by rw[p.k];exact hh
 have w1:=cP p.ok hh;have w2:=cP p.ok' hh';rw[p.n]at w2;refine Nat.le_antisymm (A0 (f:=f) w1 (qE p.ok hh) w2 p.ex.lt (fun i j hi hj e=>(p.rel.al h i j hv hi hj).mpr e) nL hL hM) ?_;have g:∀k:Nat,∃x,k<T.n->x<T.n/\f x=k:=fun k=>by
  by_cases hk:k<T.n
  ·obtain⟨x,h1,h2⟩:=p.ex.onto k hk;exact⟨x,fun _=>⟨h1,h2⟩⟩
  ·exact⟨0,fun z=>absurd z hk⟩
 obtain⟨b,hb⟩:=Classical.axiomOfChoice g;refine A0 (f:=b) w2 (qE p.ok' hh') w1 (fun i hi=>(hb i hi).1) (fun i j hi hj e=>?_) nM hM hL;have:=(p.rel.al h (b i) (b j) hv (hb i hi).1 (hb j hj).1).mp e;rw[(hb i hi).2,(hb j hj).2]at this;exact this
theorem wu{w w':List Nat}{c:Nat}(h1:w.length=c)(h2:w'.length=c)(h:∀j,j<c->w.getD j 0=w'.getD j 0):w=w':=by
 rw[<-KM.cW w,<-KM.cW w',h1,h2];exact Hy fun i hi=>h i (Gr.mp hi)
theorem Dz{ws:List (List Nat)}{c:Nat}{t pl:List Nat}(nd:ws.Nodup)(hw:∀w∈ws,w.length=c)(h:∀i,i<ws.length->pl.getD i 0<ws.length/\∀j,j<c->(ws.getD (pl.getD i 0) []).getD (t.getD j 0) 0=(ws.getD i []).getD j 0):lU ws c t (fun i=>pl.getD i 0):=by
 have g:∀x,x<ws.length->ws[x]?=some (ws.getD x []):=fun x hx=>by rw[FO,FN hx];rfl
 have inj:∀i j,i<ws.length->j<ws.length->pl.getD i 0=pl.getD j 0->i=j:=fun i j hi hj e=>by
  have e2:ws.getD i []=ws.getD j []:=wu (hw _ (F0 (g i hi))) (hw _ (F0 (g j hj))) fun k hk=>by rw[<-(h i hi).2 k hk,<-(h j hj).2 k hk,e]
  exact(NB hi nd).mp (by rw[g i hi,g j hj,e2])
 refine⟨fun i hi=>(h i hi).1,inj,fun k hk=>?_,fun i j hi hj=>(h i hi).2 j hj⟩;have pm:=KM.lT (l:=(F5 ws.length).map fun i=>pl.getD i 0) (m:=F5 ws.length) (KM.ki LH fun x hx y hy e=>inj x y (Gr.mp hx) (Gr.mp hy) e) (fun x hx=>by
  obtain⟨i,hi,rfl⟩:=Gh.mp hx;exact Gr.mpr (h i (Gr.mp hi)).1) (by rw[FQ])
 obtain⟨i,hi,e⟩:=Gh.mp (pm.mem_iff.mpr (Gr.mpr hk));exact⟨i,Gr.mp hi,e⟩
theorem ET{room t o w:List Nat}(h:KM.cp t room.sum)(hw:w∈KM.aW room room.sum)(lo:o.length=room.sum)(ho:∀j,j<room.sum->o.getD (t.getD j 0) 0=w.getD j 0):o∈KM.aW room room.sum:=by
 obtain⟨x,hx,e⟩:=Gh.mp ((KM.ER h).mem_iff.mpr hw);have lx:=(KM.bB _ _ x hx).len;have:x=o:=wu lx lo fun k hk=>by
  obtain⟨j,hj,rfl⟩:=h.onto hk;have hj':j<t.length:=by rw[h.len];exact hj
  have e3:(t.map fun i=>x.getD i 0).getD j 0=x.getD (t.getD j 0) 0:=by
   rw[FO,FZ,FN hj',FO (l:=t),FN hj'];rfl
  rw[ho j hj,<-e,e3]
 rw[<-this];exact hx
theorem EU{c:Nat}{ss t:List Nat}{f:Nat->Nat}(pk:il c ss)(few:KM.bR c ss<=2000)(ht:KM.cp t c)(E:lU (TM.begun c ss).ws c t f):bC (TM.begun c ss) (TM.begun c ss) t f:=by
 have ok:=TM.Ok.begun pk few;refine⟨rfl,rfl,ok,ok,ht,E,⟨rfl,fun h i j hh hi hj=>?_⟩⟩;have hk:h<ss.length:=by rw[ok.len]at hh;exact hh
 have ev:(TM.begun c ss).vw.getD h []=fN (TM.begun c ss).ws ((h:Nat):Int):=by
  show(List.map _ _).getD h []=_;rw[FO,FZ,GO hk];rfl
 have w:=cP ok (show h<(TM.begun c ss).k from hk);have fi:f i<(TM.begun c ss).n:=E.lt i hi;have fj:f j<(TM.begun c ss).n:=E.lt j hj;rw[dW w.1 hj hi,dW w.1 fj fi,ev];have k:∀{x y:Nat},x<(TM.begun c ss).n->y<(TM.begun c ss).n->((fN (TM.begun c ss).ws ((h:Nat):Int))[x]?=(fN (TM.begun c ss).ws ((h:Nat):Int))[y]?↔((TM.begun c ss).ws.map fun w=>cf w ((h:Nat):Int)).getD x []=((TM.begun c ss).ws.map fun w=>cf w ((h:Nat):Int)).getD y []):=fun{x y} hx hy=>by
  show(aM _)[x]?=(aM _)[y]?↔_;have hx':x<((TM.begun c ss).ws.map fun w=>cf w ((h:Nat):Int)).length:=by rw[FQ];exact hx
  have hy':y<((TM.begun c ss).ws.map fun w=>cf w ((h:Nat):Int)).length:=by rw[FQ];exact hy
  rw[mX hx' hy',FO,FO,FN hx',FN hy'];exact⟨fun e=>F1 e,fun e=>congrArg some e⟩
 rw[k hi hj,k fi fj];exact si E ht ok.cards h hi hj
end
section
variable{K:Fg}{vs:List V}{H:Hp}{Q:VK}{E:XK}
open KF
noncomputable def jr(K:Fg):Sp:=fun vs H Q _=>∃(a:Addr)(ns:List Int)(at_:Int)(n:Nat),vs=[.ref a,.int at_,.int (n:Int)]/\d4 K H a ns/\0<=at_/\at_<=1000/\n<=12/\∀(f:Addr)(H':Hp)(t:List Nat),H f=none->ah H H'->H' f=some (.lst (aq t))->KM.cp t n->Q (.ref f) H'
noncomputable def gT(K:Fg):TS:=(ap (az (cX af) (ai 3))
 (ap (cc (dD (aa (ab 2) af)) (ai 4) (dY (tBM K "list" sg (ab 3) (aa (tOp (rI (fun _ j=>0<j) fun i j=>.int (i%j)) (au (bq K) [] E0 (aa (ab 0) (aa (tOp (rI0 fun i j=>.int (i+j)) (ab 1) (ab 4)) af))) (tOp (rI0 fun i j=>.int (i+j)) (ab 4) (tC (.int 1)))) (aa (ab 4) af)))))
 (aG (ab 3))))
theorem ui(h:jr K vs H Q E):gT K { nx:=fun _ H'=>Q .non H',rt:=Q } (start ["_law_script","_law_at","_law_many","_law_found","_law_k"] vs) H:=by
 obtain⟨a,ns,at_,n,rfl,hSc,a0,a1,hn,q⟩:=h;show gT K _ [some _,some _,some _,none,none] _;unfold gT;right;refine⟨by simp[FV],fun w H1 hw s1 e1=>?_⟩;right;refine d5 n (by omega) (by omega) (by omega) (fun i σ H2=>∃(u4:Option V)(t:List Nat),σ=[some (.ref a),some (.int at_),some (.int (n:Int)),some (.ref w),u4]/\ah H H2/\H2 w=some (.lst (aq t))/\t.Perm (F5 i)) ⟨none,[],rfl,s1,e1,Ou.refl _⟩ ?_ ?_
 ·rintro i σ H2 hi ⟨u4,t,rfl,s2,e2,pm⟩
  have tl:t.length=i:=by rw[pm.length_eq,G5]
  right;refine⟨nH e2,?_⟩;right;refine⟨a,ns,at_+(i:Int),rfl,hSc.same s2,by omega,by omega,?_⟩;right;obtain⟨k,hk,hki⟩:∃k:Nat,bG ns (at_+(i:Int))%((i:Int)+1)=(k:Int)/\k<=i:=⟨(bG ns (at_+(i:Int))%((i:Int)+1)).toNat,by have:=IJ (bG ns (at_+(i:Int))) (show(i:Int)+1≠0 by omega);omega,by have:=IG (bG ns (at_+(i:Int))) (show 0<(i:Int)+1 by omega);have:=IJ (bG ns (at_+(i:Int))) (show(i:Int)+1≠0 by omega);omega⟩;rw[hk];refine Cc e2 (by rw[aS,FV];omega) (by rw[aS];omega) fun H3 o3 e3=>?_;right;refine⟨_,t.take k++i::t.drop k,rfl,s2.off hw o3,?_,?_⟩
  ·rw[e3]
   unfold aq;rw[<-List.map_take,<-List.map_drop,Gj,F6]
  ·rw[Iv]
   have:=List.perm_middle (a:=i) (l₁:=t.take k) (l₂:=t.drop k);rw[Js]at this;exact this.trans ((Ou.cons i pm).trans (List.perm_append_singleton i _).symm)
 ·rintro σ H2 ⟨u4,t,rfl,s2,e2,pm⟩
  right;exact q w H2 t hw s2 e2 ⟨pm⟩
noncomputable def bO(_:Fg)(m:Nat):Sp:=fun vs H Q _=>∃(x:V)(tp:Addr)(t:List Nat)(s:Sy)(c k:Nat),vs=[x,.ref tp]/\aD H x s/\H tp=some (.lst (aq t))/\t.length=c/\s.Ok c k/\s.words<=m/\∀v H',ah H H'->aD H' v (s.bend t)->Q v H'
noncomputable def iU(K:Fg)(n:Nat):TS:=(ap (bo (ba (tOp rEq (tOp (bU K) (ab 0) (tC (.int 0))) (tC (.str "holds")))) (aG (cq (aa (tC (.str "holds")) (aa (tOp (bU K) (ab 0) (tC (.int 1))) (aa (tOp (b9 K) (ab 1) (tOp (bU K) (ab 0) (tC (.int 2)))) af))))) aZ)
 (ap (bo (ba (tOp rEq (tOp (bU K) (ab 0) (tC (.int 0))) (tC (.str "sees")))) (aG (ab 0)) aZ)
 (ap (bo (ba (tOp (rIn K false) (tOp (bU K) (ab 0) (tC (.int 0))) (cq (aa (tC (.str "not")) (aa (tC (.str "and")) (aa (tC (.str "or")) af)))))) (aG (tCB (jJ K) (aa (tOp lB (cX (aa (tOp (bU K) (ab 0) (tC (.int 0))) af)) (b8 (mz K (tSl (oW K) (ab 0) (li (tC (.int 1))) ig)) (fun _ _ _ _=>(ai 0)) (fun _ _ _ _=>bI) (fun _ _ _ _=>(au (bO K n) [] E0 (aa (ab 0) (aa (ab 1) af)))) [none,some 1])) af))) aZ)
 (aG (cq (aa (tOp (bU K) (ab 0) (tC (.int 0))) (aa (tOp (bU K) (ab 0) (tC (.int 1))) (aa (au (bO K n) [] E0 (aa (tOp (bU K) (ab 0) (tC (.int 2))) (aa (ab 1) af))) af))))))))
noncomputable abbrev xn:List Str:=["_law_saying_here","_law_turn"]
theorem m9(h:bO K 0 vs H Q E):False:=by
 obtain⟨x,tp,t,s,c,k,rfl,_,_,_,_,h,_⟩:=h;have:=s.words_pos;omega
theorem wv{K:Fg}{m:Nat}{vs:List V}{H:Hp}{Q:VK}{E:XK}(h:bO K (m+1) vs H Q E):iU K m { nx:=fun _ H'=>Q .non H',rt:=Q } (start xn vs) H:=by
 obtain⟨x,tp,t,s,c,k,rfl,hS,et,lt,hok,hw,q⟩:=h;show iU K m _ [some _,some _] _;unfold iU;have kids:∀(a:Addr)(wd:Str)(xs:List V)(subs:List Sy)(H1:Hp),ah H H1->H1 a=some (.tup (.str wd::xs))->Paired (aD H1) xs subs->xs.length<=2->1<=xs.length->(∀s∈subs,s.Ok c k/\s.words<=m)->(∀(tq:Addr)(ys:List V)(H':Hp),ah H1 H'->H' tq=some (.tup (.str wd::ys))->Paired (aD H') ys (subs.map (Sy.bend t))->Q (.ref tq) H')->(aG (tCB (jJ K) (aa (tOp lB (cX (aa (tOp (bU K) (ab 0) (tC (.int 0))) af)) (b8 (mz K (tSl (oW K) (ab 0) (li (tC (.int 1))) ig)) (fun _ _ _ _=>(ai 0)) (fun _ _ _ _=>bI) (fun _ _ _ _=>(au (bO K m) [] E0 (aa (ab 0) (aa (ab 1) af)))) [none,some 1])) af))) { nx:=fun _ H'=>Q .non H',rt:=Q } [some (.ref a),some (.ref tp)] H1:=by
  intro a wd xs subs H1 s1 ea pa l2 l1 oks q2;right;refine aI (SqT.of ea) (i:=0) (show atI _ ((0:Nat):Int)=some (.str wd)from dh rfl) ?_;right;refine⟨by simp[FV],fun l0 H2 hl0 s2 e2=>?_⟩;right;refine uG (SqT.of (s2 _ _ ea)) (iH _ _) fun b H3 hb s3 e3=>?_;rw[lC]at e3;right;have s13:=s2.trans s3;have ls:xs.length=subs.length:=GJ pa;refine Ez xs (SqT.of e3) (by omega) (fun i acc H'=>Paired (aD H') acc ((subs.take i).map (Sy.bend t))) (fun _ _=>.nil) ?_ ?_
  ·rintro p' hp' C s' H' fp i y acc H4 hy ⟨s4,e4,l4,r4⟩
   obtain⟨u,hu,iu⟩:=bL pa hy;obtain⟨o1,o2⟩:=oks u (F0 hu);right;refine⟨y,tp,t,u,c,k,rfl,iu.keep (s13.trans s4).keep,s4 _ _ (s13 _ _ (s1 _ _ et)),lt,o1,o2,fun v H5 s5 hv=>?_⟩;refine bm.put hp' (fun _ _ _ _ r k=>Paired.mapP r fun _ _ z=>z.keep k) (s4.trans s5) (s5 _ _ e4) l4 ?_;rw[cN hu,Gj];exact wg (Paired.mapP r4 fun _ _ z=>z.keep s5.keep) hv
  ·rintro p' acc H4 hp' s4 e4 r4
   rw[ls,GG]at r4;right;have la:acc.length=subs.length:=by rw[GJ r4,FQ]
   refine nJ (s4 _ _ (s3 _ _ e2)) e4 (by rw[FV];simp;omega) fun pc H5 hpc s5 e5=>?_;right;refine rM (SqL.of e5) fun tq H6 htq s6 e6=>?_;exact q2 tq acc H6 (((s13.trans s4).trans s5).trans s6) e6 (Paired.mapP r4 fun _ _ z=>z.keep (s5.trans s6).keep)
 cases s with
 |holds w d=>
  obtain⟨a,rfl,ea⟩:=hS;obtain⟨o1,o2⟩:=hok;have e1:t[d]?=some (t.getD d 0):=by rw[FO,FN (by omega)];rfl
  right;refine aI (SqT.of ea) (i:=0) rfl ?_;right;refine cU rfl ?_;right;refine aI (SqT.of ea) (i:=1) rfl ?_;right;refine aI (SqT.of ea) (i:=2) rfl ?_;right;refine bH (SqL.of et) (cD e1) ?_;right;refine⟨by simp[FV],fun tq H1 htq s1 e1=>?_⟩;exact q _ H1 s1 ⟨tq,rfl,e1⟩
 |sees d=>
  obtain⟨a,rfl,ea⟩:=hS;right;refine aI (SqT.of ea) (i:=0) rfl ?_;right;refine aH (by decide) ?_;right;refine aI (SqT.of ea) (i:=0) rfl ?_;right;refine cU rfl ?_;right;exact q _ H (ah.refl _) ⟨a,rfl,ea⟩
 |not s=>
  obtain⟨a,y,rfl,ea,iy⟩:=hS;have hw':s.words<=m:=by have:s.words+1<=m+1:=hw;omega
  right;refine aI (SqT.of ea) (i:=0) rfl ?_;right;refine aH (by decide) ?_;right;refine aI (SqT.of ea) (i:=0) rfl ?_;right;refine aH (by decide) ?_;right;refine aI (SqT.of ea) (i:=0) rfl ?_;right;refine⟨by simp[FV],fun l0 H1 hl0 s1 e1=>?_⟩;right;refine nK (SqT.of e1) rfl rfl (c:=true) (by decide) ?_;refine⟨_,rfl,jQ ?_⟩;refine kids a _ [y] [s] H1 s1 (s1 _ _ ea) (.cons (iy.keep s1.keep) .nil) (by simp) (by simp) (fun u hu=>by rw[FR.mp hu];exact⟨hok,hw'⟩) fun tq ys H2 s2 e2 p2=>?_;cases p2 with
  |cons r t2=>cases t2;exact q _ H2 (s1.trans s2) ⟨tq,_,rfl,e2,r⟩
 |and s u=>
  obtain⟨a,y,z,rfl,ea,iy,iz⟩:=hS;obtain⟨o1,o2⟩:=hok;have hw':s.words+u.words+1<=m+1:=hw;right;refine aI (SqT.of ea) (i:=0) rfl ?_;right;refine aH (by decide) ?_;right;refine aI (SqT.of ea) (i:=0) rfl ?_;right;refine aH (by decide) ?_;right;refine aI (SqT.of ea) (i:=0) rfl ?_;right;refine⟨by simp[FV],fun l0 H1 hl0 s1 e1=>?_⟩;right;refine nK (SqT.of e1) rfl rfl (c:=true) (by decide) ?_;refine⟨_,rfl,jQ ?_⟩;refine kids a _ [y,z] [s,u] H1 s1 (s1 _ _ ea) (.cons (iy.keep s1.keep) (.cons (iz.keep s1.keep) .nil)) (by simp) (by simp) (fun v hv=>by
   rcases FW.mp hv with e|e
   ·rw[e];exact⟨o1,by omega⟩
   ·rw[FR.mp e];exact⟨o2,by omega⟩) fun tq ys H2 s2 e2 p2=>?_
  cases p2 with
  |cons r t2=>cases t2 with
   |cons r2 t3=>cases t3;exact q _ H2 (s1.trans s2) ⟨tq,_,_,rfl,e2,r,r2⟩
 |or s u=>
  obtain⟨a,y,z,rfl,ea,iy,iz⟩:=hS;obtain⟨o1,o2⟩:=hok;have hw':s.words+u.words+1<=m+1:=hw;right;refine aI (SqT.of ea) (i:=0) rfl ?_;right;refine aH (by decide) ?_;right;refine aI (SqT.of ea) (i:=0) rfl ?_;right;refine aH (by decide) ?_;right;refine aI (SqT.of ea) (i:=0) rfl ?_;right;refine⟨by simp[FV],fun l0 H1 hl0 s1 e1=>?_⟩;right;refine nK (SqT.of e1) rfl rfl (c:=true) (by decide) ?_;refine⟨_,rfl,jQ ?_⟩;refine kids a _ [y,z] [s,u] H1 s1 (s1 _ _ ea) (.cons (iy.keep s1.keep) (.cons (iz.keep s1.keep) .nil)) (by simp) (by simp) (fun v hv=>by
   rcases FW.mp hv with e|e
   ·rw[e];exact⟨o1,by omega⟩
   ·rw[FR.mp e];exact⟨o2,by omega⟩) fun tq ys H2 s2 e2 p2=>?_
  cases p2 with
  |cons r t2=>cases t2 with
   |cons r2 t3=>cases t3;exact q _ H2 (s1.trans s2) ⟨tq,_,_,rfl,e2,r,r2⟩
 |knows d s=>
  obtain⟨a,y,rfl,ea,iy⟩:=hS;obtain⟨o1,o2⟩:=hok;have hw':s.words+1<=m+1:=hw;right;refine aI (SqT.of ea) (i:=0) rfl ?_;right;refine aH (by decide) ?_;right;refine aI (SqT.of ea) (i:=0) rfl ?_;right;refine aH (by decide) ?_;right;refine aI (SqT.of ea) (i:=0) rfl ?_;right;refine⟨by simp[FV],fun l0 H1 hl0 s1 e1=>?_⟩;right;refine nK (SqT.of e1) rfl rfl (c:=false) (by decide) ?_;refine⟨_,rfl,jm ?_⟩;right;refine aI (SqT.of (s1 _ _ ea)) (i:=0) rfl ?_;right;refine aI (SqT.of (s1 _ _ ea)) (i:=1) rfl ?_;right;refine aI (SqT.of (s1 _ _ ea)) (i:=2) rfl ?_;right;refine⟨y,tp,t,s,c,k,rfl,iy.keep s1.keep,s1 _ _ et,lt,o2,by omega,fun v H2 s2 hv=>?_⟩;right;refine⟨by simp[FV],fun tq H3 htq s3 e3=>?_⟩;have s13:=(s1.trans s2).trans s3;exact q _ H3 s13 ⟨tq,_,rfl,e3,hv.keep s3.keep⟩
 |all g s=>
  obtain⟨a,b,y,rfl,ea,eb,iy⟩:=hS;obtain⟨o1,o2⟩:=hok;have hw':s.words+1<=m+1:=hw;right;refine aI (SqT.of ea) (i:=0) rfl ?_;right;refine aH (by decide) ?_;right;refine aI (SqT.of ea) (i:=0) rfl ?_;right;refine aH (by decide) ?_;right;refine aI (SqT.of ea) (i:=0) rfl ?_;right;refine⟨by simp[FV],fun l0 H1 hl0 s1 e1=>?_⟩;right;refine nK (SqT.of e1) rfl rfl (c:=false) (by decide) ?_;refine⟨_,rfl,jm ?_⟩;right;refine aI (SqT.of (s1 _ _ ea)) (i:=0) rfl ?_;right;refine aI (SqT.of (s1 _ _ ea)) (i:=1) rfl ?_;right;refine aI (SqT.of (s1 _ _ ea)) (i:=2) rfl ?_;right;refine⟨y,tp,t,s,c,k,rfl,iy.keep s1.keep,s1 _ _ et,lt,o2,by omega,fun v H2 s2 hv=>?_⟩;right;refine⟨by simp[FV],fun tq H3 htq s3 e3=>?_⟩;have s13:=(s1.trans s2).trans s3;exact q _ H3 s13 ⟨tq,b,_,rfl,e3,s13 _ _ eb,hv.keep s3.keep⟩
 |common g s=>
  obtain⟨a,b,y,rfl,ea,eb,iy⟩:=hS;obtain⟨o1,o2⟩:=hok;have hw':s.words+1<=m+1:=hw;right;refine aI (SqT.of ea) (i:=0) rfl ?_;right;refine aH (by decide) ?_;right;refine aI (SqT.of ea) (i:=0) rfl ?_;right;refine aH (by decide) ?_;right;refine aI (SqT.of ea) (i:=0) rfl ?_;right;refine⟨by simp[FV],fun l0 H1 hl0 s1 e1=>?_⟩;right;refine nK (SqT.of e1) rfl rfl (c:=false) (by decide) ?_;refine⟨_,rfl,jm ?_⟩;right;refine aI (SqT.of (s1 _ _ ea)) (i:=0) rfl ?_;right;refine aI (SqT.of (s1 _ _ ea)) (i:=1) rfl ?_;right;refine aI (SqT.of (s1 _ _ ea)) (i:=2) rfl ?_;right;refine⟨y,tp,t,s,c,k,rfl,iy.keep s1.keep,s1 _ _ et,lt,o2,by omega,fun v H2 s2 hv=>?_⟩;right;refine⟨by simp[FV],fun tq H3 htq s3 e3=>?_⟩;have s13:=(s1.trans s2).trans s3;exact q _ H3 s13 ⟨tq,b,_,rfl,e3,s13 _ _ eb,hv.keep s3.keep⟩
noncomputable def iA(w:List Nat):MK:=rR (w.map fun(s:Nat)=>((s:Nat):Int))
theorem ww{v w:List Nat}(e:iA v=iA w):v=w:=by
 have:=vQ _ _ e;exact List.map_inj_right (fun x y h=>by omega) |>.mp this
theorem wx{H:Hp}{a:Addr}{w:List Nat}(e:H a=some (.tup (aq w))):ca H (.ref a) (iA w):=by
 rw[cO]at e;exact xK e
theorem yU{ws:List (List Nat)}(nd:ws.Nodup){i:Nat}{w:List Nat}(h:ws[i]?=some w):iA w∉(ws.map iA).take i:=fun m=>by
 rw[<-List.map_take]at m;obtain⟨v,hv,e⟩:=Gh.mp m;rw[ww e]at hv;obtain⟨j,hj,ej⟩:=KJ hv;have hj2:=hj;rw[Hb]at hj2;have hi:=(FS.mp h).1;have e1:ws[j]?=some w:=by
  have:(ws.take i)[j]?=some w:=by rw[FN hj,ej]
  rw[List.getElem?_take]at this;by_cases q:j<i
  ·rw[if_pos q]at this;exact this
  ·rw[if_neg q]at this;cases this
 have:=(NB (show j<ws.length by omega) nd).mp (e1.trans h.symm);omega
theorem DC{α:Type}[DecidableEq α]{ks:List α}{k:α}(h:k∈ks):ks[ks.idxOf k]?=some k:=by
 have hl:=List.idxOf_lt_length_iff.mpr h;rw[FN hl,Nl]
theorem Cd{ws:List (List Nat)}{o:List Nat}(h:o∈ws):∃p:Nat,dN (ws.map iA) ws.length (iA o)=some (.int (p:Int))/\p<ws.length/\ws.getD p []=o:=by
 have hm:iA o∈ws.map iA:=Gh.mpr ⟨o,h,rfl⟩;have e:=DC hm;have f:=mL (ks:=ws.map iA) (i:=ws.length) (k:=iA o) (by rw[Jm (by rw[FQ];exact FU _)];exact hm);have hl:=(FS.mp e).1;rw[FQ]at hl;refine⟨_,f,hl,?_⟩;rw[FZ,FN hl]at e;rw[FO,FN hl];exact ww (F1 e)
noncomputable def iB(_:Fg):Sp:=fun vs H Q _=>∃(pd tp:Addr)(t room:List Nat)(c:Nat),vs=[.ref pd,.ref tp]/\bt H pd (KM.aW room c)/\H tp=some (.lst (aq t))/\room.sum=c/\KM.cp t c/\c<=12/\(KM.aW room c).length<=2000/\
 ∀(p:Addr)(pl:List Nat) H',H p=none->ah H H'->H' p=some (.lst (aq pl))->pl.length=(KM.aW room c).length->lU (KM.aW room c) c t (fun i=>pl.getD i 0)->Q (.ref p) H'
noncomputable def fY(K:Fg):TS:=(ap (az pY (ai 2))
 (ap (cc (lv bj K (aa (ab 0) af)) (gj K 2 (bF (ai 3) (bF (ai 4) gi))) (az (ab 3) (km (ab 2) (ab 4) yz)))
 (ap (az (cX af) (ai 5))
 (ap (cc (dc K (ab 0)) (ai 4) (ap (az (tCB (gC K) (aa (ab 4) af)) (ai 6))
 (ap (cc (dD (aa (tCB (cH K) (aa (ab 4) af)) af)) (ai 7) (az (tOp (bU K) (ab 4) (ab 7)) (km (ab 6) (tOp (b9 K) (ab 1) (ab 7)) jw)))
 (dY (tBM K "list" fo (ab 5) (aa (tOp uI (ab 2) (tCB (jJ K) (aa (ab 6) af))) af))))))
 (aG (ab 5))))))
theorem sj(h:iB K vs H Q E):fY K { nx:=fun _ H'=>Q .non H',rt:=Q } (start ["_law_deals","_law_turn","_law_where","_law_place","_law_deal","_law_found","_law_other","_law_card"] vs) H:=by
 obtain⟨pd,tp,t,room,c,rfl,dl,et,hs,ht,hc,hn,q⟩:=h;show fY K _ [some _,some _,none,none,none,none,none,none] _;unfold fY;obtain⟨rs,er,hr⟩:=dl;have hlr:rs.length=(KM.aW room c).length:=GJ hr;have nd:(KM.aW room c).Nodup:=KM.kF room c;have hwl:∀w∈KM.aW room c,w.length=c:=fun w hw=>(KM.bB room c w hw).len;have exm:∀{o w:List Nat},w∈KM.aW room c->o.length=c->(∀j,j<c->o.getD (t.getD j 0) 0=w.getD j 0)->o∈KM.aW room c:=fun{o w} h1 h2 h3=>by
  subst hs;exact ET ht h1 h2 h3
 generalize KM.aW room c=ws at *;right;refine xN true fun d H1 hd s1 dx1=>?_;refine em fun NX hNX=>?_;right;refine rN (S:=bj) (rs.map V.ref) (SqL.of (s1 _ _ er)) (fun i σ H3=>∃(u v:Option V),σ=[some (.ref pd),some (.ref tp),some (.ref d),u,v,none,none,none]/\ah H H3/\Dx H3 d true (dN (ws.map iA) i) i) ⟨none,none,rfl,s1,dx1.congr oE⟩ ?_ ?_ ?_
 ·rintro i σ H3 hi ⟨u,v,rfl,s3,dx3⟩
  exact SqL.of (s3 _ _ er)
 ·rintro i x T σ H3 H4 hx ⟨u,v,rfl,s3,dx3⟩ hT s4 eT
  obtain⟨r,hrx,rfl⟩:=qg hx;obtain⟨w,hw,ew⟩:=bL hr hrx;have hi:i<ws.length:=(FS.mp hw).1;refine eW (SqT.of eT) ?_;right;refine EA (dx3.same s4) (wx ((s3.trans s4) _ _ ew)) rfl (by rw[FV];omega) fun H5 o5 dx5=>?_;exact⟨_,_,rfl,(s3.trans s4).off hd o5,dx5.congr (pZ (by rw[FZ,hw];rfl) (yU nd hw))⟩
 ·rintro σ H3 ⟨u,v,rfl,s3,dx3⟩
  refine hNX _ _ ?_;clear hNX;rw[FQ,hlr]at dx3;right;refine⟨by simp[FV],fun f H4 hf s4 e4=>?_⟩;right;have hf0:=s3.free hf;refine kN (rs.map V.ref) (SqL.of (s4 _ _ (s3 _ _ er))) (fun i σ H5=>∃(u3 u4 u6 u7:Option V)(pl:List Nat),σ=[some (.ref pd),some (.ref tp),some (.ref d),u3,u4,some (.ref f),u6,u7]/\ah H H5/\Dx H5 d true (dN (ws.map iA) ws.length) ws.length/\H5 f=some (.lst (aq pl))/\pl.length=i/\∀i',i'<i->pl.getD i' 0<ws.length/\∀j,j<c->(ws.getD (pl.getD i' 0) []).getD (t.getD j 0) 0=(ws.getD i' []).getD j 0) ⟨u,v,none,none,[],rfl,s3.trans s4,dx3.same s4,e4,rfl,fun _ z=>absurd z (JH _)⟩ ?_ ?_ ?_
  ·rintro i σ H5 hi ⟨u3,u4,u6,u7,pl,rfl,s5,_⟩
   exact SqL.of (s5 _ _ er)
  ·rintro i x σ H5 hx ⟨u3,u4,u6,u7,pl,rfl,s5,dx5,e5,lp,hpl⟩
   obtain⟨r,hrx,rfl⟩:=qg hx;obtain⟨w,hw,ew⟩:=bL hr hrx;have lw:w.length=c:=hwl w (F0 hw);have hi:i<ws.length:=(FS.mp hw).1;have ew5:=s5 _ _ ew;right;refine⟨r,_,rfl,.inr (SqT.of ew5),fun o1 H6 ho1 s6 e6=>?_⟩;refine em fun NX hNX=>?_;right;refine rL (ys:=aq w) (SqT.of (s6 _ _ ew5)) ?_;right;rw[aS,lw];refine d5 c (by omega) (by omega) (by omega) (fun j σ H7=>∃(u7:Option V)(o:List Nat),σ=[some (.ref pd),some (.ref tp),some (.ref d),u3,some (.ref r),some (.ref f),some (.ref o1),u7]/\ah H5 H7/\H7 o1=some (.lst (aq o))/\o.length=c/\∀j',j'<j->o.getD (t.getD j' 0) 0=w.getD j' 0) ⟨u7,w,rfl,s6,e6,lw,fun _ z=>absurd z (JH _)⟩ ?_ ?_
   ·rintro j σ H7 hj ⟨u7,o,rfl,s7,e7,lo,ho⟩
    have ej:w[j]?=some (w.getD j 0):=by rw[FO,FN (by omega)];rfl
    have etj:t[j]?=some (t.getD j 0):=by rw[FO,FN (by rw[ht.len];omega)];rfl
    have htj:=ht.lt hj;right;refine aI (SqT.of (s7 _ _ ew5)) (cD ej) ?_;right;refine bH (SqL.of (s7 _ _ (s5 _ _ et))) (cD etj) ?_;right;refine kL e7 (CJ (by rw[aS];omega)) ?_;refine⟨_,o.set (t.getD j 0) (w.getD j 0),rfl,s7.upd ho1 _,by rw[av,lL],by rw[Hj];exact lo,fun j' hj'=>?_⟩;rw[FO,IC];by_cases z:j'=j
    ·rw[z,if_pos rfl,if_pos (by omega)];rfl
    ·rw[if_neg (fun y=>z (ht.inj (by omega) hj y.symm)),<-FO]
     exact ho j' (by omega)
   ·rintro σ H7 ⟨u7,o,rfl,s7,e7,lo,ho⟩
    refine hNX _ _ ?_;clear hNX;have hmo:=exm (F0 hw) lo ho;obtain⟨np,g0,g1,g2⟩:=Cd hmo;have e57:=s7 _ _ e5;right;refine⟨nH e57,?_⟩;right;refine rM (SqL.of e7) fun tq H8 htq s8 e8=>?_;right;refine Au ((dx5.same s7).same s8) (wx e8) rfl g0 ?_;right;refine ik (s8 _ _ e57) (by rw[aS,FV];omega) fun H9 o9 e9=>?_;have s59:=(s7.trans s8);refine⟨_,_,_,_,pl++[np],rfl,(s5.trans s59).off hf0 o9,(dx5.same s59).off (s8 _ _ e57) o9,by rw[e9,eX],by rw[Ga,lp];rfl,fun i' hi'=>?_⟩;by_cases z:i'=i
    ·rw[z,FO (l:=pl++_),JA (by omega),lp,LG]
     show np<_/\∀j,j<c->(ws.getD np []).getD _ 0=_;rw[g2];refine⟨g1,fun j hj=>?_⟩;rw[ho j hj,FO (l:=ws),hw];rfl
    ·rw[FO (l:=pl++_),IQ (by omega),<-FO]
     exact hpl i' (by omega)
  ·rintro σ H5 ⟨u3,u4,u6,u7,pl,rfl,s5,dx5,e5,lp,hpl⟩
   rw[FQ,hlr]at lp hpl;right;exact q f pl H5 hf0 s5 e5 lp (Dz nd hwl hpl)
noncomputable def fc(_:Fg):Sp:=fun vs H Q _=>∃(a b pp:Addr)(n:Nat)(P P':Nat->Prop)(pl:List Nat),vs=[.ref a,.ref b,.ref pp]/\H a=some (.lst (blV n P))/\H b=some (.lst (blV n P'))/\H pp=some (.lst (aq pl))/\pl.length=n/\(∀i,i<n->pl.getD i 0<n/\(P i↔P' (pl.getD i 0)))/\n<=2000/\∀H',ah H H'->Q (.bl true) H'
noncomputable def iV(K:Fg):TS:=(aG (tOp (vP K false) (ab 0) (b8 (dc K (ab 2)) (fun _ _ _ _=>(ai 0)) (fun _ _ _ _=>bI) (fun _ _ _ _=>(tOp (b9 K) (ab 1) (ab 0))) [none,some 1])))
theorem wz(h:fc K vs H Q E):iV K { nx:=fun _ H'=>Q .non H',rt:=Q } (start ["_law_told","_law_others","_law_places_here"] vs) H:=by
 obtain⟨a,b,pp,n,P,P',pl,rfl,ea,eb,ep,lp,hp,hn,q⟩:=h;show iV K _ [some _,some _,some _] _;unfold iV;right;refine gw _ (SqL.of ep) (by rw[aS];omega) (fun i acc _=>acc=blV i P) (fun _ _=>rfl) ?_ ?_
 ·rintro p hp' C s' H' fp i x acc H2 hx ⟨s2,e2,l2,rfl⟩
  obtain⟨z,hz,rfl⟩:=fu hx;have hi:i<n:=by rw[<-lp];exact(FS.mp hz).1
  have ez:pl.getD i 0=z:=by rw[FO,hz];rfl
  obtain⟨h1,h2⟩:=hp i hi;rw[ez]at h1 h2;right;refine bH (SqL.of (s2 _ _ eb)) (AL h1) ?_;refine bm.put hp' (fun _ _ _ _ r _=>r) s2 e2 l2 ?_;rw[dC]
  congr 3
  exact(decide_eq_decide.mpr h2).symm
 ·rintro p acc H2 hp' s2 e2 rfl
  rw[aS,lp]at e2;right;refine Dk 1 (by decide) (yH (SqL.of (s2 _ _ ea)) (SqL.of e2) (BU n P)) ?_;exact q _ s2
noncomputable def iC(_:Fg)(G:GF):Sp:=fun vs H Q _=>∃(M:List Addr)(x pv pe y qv qe pp:Addr)(T U:TM)(t pl:List Nat)(k:Nat),vs=[.ref x,.ref y,.ref pp,.int k]/\T.k=k/\Tb G M H x pv pe T/\Tb G M H y qv qe U/\H pp=some (.lst (aq pl))/\pl.length=T.n/\bC T U t (fun i=>pl.getD i 0)/\T.n<=1000/\∀H',ah H H'->Q (.bl true) H'
noncomputable def fZ(K:Fg)(G:GF):TS:=(ap (cc (dD (aa (ab 3) af)) (ai 4) (ap (az (d2 G.Table "view" (fV K G) [] E0 (ab 0) (aa (ab 4) af)) (ai 5))
 (ap (az (d2 G.Table "view" (fV K G) [] E0 (ab 1) (aa (ab 4) af)) (ai 6))
 (ap (cc (dD (aa (tCB (cH K) (aa (ab 2) af)) af)) (ai 7) (bo (ba (tOp rNe (tOp (b9 K) (ab 6) (tOp (b9 K) (ab 2) (ab 7))) (tOp (b9 K) (ab 6) (tOp (b9 K) (ab 2) (tOp (b9 K) (ab 5) (ab 7)))))) (aG (tC (.bl false))) aZ))
 (bo (ba (tOp rNe (rY K (aa (ab 5) af)) (rY K (aa (ab 6) af)))) (aG (tC (.bl false))) aZ)))))
 (aG (tC (.bl true))))
noncomputable abbrev uj:List Str:=["_law_table","_law_beside","_law_places_here","_law_hands","_law_hand","_law_view","_law_other","_law_place"]
theorem sk{K:Fg}{G:GF}{vs:List V}{H:Hp}{Q:VK}{E:XK}(h:iC K G vs H Q E):fZ K G { nx:=fun _ H'=>Q .non H',rt:=Q } (start uj vs) H:=by
 obtain⟨M,x,pv,pe,y,qv,qe,pp,T,U,t,pl,k,rfl,rfl,tx,ty,ep,lp,P2,hn,q⟩:=h;have l5:T.k<=5:=tx.ok.pk.l5;show fZ K G _ [some _,some _,some _,some _,none,none,none,none] _;unfold fZ rY;refine em fun NX hNX=>?_;right;refine d5 T.k (by omega) (by omega) (by omega) (fun i σ H2=>∃(u4 u5 u6 u7:Option V),σ=[some (.ref x),some (.ref y),some (.ref pp),some (.int T.k),u4,u5,u6,u7]/\ah H H2) ⟨none,none,none,none,rfl,ah.refl _⟩ ?_ ?_
 ·rintro i σ H2 hi ⟨u4,u5,u6,u7,rfl,s2⟩
  right;obtain⟨dx1,fs1,hx1,hl1⟩:=(tx.same s2).at "view" (by decide+kernel) (by decide+kernel) (by decide+kernel) (by decide+kernel) (by decide+kernel) (by decide+kernel);refine fO ?_;right;refine⟨x,dx1,fs1,rfl,hx1,hl1,?_⟩;right;refine⟨M,x,pv,pe,T,i,rfl,tx.same s2,hi,fun p5 H3 hp5 s3 e3=>?_⟩;right;have s23:=s2.trans s3;obtain⟨dx2,fs2,hx2,hl2⟩:=(ty.same s23).at "view" (by decide+kernel) (by decide+kernel) (by decide+kernel) (by decide+kernel) (by decide+kernel) (by decide+kernel);refine fO ?_;right;refine⟨y,dx2,fs2,rfl,hx2,hl2,?_⟩;right;have hiU:i<U.k:=by rw[P2.k];exact hi
  refine⟨M,y,qv,qe,U,i,rfl,ty.same s23,hiU,fun p6 H4 hp6 s4 e4=>?_⟩;have w1:=cP P2.ok hi;have w2:=cP P2.ok' hiU;rw[P2.n]at w2;have e34:=s4 _ _ e3;have ep4:=s4 _ _ (s23 _ _ ep);have hv:i<T.vw.length:=by rw[P2.ok.len];exact hi
  refine em fun NX2 hNX2=>?_;right;rw[aS,lp];refine d5 T.n (by omega) (by omega) (by omega) (fun j σ H5=>∃(u7:Option V),σ=[some (.ref x),some (.ref y),some (.ref pp),some (.int T.k),some (.int i),some (.ref p5),some (.ref p6),u7]/\H5=H4) ⟨u7,rfl,rfl⟩ ?_ ?_
  ·rintro j σ H5 hj ⟨u7,rfl,rfl⟩
   have at_:∀{v:List Nat},Within T.n v->∀{z:Nat},z<T.n->v[z]?=some (v.getD z 0):=fun w z hz=>(d6 w hz).1;have pa:∀{z:Nat},z<T.n->pl[z]?=some (pl.getD z 0):=fun{z} hz=>by rw[FO,FN (by omega)];rfl
   obtain⟨c1,c2⟩:=nX w1 (qE P2.ok hi) hj;right;refine bH (SqL.of ep4) (cD (pa hj)) ?_;right;refine bH (SqL.of e4) (cD (at_ w2 (P2.ex.lt j hj))) ?_;right;refine bH (SqL.of e34) (cD (at_ w1 hj)) ?_;right;refine bH (SqL.of ep4) (cD (pa c2)) ?_;right;refine bH (SqL.of e4) (cD (at_ w2 (P2.ex.lt _ c2))) ?_;right;have e:=(P2.rel.al i j _ hv hj c2).mp c1.symm;rw[decide_eq_true (show((U.vw.getD i []).getD (pl.getD j 0) 0:Int)=((U.vw.getD i []).getD (pl.getD ((T.vw.getD i []).getD j 0) 0) 0:Nat)from congrArg _ e)];right;exact⟨_,rfl,rfl⟩
  ·rintro σ H5 ⟨u7,rfl,rfl⟩
   refine hNX2 _ _ ?_;clear hNX2;right;refine tJ (K:=K) (ns:=(T.vw.getD i []).map fun(s:Nat)=>((s:Nat):Int)) (by rw[<-cO];exact SqL.of e34) (by rw[FQ,w1.1];exact hn) fun L H6 s6 nL hL=>?_;right;refine tJ (K:=K) (ns:=(U.vw.getD i []).map fun(s:Nat)=>((s:Nat):Int)) (by rw[<-cO];exact SqL.of (s6 _ _ e4)) (by rw[FQ,w2.1];exact hn) fun L2 H7 s7 nM hM=>?_;right;rw[P2.cnt hi nL nM hL hM,decide_eq_true rfl];right;exact⟨_,_,_,_,rfl,((s23.trans s4).trans s6).trans s7⟩
 ·rintro σ H2 ⟨u4,u5,u6,u7,rfl,s2⟩
  refine hNX _ _ ?_;right;exact q _ s2
theorem tO{ss:List Nat}(h:il 0 ss):il 1 ss:=⟨by decide,h.l1,h.l5,by have:=h.sum;omega⟩
theorem yV{ss:List Nat}(h:il 1 ss):KM.bR 1 ss<=1:=Gs (Nat.le_of_dvd (by decide) ⟨_,(KM.lG ss 1 h.sum).symm⟩) (show KM.aR 1<=1 by decide)
theorem wA{H0 H:Hp}{p:Addr}{n:Nat}{f:Nat->Nat->Prop}{L:Nat}(h:AZ H0 H p n f L):∃rs:List Addr,H p=some (.lst (rs.map V.ref))/\rs.length=L/\∀i x,(rs.map V.ref)[i]?=some x->i<L/\∃r,x=.ref r/\H r=some (.lst (blV n (f i))):=by
 obtain⟨rs,e,q⟩:=h;have l:rs.length=L:=by rw[GJ q,G5]
 refine⟨rs,e,l,fun i x hx=>?_⟩;obtain⟨r,hr,rfl⟩:=qg hx;obtain⟨j,hj,er,_⟩:=bL q hr;have hi:i<L:=by rw[<-l];exact(FS.mp hr).1
 rw[GO hi]at hj;cases hj;exact⟨hi,r,rfl,er⟩
noncomputable abbrev EV(K:Fg):Sp:=pU K
noncomputable def uM(K:Fg)(G:GF):TS:=(ap (az (au (jU K) [] E0 (aa (ab 0) (aa (tC (.int 0)) (aa (tC (.int 60)) af)))) (gj K 2 (bF (ai 1) (bF (ai 2) gi))))
 (ap (bo (ba (tOp rEq (ab 1) (tC (.int 0)))) (az (tC (.int 1)) (ai 1)) aZ)
 (ap (az (tCB (cH K) (aa (ab 2) af)) (ai 3))
 (ap (az (au (jr K) [] E0 (aa (ab 0) (aa (tC (.int 7)) (aa (ab 1) af)))) (ai 4))
 (ap (az (au (iB K) [] E0 (aa (au (iM K) [] E0 (aa (ab 1) (aa (ab 2) af))) (aa (ab 4) af))) (ai 5))
 (ap (az (nD G.Table (ck K G) [] E0 (aa (ab 1) (aa (ab 2) af))) (ai 6))
 (ap (az (nD G.Table (ck K G) [] E0 (aa (ab 1) (aa (ab 2) af))) (ai 7))
 (ap (cc (dD (aa (tOp (rI (fun _ j=>0<j) fun i j=>.int (i%j)) (au (bq K) [] E0 (aa (ab 0) (aa (tC (.int 19)) af))) (tC (.int 6))) af)) (ai 8) (ap (az (au (fC K) [] E0 (aa (ab 0) (aa (tOp (rI0 fun i j=>.int (i+j)) (tC (.int 20)) (tOp (rI ID fun i j=>.int (i*j)) (tC (.int 8)) (ab 8))) (aa (ab 1) (aa (ab 3) (aa (tC (.int 14)) af)))))) (ai 9))
 (ap (az (au (dk K) [] E0 (aa (tOp (rI fI fun i j=>.int (i/j)) (au (bq K) [] E0 (aa (ab 0) (aa (tOp (rI0 fun i j=>.int (i+j)) (tC (.int 21)) (tOp (rI ID fun i j=>.int (i*j)) (tC (.int 8)) (ab 8))) af))) (tC (.int 7))) (aa (ab 3) af))) (ai 10))
 (ap (az (d2 G.Table "word" (d9 K G) [] E0 (ab 6) (aa (ab 10) (aa (ab 9) af))) (ai 11))
 (bo (dX (tB (au (fc K) [] E0 (aa (ab 11) (aa (d2 G.Table "word" (d9 K G) [] E0 (ab 7) (aa (ab 10) (aa (au (bO K 35) [] E0 (aa (ab 9) (aa (ab 4) af))) af))) (aa (ab 5) af)))))) (aG (tC (.bl false))) aZ)))))
 (ap (az (au (fC K) [] E0 (aa (ab 0) (aa (tC (.int 40)) (aa (ab 1) (aa (ab 3) (aa (tC (.int 14)) af)))))) (ai 9))
 (ap (bo (dX (tB (au (fc K) [] E0 (aa (d2 G.Table "truths" (dt K G) [] E0 (ab 6) (aa (ab 9) af)) (aa (d2 G.Table "truths" (dt K G) [] E0 (ab 7) (aa (au (bO K 35) [] E0 (aa (ab 9) (aa (ab 4) af))) af)) (aa (ab 5) af)))))) (aG (tC (.bl false))) aZ)
 (ap (az (au (nW K G) [] E0 (aa (ab 6) (aa (cX (aa (ab 9) (aa (cq (aa (tC (.str "sees")) (aa (tC (.int 0)) af))) af))) (aa (tC (.int 12)) af)))) (ai 12))
 (ap (az (au (nW K G) [] E0 (aa (ab 7) (aa (cX (aa (au (bO K 35) [] E0 (aa (ab 9) (aa (ab 4) af))) (aa (cq (aa (tC (.str "sees")) (aa (tC (.int 0)) af))) af))) (aa (tC (.int 12)) af)))) (ai 13))
 (ap (bo (ba (tOp rNe (tCB (cH K) (aa (ab 12) af)) (tCB (cH K) (aa (ab 13) af)))) (aG (tC (.bl false))) aZ)
 (ap (cc (lz bj bj K (aa (ab 12) (aa (ab 13) af))) (gj K 2 (bF (ai 11) (bF (ai 14) gi))) (bo (dX (tB (au (fc K) [] E0 (aa (ab 11) (aa (ab 14) (aa (ab 5) af)))))) (aG (tC (.bl false))) aZ))
 (aG (au (iC K G) [] E0 (aa (ab 6) (aa (ab 7) (aa (ab 5) (aa (ab 3) af))))))))))))))))))))
noncomputable abbrev Fp:List Str:=["_law_script","_law_cards","_law_sizes","_law_hands","_law_turn","_law_places_here","_law_table","_law_beside","_law_k","_law_saying_here","_law_group_here","_law_told","_law_ones","_law_others","_law_other"]
theorem EW{K:Fg}{G:GF}{vs:List V}{H:Hp}{Q:VK}{E:XK}(h:EV K vs H Q E):uM K G { nx:=fun _ H'=>Q .non H',rt:=Q } (start Fp vs) H:=by
 obtain⟨a,ns,rfl,hSc0,g⟩:=h;show uM K G _ [some _,none,none,none,none,none,none,none,none,none,none,none,none,none,none] _;unfold uM;refine bp ?_;nofun;refine⟨a,ns,0,60,rfl,hSc0,by decide,by decide,by decide,fun c0 ss tp0 q H1 s1 htp hq e1 eq1 pk0 hm=>?_⟩;refine eW (SqT.of e1) ?_;have hSc:=hSc0.same s1;nofun;refine em fun NX hNX=>?_;have key:∀c:Nat,1<=c->il c ss->KM.bR c ss<=1000->NX [some (.ref a),some (.int c),some (.ref q),none,none,none,none,none,none,none,none,none,none,none,none] H1:=by
  intro c hc pk few1;refine hNX _ _ ?_;clear hNX;have h1:=pk.l1;have h5:=pk.l5;have c12:=pk.c12;have few:KM.bR c ss<=2000:=by omega
  have okB:=TM.Ok.begun pk few;have hroom:(ss++[c-ss.sum]).sum=c:=by rw[GZ];have:=pk.sum;simp;omega
  have nB:(KM.aW (ss++[c-ss.sum]) c).length<=1000:=by rw[KM.iK pk.sum];exact few1
  refine bp ?_;nofun;rw[aS];refine bp ?_;nofun;refine⟨a,ns,7,c,rfl,hSc,by decide,by decide,c12,fun tp H2 t htp s2 et2 ht=>?_⟩;nofun;refine bp ?_;nofun;refine⟨c,q,ss,rfl,s2 _ _ eq1,pk,few,fun pd H3 s3 hpd D3=>?_⟩;nofun;refine⟨pd,tp,t,ss++[c-ss.sum],c,rfl,D3,s3 _ _ et2,hroom,ht,c12,by omega,fun pp pl Hw hpp s4 ep lp EX=>?_⟩;nofun;have s1w:=(s2.trans s3).trans s4;have etw:=s4 _ _ (s3 _ _ et2);have hScw:=hSc.same s1w;have eqw:=s1w _ _ eq1;have P0:bC (TM.begun c ss) (TM.begun c ss) t (fun i=>pl.getD i 0):=EU pk few ht EX;refine bp (iG (we ?_));right;intro x dx hx hdx hne;have st:ah Hw (upd (upd Hw dx (.own x)) x (.ins G.Table dx [])):=((ah.refl Hw).upd hdx _).upd hx _;refine⟨[],x,dx,q,c,ss,rfl,av,st _ _ eqw,pk,few,(fun b hb=>nomatch hb),(fun hb=>nomatch hb),fun H5 pv pe kx hpv hpe t5=>?_⟩;have s5:ah Hw H5:=fun b o e=>kx _ _ (aP e hx) (st _ _ e);have npv:Hw pv=none:=st.free hpv;have npe:Hw pe=none:=st.free hpe;refine⟨rfl,?_⟩;refine bp (iG (we ?_));right;intro y dy hy hdy hney;have st2:ah H5 (upd (upd H5 dy (.own y)) y (.ins G.Table dy [])):=((ah.refl H5).upd hdy _).upd hy _;refine⟨[pv,pe],y,dy,q,c,ss,rfl,av,st2 _ _ (s5 _ _ eqw),pk,few,(fun b hb z=>t5.al b hb (st2.free z)),(fun hb=>t5.al y hb hy),fun H6 qv qe ky hqv hqe t6y=>?_⟩;have s6:ah H5 H6:=fun b o e=>ky _ _ (aP e hy) (st2 _ _ e);have nqv5:H5 qv=none:=st2.free hqv;have nqe5:H5 qe=none:=st2.free hqe;refine⟨rfl,?_⟩;have t6x:Tb G [qv,qe,pv,pe] H6 x pv pe (TM.begun c ss):=t5.grow (N:=[qv,qe]) s6 (fun b hb=>by
   rcases FW.mp hb with z|z
   ·rw[z];exact nqv5
   ·rw[FR.mp z];exact nqe5) (fun b hb=>t6y.al b (by
   rcases FW.mp hb with z|z
   ·rw[z];exact F2
   ·rw[FR.mp z];exact FX _ F2))
  have sw6:=s5.trans s6;have subX:∀b∈[pv,pe],b∈[qv,qe,pv,pe]:=fun b hb=>FX _ (FX _ hb);have subY:∀b∈[qv,qe],b∈[qv,qe,pv,pe]:=fun b hb=>by
   rcases FW.mp hb with z|z
   ·rw[z];exact F2
   ·rw[FR.mp z];exact FX _ F2
  have offX:∀{b:Addr},H5 b=none->b∉[pv,pe]:=fun h z=>t5.al _ z h;have nqv:qv∉[pv,pe]:=offX nqv5;have nqe:qe∉[pv,pe]:=offX nqe5;have apart:∀{b:Addr},b∈[pv,pe]->b∉[qv,qe]:=fun{b} h z=>by
   rcases FW.mp z with y|y
   ·exact t5.al b h (by rw[y];exact nqv5)
   ·exact t5.al b h (by rw[FR.mp y];exact nqe5)
  have npv2:pv∉[qv,qe]:=apart F2;have npe2:pe∉[qv,qe]:=apart (FX _ F2);have newX:∀b∈[pv,pe],Hw b=none:=fun b hb=>by
   rcases FW.mp hb with z|z
   ·rw[z];exact npv
   ·rw[FR.mp z];exact npe
  have newY:∀b∈[qv,qe],Hw b=none:=fun b hb=>by
   rcases FW.mp hb with z|z
   ·rw[z];exact s5.free nqv5
   ·rw[FR.mp z];exact s5.free nqe5
  have lenT:∀{T U:TM},bC T U t (fun i=>pl.getD i 0)->T.c=c->T.ss=ss->pl.length=T.n/\T.n<=1000/\T.k=ss.length:=fun{T U} p hc hs=>by
   have hn:T.n=(KM.aW (ss++[c-ss.sum]) c).length:=by unfold TM.n TM.ws;rw[hc,hs]
   refine⟨by rw[lp,hn],by rw[hn];exact nB,by unfold TM.k;rw[hs]⟩
  have turned:∀{H':Hp} {v:V} {s:Sy} {Q':VK},ah Hw H'->aD H' v s->s.Ok c ss.length->s.words<=14->(∀v' H'',ah H' H''->aD H'' v' (s.bend t)->Q' v' H'')->bO K 35 [v,.ref tp] H' Q' E0:=fun{H' v s Q'} sH hv ho hw hq=>⟨v,tp,t,s,c,ss.length,rfl,hv,sH _ _ etw,ht.len,ho,by omega,hq⟩;refine em fun NX hNX=>?_;right;refine⟨a,ns,19,rfl,hScw.same sw6,by decide,by decide,?_⟩;right;obtain⟨m,hm19,hm6⟩:∃m:Nat,bG ns 19%6=(m:Int)/\m<6:=⟨(bG ns 19%6).toNat,by omega,by omega⟩;rw[hm19];refine d5 m (by omega) (by omega) (by omega) (fun i σ H7=>∃(u8 u9 u10 u11:Option V)(T U:TM),σ=[some (.ref a),some (.int c),some (.ref q),some (.int ss.length),some (.ref tp),some (.ref pp),some (.ref x),some (.ref y),u8,u9,u10,u11,none,none,none]/\ah Hw H7/\Tb G [qv,qe,pv,pe] H7 x pv pe T/\Tb G [qv,qe,pv,pe] H7 y qv qe U/\bC T U t (fun i=>pl.getD i 0)/\T.c=c/\T.ss=ss/\T.ds.length=i/\U.ds.length=i) ⟨none,none,none,none,_,_,rfl,sw6,t6x,t6y,P0,rfl,rfl,rfl,rfl⟩ ?_ ?_
  ·rintro i σ H7 hi ⟨u8,u9,u10,u11,T,U,rfl,s7,tx7,ty7,P7,hTc,hTs,hd1,hd2⟩
   obtain⟨lpn,n1000,hk⟩:=lenT P7 hTc hTs;refine bp ?_;nofun;refine⟨a,ns,20+8*(i:Int),c,ss.length,14,rfl,hScw.same s7,by omega,by omega,h1,h5,by decide,by decide,fun v s H8 s8 hS hok hw=>?_⟩;nofun;refine bp ?_;nofun;have s78:=s7.trans s8;refine⟨a,ns,21+8*(i:Int),rfl,hScw.same s78,by omega,by omega,?_⟩;nofun;refine⟨_,ss.length,rfl,h5,fun gp gg H9 s9 e9 pwg hgg=>?_⟩;nofun;have okT:s.Ok T.c T.k:=by rw[hTc,hk];exact hok
   have hgT:∀h∈gg,h<T.k:=fun h hh=>by rw[hk];exact hgg h hh
   have s89:=s8.trans s9;have tx9:=tx7.same s89;have ty9:=ty7.same s89;refine bp ?_;nofun;obtain⟨dx1,fs1,hx1,hl1⟩:=tx9.at "word" (by decide+kernel) (by decide+kernel) (by decide+kernel) (by decide+kernel) (by decide+kernel) (by decide+kernel);refine fO ?_;nofun;refine⟨x,dx1,fs1,rfl,hx1,hl1,?_⟩;nofun;refine⟨[qv,qe,pv,pe],x,pv,pe,gp,T,gg,v,s,rfl,tx9,e9,pwg,hgT,hS.keep s9.keep,okT,by omega,by omega,wl fun pA HA hpA kA eA txA=>?_⟩;nofun;have swA:ah Hw HA:=kA.new (s7.trans s89) newX;have tyA:=ty9.kp kA subX nqv nqe;have SA:=(hS.keep s9.keep).keep kA.keep;have gA:=kA.tup e9;have nA:pA∉[qv,qe,pv,pe]:=tx9.off hpA;obtain⟨dx2,fs2,hx2,hl2⟩:=tyA.at "word" (by decide+kernel) (by decide+kernel) (by decide+kernel) (by decide+kernel) (by decide+kernel) (by decide+kernel);refine fO ?_;nofun;refine⟨y,dx2,fs2,rfl,hx2,hl2,?_⟩;nofun;refine turned swA SA hok hw fun v' HB sB hv'=>?_;nofun;have okU:(s.bend t).Ok U.c U.k:=by rw[P7.c,P7.k];exact dQ P7.ht okT
   refine⟨[qv,qe,pv,pe],y,qv,qe,gp,U,gg,v',s.bend t,rfl,tyA.same sB,sB _ _ gA,pwg,fun h hh=>by rw[P7.k];exact hgT h hh,hv',okU,by rw[cg];omega,by omega,wl fun pC HC hpC kC eC tyC=>?_⟩;nofun;have swC:ah Hw HC:=kC.new (swA.trans sB) newY;have txC:=(txA.same sB).kp kC subY npv2 npe2;have eAC:=kC.lst (fun z=>nA (subY _ z)) (sB _ _ eA);have epC:=swC _ _ ep;rw[P7.n]at eC;refine⟨pA,pC,pp,T.n,T.tr s,U.tr (s.bend t),pl,rfl,eAC,eC,epC,lpn,fun j hj=>⟨P7.ex.lt j hj,P7.tr okT hj⟩,by omega,fun HD sD=>?_⟩;nofun;exact⟨_,_,_,_,T.word gg s,U.word gg (s.bend t),rfl,swC.trans sD,txC.same sD,tyC.same sD,P7.word pwg hgT okT,hTc,hTs,by show(T.ds++[_]).length=_;rw[Ga,hd1];rfl,by show(U.ds++[_]).length=_;rw[Ga,hd2];rfl⟩
  rintro σ H7 ⟨u8,u9,u10,u11,T,U,rfl,s7,tx7,ty7,P7,hTc,hTs,hd1,hd2⟩;refine hNX _ _ ?_;clear hNX;obtain⟨lpn,n1000,hk⟩:=lenT P7 hTc hTs;refine bp ?_;nofun;refine⟨a,ns,40,c,ss.length,14,rfl,hScw.same s7,by decide,by decide,h1,h5,by decide,by decide,fun v s H8 s8 hS hok hw=>?_⟩;nofun;have okT:s.Ok T.c T.k:=by rw[hTc,hk];exact hok
  have okU:(s.bend t).Ok U.c U.k:=by rw[P7.c,P7.k];exact dQ P7.ht okT
  refine bp ?_;nofun;have tx8:=tx7.same s8;obtain⟨dx1,fs1,hx1,hl1⟩:=tx8.at "truths" (by decide+kernel) (by decide+kernel) (by decide+kernel) (by decide+kernel) (by decide+kernel) (by decide+kernel);refine fO ?_;nofun;refine⟨x,dx1,fs1,rfl,hx1,hl1,?_⟩;nofun;refine⟨[qv,qe,pv,pe],x,pv,pe,T,v,s,rfl,tx8,hS,okT,by omega,fun pA HA hpA sA eA=>?_⟩;nofun;have s7A:=s8.trans sA;have swA:=s7.trans s7A;obtain⟨dx2,fs2,hx2,hl2⟩:=(ty7.same s7A).at "truths" (by decide+kernel) (by decide+kernel) (by decide+kernel) (by decide+kernel) (by decide+kernel) (by decide+kernel);refine fO ?_;nofun;refine⟨y,dx2,fs2,rfl,hx2,hl2,?_⟩;nofun;refine turned swA (hS.keep sA.keep) hok hw fun v' HB sB hv'=>?_;nofun;have s7B:=s7A.trans sB;refine⟨[qv,qe,pv,pe],y,qv,qe,U,v',s.bend t,rfl,ty7.same s7B,hv',okU,by rw[cg];omega,fun pC HC hpC sC eC=>?_⟩;nofun;have swC:=(swA.trans sB).trans sC;rw[P7.n]at eC;refine⟨pA,pC,pp,T.n,T.tr s,U.tr (s.bend t),pl,rfl,sC _ _ (sB _ _ eA),eC,swC _ _ ep,lpn,fun j hj=>⟨P7.ex.lt j hj,P7.tr okT hj⟩,by omega,fun HD sD=>?_⟩;nofun;have s7D:=(s7B.trans sC).trans sD;have s8D:=((sA.trans sB).trans sC).trans sD;have oks:∀u∈[s,Sy.sees 0],u.Ok T.c T.k:=fun u hu=>by
   rcases FW.mp hu with z|z
   ·rw[z];exact okT
   ·rw[FR.mp z];show 0<T.k;omega
  refine bp ?_;nofun;refine⟨by simp[FV],fun ta HE hta sE eE=>?_⟩;nofun;refine⟨by simp[FV],fun la HF hla sF eF=>?_⟩;nofun;have sDF:=sE.trans sF;have s7F:=s7D.trans sDF;refine⟨[qv,qe,pv,pe],x,pv,pe,la,T,[s,.sees 0],12,rfl,tx7.same s7F,⟨_,eF,.cons (hS.keep (s8D.trans sDF).keep) (.cons ⟨ta,rfl,sF _ _ eE⟩ .nil)⟩,Kh _,fun u hu=>⟨oks u hu,by
   rcases FW.mp hu with z|z
   ·rw[z];omega
   ·rw[FR.mp z];decide⟩,by decide,by omega,fun pG L1 HG hpG sG plG lnG=>?_⟩
  nofun;refine bp ?_;nofun;have s7G:=s7F.trans sG;have swG:=s7.trans s7G;refine turned swG (hS.keep ((s8D.trans sDF).trans sG).keep) hok hw fun v2 HI sI hv2=>?_;nofun;refine⟨by simp[FV],fun tb HJ htb sJ eJ=>?_⟩;nofun;refine⟨by simp[FV],fun lb HK hlb sK eK=>?_⟩;nofun;have sGK:=(sI.trans sJ).trans sK;have s7K:=s7G.trans sGK;refine⟨[qv,qe,pv,pe],y,qv,qe,lb,U,[s,Sy.sees 0].map (Sy.bend t),12,rfl,ty7.same s7K,⟨_,eK,.cons (hv2.keep (sJ.trans sK).keep) (.cons ⟨tb,rfl,sK _ _ eJ⟩ .nil)⟩,Kh _,fun u hu=>by
   obtain⟨w,hw',rfl⟩:=Gh.mp hu;refine⟨by rw[P7.c,P7.k];exact dQ P7.ht (oks w hw'),?_⟩;rw[cg];rcases FW.mp hw' with z|z
   ·rw[z];omega
   ·rw[FR.mp z];decide,by decide,by omega,fun pL L2 HL hpL sL plL lnL=>?_⟩
  have eL:=P7.len (sys:=[s,Sy.sees 0]) (Kh _) oks lnG lnL;subst eL;nofun;have sGL:=sGK.trans sL;have s7L:=s7K.trans sL;have swL:=s7.trans s7L;obtain⟨r1,er1,l1,g1⟩:=wA plG;obtain⟨r2,er2,l2,g2⟩:=wA plL;have hL1:=lnG.le;have er1L:=sGL _ _ er1;rw[P7.n]at g2;refine bp ?_;nofun;rw[FQ,FQ,l1,l2,decide_eq_true rfl];nofun;refine em fun NX hNX=>?_;right;refine Ao (S1:=bj) (S2:=bj) _ _ (SqL.of er1L) (SqL.of er2) (fun j σ H'=>∃(u11 u14:Option V),σ=[some (.ref a),some (.int c),some (.ref q),some (.int ss.length),some (.ref tp),some (.ref pp),some (.ref x),some (.ref y),u8,some v,u10,u11,some (.ref pG),some (.ref pL),u14]/\ah HL H') ⟨u11,none,rfl,ah.refl _⟩ ?_ ?_ ?_
  ·rintro j σ H' ⟨u11,u14,rfl,s'⟩
   exact⟨SqL.of (s' _ _ er1L),SqL.of (s' _ _ er2)⟩
  ·rintro j y1 y2 TT σ H' H'' h1' h2' ⟨u11,u14,rfl,s'⟩ hT sT eT
   refine eW (SqT.of eT) ?_;obtain⟨hj,a1,rfl,ea1⟩:=g1 j _ h1';obtain⟨_,a2,rfl,ea2⟩:=g2 j _ h2';have sLT:=s'.trans sT;right;refine⟨a1,a2,pp,T.n,T.told [s,.sees 0] j,U.told ([s,Sy.sees 0].map (Sy.bend t)) j,pl,rfl,sLT _ _ (sGL _ _ ea1),sLT _ _ ea2,sLT _ _ (swL _ _ ep),lpn,fun i hi=>⟨P7.ex.lt i hi,P7.told (sys:=[s,Sy.sees 0]) (Kh _) oks j hi⟩,by omega,fun HM sM=>?_⟩;right;exact⟨_,_,rfl,sLT.trans sM⟩
  ·rintro σ H' ⟨u11,u14,rfl,s'⟩
   refine hNX _ _ ?_;clear hNX;have s7H:=s7L.trans s';right;refine⟨[qv,qe,pv,pe],x,pv,pe,y,qv,qe,pp,T,U,t,pl,ss.length,rfl,hk,tx7.same s7H,ty7.same s7H,(swL.trans s') _ _ ep,lpn,P7,n1000,fun HM sM=>?_⟩;exact g _
 nofun;by_cases z:c0=0
 ·subst z
  rw[if_pos (by decide)];nofun;exact key 1 (FU _) (tO pk0) (Gs (yV (tO pk0)) (by decide))
 ·rw[if_neg (by simpa using z)]
  nofun;exact key c0 (by omega) pk0 (by omega)
end
section
open PySem.Spec
theorem DA.stay{a:Addr}{kvs:List (IA×V)}{h1 h2:Heap}(d:DA a kvs h1)(k:∀o,h1.get? a=some o->h2.get? a=some o):DA a kvs h2:=by
 obtain⟨z,y,P,w,vs,r,o,es,ep,e,c⟩:=d;exact⟨z,y,P,w,vs,r,o,es,ep,k _ e,c⟩
theorem DB.stay{a:Addr}{zs:List (List IK×Addr×V)}{h1 h2:Heap}(d:DB a zs h1)(k:∀o,h1.get? a=some o->h2.get? a=some o):DB a zs h2:=by
 obtain⟨z,y,xs,r,o,es,ep,e,c⟩:=d;exact⟨z,y,xs,r,o,es,ep,k _ e,c⟩
theorem DA.ok{P:Program}{w:World}{H:Hp}{h:Heap}{a:Addr}{kvs:List (IA×V)}(d:DA a kvs h):br P w H h a (dA a kvs):=by
 obtain⟨_,_,_,_,_,_,o,_,_,e,_⟩:=id d;exact⟨d,⟨o,e⟩,fun _ _ d k=>d.stay k⟩
theorem DB.ok{P:Program}{w:World}{H:Hp}{h:Heap}{a:Addr}{zs:List (List IK×Addr×V)}(d:DB a zs h):br P w H h a (dB a zs):=by
 obtain⟨_,_,_,_,o,_,_,e,_⟩:=id d;exact⟨d,⟨o,e⟩,fun _ _ d k=>d.stay k⟩
theorem ZX.length{zs:List (List IK×Addr×V)}{xs:List (List IK×Addr×Value)}(r:ZX zs xs):zs.length=xs.length:=GJ r
theorem ZX.val{zs:List (List IK×Addr×V)}{xs:List (List IK×Addr×Value)}(r:ZX zs xs)(k:List IK):eG (atZ zs k) ((atKey xs k).map (·.2)):=by
 unfold ZX at r
 induction r with
 |nil=>exact IE
 | @cons p q ps qs h t ih=>
  obtain⟨h1,_,h2⟩:=h;by_cases e:p.1=k
  ·have e':q.1=k:=h1.symm.trans e
   have b:atKey (q::qs) k=some q.2:=by simp[atKey,Gu,e']
   have c:atZ (p::ps) k=some p.2.2:=by simp[atZ,Gu,e]
   rw[c,b];exact h2
  ·have e':¬q.1=k:=fun z=>e (h1.trans z)
   have b:atKey (q::qs) k=atKey qs k:=by simp[atKey,Gu,e']
   have c:atZ (p::ps) k=atZ ps k:=by simp[atZ,Gu,e]
   rw[c,b];exact ih
noncomputable def js(zs:List (List IK×Addr×V))(k:List IK)(b:Addr)(v:V):List (List IK×Addr×V):=
 if(atZ zs k).isSome then zs.map (fun x=>if x.1=k then(x.1,x.2.1,v)else x)else zs++[(k,b,v)]
theorem ZX.repl{zs:List (List IK×Addr×V)}{xs:List (List IK×Addr×Value)}(r:ZX zs xs)(k:List IK){v:V}{u:Value}(rv:aB v u):ZX (zs.map fun x=>if x.1=k then(x.1,x.2.1,v)else x) (xs.map (putAt k u)):=by
 unfold ZX at r ⊢
 induction r with
 |nil=>exact .nil
 | @cons p q ps qs h t ih=>
  rw[F6,F6];refine .cons ?_ ih;obtain⟨h1,h2,h3⟩:=h;unfold putAt;by_cases e:p.1=k
  ·rw[if_pos e,if_pos (h1.symm.trans e)];exact⟨h1,h2,rv⟩
  ·rw[if_neg e,if_neg (fun z=>e (h1.trans z))];exact⟨h1,h2,h3⟩
theorem ZX.put{zs:List (List IK×Addr×V)}{xs:List (List IK×Addr×Value)}(r:ZX zs xs)(k:List IK){b:Addr}{v:V}{u:Value}(rv:aB v u):ZX (js zs k b v) (storedH xs k b u):=by
 have e:(atZ zs k).isSome=(atKey xs k).isSome:=by
  rw[(r.val k).isSome_eq,Option.isSome_map]
 unfold js storedH;rw[e];by_cases q:(atKey xs k).isSome=true
 ·rw[if_pos q,if_pos q];exact r.repl k rv
 ·rw[if_neg q,if_neg q];exact Paired.snoc r ⟨rfl,rfl,rv⟩
theorem DD(zs:List (List IK×Addr×V))(k j:List IK)(b:Addr)(v:V):atZ (js zs k b v) j=if j=k then some v else atZ zs j:=by
 have hm:∀ys:List (List IK×Addr×V),atZ (ys.map fun x=>if x.1=k then(x.1,x.2.1,v)else x) j=(atZ ys j).map fun y=>if j=k then v else y:=by
  intro ys
  induction ys with
  |nil=>rfl
  |cons p r ih=>
   rw[F6];unfold atZ at ih ⊢;by_cases h:p.1=k
   ·rw[if_pos h]
    by_cases e:p.1=j
    ·simp[Gu,e,e.symm.trans h]
    ·simp[Gu,e];simpa using ih
   ·rw[if_neg h]
    by_cases e:p.1=j
    ·have:¬j=k:=fun z=>h (e.trans z)
     simp[Gu,e,this]
    ·simp[Gu,e];simpa using ih
 have ha:∀ys:List (List IK×Addr×V),atZ ys k=none->atZ (ys++[(k,b,v)]) j=if j=k then some v else atZ ys j:=by
  intro ys
  induction ys with
  |nil=>
   intro _;by_cases e:k=j
   ·simp[atZ,Gu,e]
   ·have:¬j=k:=fun z=>e z.symm
    simp[atZ,Gu,e,this]
  |cons p r ih=>
   intro hn;have hk:¬p.1=k:=fun z=>by simp[atZ,Gu,z]at hn
   have hn':atZ r k=none:=by simpa[atZ,Gu,hk]using hn
   have ih':=ih hn';by_cases e:p.1=j
   ·have:¬j=k:=fun z=>hk (e.trans z)
    simp[atZ,Gu,e,this]
   ·have c:atZ (p::(r++[(k,b,v)])) j=atZ (r++[(k,b,v)]) j:=by simp[atZ,Gu,e]
    have c':atZ (p::r) j=atZ r j:=by simp[atZ,Gu,e]
    rw[NZ,c,c',ih']
 unfold js;cases q:atZ zs k with
 |some y=>
  rw[if_pos (show(some y).isSome=true from rfl),hm];by_cases e:j=k
  ·subst e;rw[q,if_pos rfl];simp
  ·rw[if_neg e];cases atZ zs j<;>simp[e]
 |none=>rw[if_neg (show¬(none:Option V).isSome=true by decide)];exact ha zs q
theorem kG(zs:List (List IK×Addr×V))(k:List IK)(b:Addr)(v:V):(js zs k b v).length<=zs.length+1:=by
 unfold js
 split
 ·rw[FQ];omega
 ·rw[Ga,Gm,Oh];omega
theorem Ce{zs:List (List IK×Addr×V)}{k:List IK}{b:Addr}{v:V}{z:List IK×Addr×V}(h:z∈js zs k b v):(∃z0∈zs,z.1=z0.1/\z.2.1=z0.2.1)\/(z.1=k/\z.2.1=b):=by
 unfold js at h
 split at h
 ·obtain⟨z0,h0,rfl⟩:=Gh.mp h
  refine .inl ⟨z0,h0,?_⟩
  split<;>exact⟨rfl,rfl⟩
 ·rcases Gv.mp h with h|h
  ·exact .inl ⟨z,h,rfl,rfl⟩
  ·rw[FR.mp h];exact .inr ⟨rfl,rfl⟩
section
variable{X:Cx}{pins:List (Addr×Obj)}{σ:St}{H:Hp}{s:Shared}{a:Addr}{y v:V}{u r:Value}{A:Around}{E:Value->Shared->Prop}{srt:Bool}{f:MK->Option V}{n:Nat}{k:MK}
theorem qF{k:IA}(h:iaV y=some k)(ry:aB y u):lE k u=true:=by
 cases y with
 |non=>cases h;cases ry;rfl
 |bl b=>cases h;cases ry;simp[lE]
 |int i=>cases h;obtain⟨t,rfl⟩:=ry;simp[lE]
 |_=>cases h
theorem xZ{P:Program}{w:World}:∀{ks:List IA} {ys:List V} {us:List Value},ys.map iaV=ks.map some->aA ys us->ItemsAre (cu P w) ks us
 | [],[],_,_,.nil=>.nil
 |k::ks,y::ys,_,e,.cons h t=>by
  rw[F6,F6]at e;injection e with e1 e2
  exact .cons (qF e1 h) (xZ e2 t)
 | [],_::_,_,e,_=>by simp at e
 |_::_,[],_,e,_=>by simp at e
theorem A1(ok:HOk X.prog X.w H s.heap){c:Addr}{xs:List V}(e:H c=some (.tup xs)):∃its,aA xs its/\∃o n,s.heap.get? c=some o/\o.cls=.type "tuple"/\o.data=.seq its.toArray n:=by
 obtain⟨_,its,r,o,h1,h2,⟨n,h3⟩,_⟩:=(show br X.prog X.w H s.heap c (.tup xs)from ok c _ e);exact⟨its,r,o,n,h1,h2,h3⟩
theorem DE(ok:HOk X.prog X.w H s.heap){k:IK}(h:j8 H y k)(ry:aB y u):cy X.prog X.w s.heap k u:=by
 cases k with
 |inl a=>exact qF h ry
 |inr as=>
  obtain⟨c,ys,rfl,e,q⟩:=h;cases ry;obtain⟨its,rv,o,n,h1,h2,h3⟩:=A1 ok e;exact⟨c,rfl,o,its.toArray,n,h1,h2,h3,by simpa using xZ q rv⟩
theorem Cf(ok:HOk X.prog X.w H s.heap){xs:List V}{ks:List IK}{us:List Value}(p:Paired (j8 H) xs ks):aA xs us->Paired (cy X.prog X.w s.heap) ks us:=by
 induction p generalizing us with
 |nil=>intro q;cases q;exact .nil
 |cons h t ih=>intro q;cases q with
  |cons r q=>exact .cons (DE ok h r) (ih q)
theorem uN(ok:HOk X.prog X.w H s.heap){c:Addr}{ks:List IK}(h:ca H (.ref c) (.inr ks)):fJ X.prog X.w s.heap ks c:=by
 obtain⟨c',xs,e,ec,q⟩:=h;cases e;obtain⟨its,rv,o,n,h1,h2,h3⟩:=A1 ok ec;exact⟨o,its.toArray,n,h1,h2,h3,by simpa using Cf ok q rv⟩
theorem sn(h:ca H y k)(hs:gD k=true):∃c ks,y=.ref c/\k=.inr ks:=by
 cases k with
 |inl _=>cases hs
 |inr ks=>obtain⟨c,xs,e,_⟩:=h;exact⟨c,ks,e,rfl⟩
theorem A2{P P':Program}{w w':World}{es:List M6}{vs:List (IA×Value)}(h:Pairs (cu P w) es vs):Pairs (cu P' w') es vs:=by
 induction h with
 |nil=>exact .nil
 |cons a b _ ih=>exact .cons a b ih
theorem uO{kvs:List (IA×V)}(ok:HOk X.prog X.w H s.heap)(e:H a=some (dA a kvs)):kvs.length<=FY/\(a==HH)=false/\∃vs,KV kvs vs/\s.heap.DictOf (cu X.prog X.w) a vs:=by
 obtain⟨⟨z,y,P,w,vs,r,o,es,ep,h1,h2,h3,h4,h5,h6⟩,_⟩:=(show br X.prog X.w H s.heap a (dA a kvs)from ok a _ e);exact⟨z,y,vs,r,o,es,ep,h1,h2,h3,h4,A2 h5,h6⟩
theorem uP{zs:List (List IK×Addr×V)}(ok:HOk X.prog X.w H s.heap)(e:H a=some (dB a zs))(hk:∀z∈zs,ca H (.ref z.2.1) (.inr z.1)):zs.length<=FY/\(a==HH)=false/\∃xs,ZX zs xs/\s.heap.DictOfH (kP X.prog X.w) a xs:=by
 obtain⟨⟨z,y,xs,r,o,es,ep,h1,h2,h3,h4,h5⟩,_⟩:=(show br X.prog X.w H s.heap a (dB a zs)from ok a _ e);refine⟨z,y,xs,r,o,es,ep,h1,h2,h3,h4,?_,h5⟩;have all:∀{l:List (List IK×Addr×V)} {m:List (List IK×Addr×Value)},ZX l m->(∀z∈l,ca H (.ref z.2.1) (.inr z.1))->∀x∈m,(kP X.prog X.w).is s.heap x.1 x.2.1:=by
  intro l m q;unfold ZX at q
  induction q with
  |nil=>intro _ x hx;exact nomatch hx
  | @cons p q ps qs hq t ih=>
   intro hk x hx;rcases FW.mp hx with e|hx
   ·subst e
    have:=hk p (F2 ..);rw[hq.1,hq.2.1]at this;exact uN ok this
   ·exact ih (fun z hz=>hk z (FX _ hz)) x hx
 exact all r hk
theorem Fq{Q:Value->Shared->Prop}(hu:A.units+2<cLine)(I:Inv X pins σ H s)(d:Dx H a srt f n)(hk:ca H y k)(hs:gD k=srt)(ry:aB y u)(ev:f k=some v)(h:∀w' s',Inv X pins σ H s'->aB v w'->Q w' s'):
  wpAny (model X.prog X.w) A (getItem (.ref a) u) Q E s:=by
 rcases d with⟨rfl,kvs,e,hf,_⟩|⟨rfl,zs,e,hz,hf,_⟩
 ·cases k with
  |inr _=>cases hs
  |inl k=>
   obtain⟨z,hd,vs,rel,dd⟩:=uO I.hok e;obtain⟨w',hw,rw'⟩:=eG.some_of (v:=v) (o:=valueAt vs k) (by rw[<-ev,<-hf k];exact rel.val k);exact N1 (knd:=cu X.prog X.w) (qF hk ry) dd.mapOf hw (h w' _ (I.tok _) rw')
 ·obtain⟨c,ks,rfl,rfl⟩:=sn hk hs
  cases ry;obtain⟨z,hd,xs,rel,dd⟩:=uP I.hok e hz;obtain⟨w',hw,rw'⟩:=eG.some_of (v:=v) (o:=(atKey xs ks).map (·.2)) (by rw[<-ev,<-hf ks];exact rel.val ks);obtain⟨p,hp,hp2⟩:=Option.map_eq_some_iff.mp hw;refine wpAny_getItem_heap (knd:=kP X.prog X.w) hu (uN I.hok hk) dd hp ?_;rw[hp2];exact h w' _ (I.tok _) rw'
theorem jX{o:HO}:Off a H (upd H a o):=fun b hb=>aO hb
theorem A3{h':Heap}{t':Nat}{kvs kvs':List (IA×V)}{vs':List (IA×Value)}(I:Inv X pins σ H s)(e:H a=some (dA a kvs))(hs:Gp a s.heap h')(z:kvs'.length<=FY)(hd:(a==HH)=false)(rel:KV kvs' vs')(dd:h'.DictOf (cu X.prog X.w) a vs'):
  Inv X pins σ (upd H a (dA a kvs')) { s with heap:=h',toks:=t' }:=by
 have he:∃q,h'.get? a=some q:=let⟨q,_,_,hq,_⟩:=dd;⟨q,hq⟩;exact xL I (by rw[e];exact IE) hs he (DA.ok ⟨z,hd,X.prog,X.w,vs',rel,dd⟩)
theorem A4{h':Heap}{t':Nat}{zs zs':List (List IK×Addr×V)}{xs':List (List IK×Addr×Value)}(I:Inv X pins σ H s)(e:H a=some (dB a zs))(hs:Gp a s.heap h')(z:zs'.length<=FY)(hd:(a==HH)=false)(rel:ZX zs' xs')(dd:h'.DictOfH (kP X.prog X.w) a xs'):
  Inv X pins σ (upd H a (dB a zs')) { s with heap:=h',toks:=t' }:=by
 obtain⟨o,es,ep,h1,h2,h3,h4,_,h5⟩:=dd;exact xL I (by rw[e];exact IE) hs ⟨o,h1⟩ (DB.ok ⟨z,hd,xs',rel,o,es,ep,h1,h2,h3,h4,h5⟩)
theorem ya{kvs:List (IA×V)}{k:IA}(e:H a=some (dA a kvs))(hf:∀k,eI kvs k=f (.inl k))(hn:kvs.length<=n):Dx (upd H a (dA a (lD kvs k v))) a false (iI f (.inl k) v) (n+1):=by
 refine .inl ⟨rfl,_,av,fun j=>?_,?_⟩
 ·rw[BE]
  unfold iI;by_cases q:j=k
  ·rw[if_pos q,if_pos (by rw[q])]
  ·rw[if_neg q,if_neg (fun z=>q (NG z)),hf j]
 ·have:=kr kvs k v;omega
theorem yb{zs:List (List IK×Addr×V)}{k:List IK}{c:Addr}(e:H a=some (dB a zs))(hz:∀z∈zs,ca H (.ref z.2.1) (.inr z.1))(hk:ca H (.ref c) (.inr k))(hf:∀k,atZ zs k=f (.inr k))(hn:zs.length<=n):
  Dx (upd H a (dB a (js zs k c v))) a true (iI f (.inr k) v) (n+1):=by
 have kp:dg H (upd H a (dB a (js zs k c v))):=jX.keepD fun xs q=>by rw[e]at q;cases q
 refine .inr ⟨rfl,_,av,fun z h=>?_,fun j=>?_,?_⟩
 ·rcases Ce h with⟨z0,h0,e1,e2⟩|⟨e1,e2⟩
  ·rw[e1,e2];exact(hz z0 h0).keep kp
  ·rw[e1,e2];exact hk.keep kp
 ·rw[DD]
  unfold iI;by_cases q:j=k
  ·rw[if_pos q,if_pos (by rw[q])]
  ·rw[if_neg q,if_neg (fun z=>q (JD z)),hf j]
 ·have:=kG zs k c v;omega
theorem Fr{Q:Unit->Shared->Prop}(hu:A.units+2<cLine)(I:Inv X pins σ H s)(d:Dx H a srt f n)(hk:ca H y k)(hs:gD k=srt)(hn:n<FY)(ry:aB y u)(rv:aB v r)
  (h:∀H' s',Off a H H'->Dx H' a srt (iI f k v) (n+1)->Inv X pins σ H' s'->Q () s'):wpAny (model X.prog X.w) A (setItem (.ref a) u r) Q E s:=by
 rcases d with⟨rfl,kvs,e,hf,hl⟩|⟨rfl,zs,e,hz,hf,hl⟩
 ·cases k with
  |inr _=>cases hs
  |inl k=>
   obtain⟨z,hd,vs,rel,dd⟩:=uO I.hok e;have hvz:vs.length<=FY:=by rw[<-rel.length];exact z
   have hl':(lD kvs k v).length<=FY:=by have:=kr kvs k v;omega
   refine wpAny_setItem_pairs (knd:=cu X.prog X.w) (hsz:=hvz) (qF hk ry) dd fun h' dd' hs'=>h _ _ jX (ya e hf hl) ?_;exact A3 I e hs' hl' hd (rel.put k rv) dd'
 ·obtain⟨c,ks,rfl,rfl⟩:=sn hk hs
  cases ry;obtain⟨z,hd,xs,rel,dd⟩:=uP I.hok e hz;have hvz:xs.length<=FY:=by rw[<-rel.length];exact z
  have hl':(js zs ks c v).length<=FY:=by have:=kG zs ks c v;omega
  refine wpAny_setItem_heap (knd:=kP X.prog X.w) (hsz:=hvz) hu (uN I.hok hk) dd fun h' dd' hs'=>h _ _ jX (yb (c:=c) e hz hk hf hl) ?_;exact A4 I e hs' hl' hd (rel.put ks rv) dd'
theorem qG{d a:Addr}{knd:HeapKind X.prog X.w (List IK)}{xs:List (List IK×Addr×Value)}{k:List IK}{v:Value}{Q:Value->Shared->Prop}(hu:knd.room A)(hkey:knd.is s.heap k a)(hm:s.heap.DictOfH knd d xs)
  (h1:∀p,atKey xs k=some p->Q p.2 { s with toks:=s.toks+knd.draws k })
  (h2:atKey xs k=none->∀h',h'.DictOfH knd d (storedH xs k a v)->Gp d s.heap h'->Q v { s with heap:=h',toks:=s.toks+knd.draws k })
  (hsz:xs.length<=FY):wpAny (model X.prog X.w) A (KR d (.ref a) v) Q E s:=by
 obtain⟨o,es,ep,ho,hc,hd,he,his,hn⟩:=hm;unfold KR
 try with_reducible refine HX ?_
 refine FM (knd.pyHash hu hkey ?_);refine FM (wpAny_dictFind_heap (s:={ s with toks:=s.toks+knd.draws k }) hu hkey ho hd he his hn ?_ ?_)
 ·intro hno
  have hnot:k∉xs.map (·.1):=not_mem_keys_of_get hno;refine FM (Jw (FM (wpAny_updateDictKeys (hz:=by have e:=size_of_entries he;omega) (s:={ s with toks:=s.toks+knd.draws k }) ho hd (FT (h2 (J3 hno) _ ⟨_,_,ep+1,GS _ ho (Obj.isFreed_of_dict (MI hd _)),
   hc.mapDictKeys _,MI hd _,?_,?_,?_⟩ (Jc ..))))))
  ·rw[NN (J3 hno)]
   simp[he,entryOfKey]
  ·rw[NN (J3 hno)]
   intro x hx;rcases Gv.mp hx with hx|hx
   ·exact knd.keeps (his x hx) ho hd (Jc ..)
   ·simp only[FR]at hx
    subst hx;exact knd.keeps hkey ho hd (Jc ..)
  ·rw[NN (J3 hno)]
   rw[Gj,NC];refine⟨hn,by simp,?_⟩;intro x hx y hy;simp only[F6,Jr,FR]at hy;subst hy;exact fun e=>hnot (e▸hx)
 ·intro j p hj
  refine FM (wpAny_dictEntries (s:={ s with toks:=s.toks+knd.draws k }) ho hd ?_);rw[entry_at he j,hj];exact FM (Jw (FT (h1 p (atKey_of_get hn hj))))
theorem kj{d:Addr}{key dflt:Value}{Q:Fin->Shared->Prop}(hT:s.TypeIs (.ref d) "dict")(hd:(d==HH)=false)(h:wpAny (model X.prog X.w) A (KR d key dflt) (fun v s'=>Q (.done (.ret v)) s') E s):
  wpAny (model X.prog X.w) A (Builtin.«dict.setdefault» ⟨[.ref d,key,dflt],[]⟩) Q E s:=by
 unfold Builtin.«dict.setdefault»;refine FM ?_;unfold Builtin.Dict.keyAndDefault;refine FM (wpAny_notOrdered_dict hT ?_);show wpAny _ _ (pure (d,key,some dflt)) _ _ s;refine FT ?_;show wpAny _ _ (if(d==HH)=true then _ else(KR d key dflt>>=_)) _ _ s;rw[if_neg (by rw[hd];exact F3)];exact FM (Hd h (fun v s' q=>FT q) fun _ _ x=>x)
theorem wB(I:Inv X pins σ H s)(d:Dx H a srt f n):s.TypeIs (.ref a) "dict"/\∀b,Gi a=.ref b->∃ob,s.heap.get? b=some ob/\ob.dict=none:=by
 rcases d with⟨_,kvs,e,_,_⟩|⟨_,zs,e,hz,_,_⟩
 ·obtain⟨_,_,vs,_,dd⟩:=uO I.hok e
  refine⟨dd.typeIs,fun b q=>?_⟩;cases q;obtain⟨ob,_,_,h1,h2,_⟩:=dd;exact⟨ob,h1,h2.2.1⟩
 ·obtain⟨_,_,xs,_,dd⟩:=uP I.hok e hz
  refine⟨dd.typeIs,fun b q=>?_⟩;cases q;obtain⟨ob,_,_,h1,h2,_⟩:=dd;exact⟨ob,h1,h2.2.1⟩
theorem EY{Q:Value->Shared->Prop}(hu:A.units+2<cLine)(I:Inv X pins σ H s)(d:Dx H a srt f n)(hk:ca H y k)(hs:gD k=srt)(hn:n<FY)(ry:aB y u)(rv:aB v r)
  (h1:∀x w' s',f k=some x->aB x w'->Inv X pins σ H s'->Q w' s')
  (h2:f k=none->∀H' s',Off a H H'->Dx H' a srt (iI f k v) (n+1)->Inv X pins σ H' s'->Q r s'):wpAny (model X.prog X.w) A (call (.builtin "dict.setdefault") [.ref a,u,r]) Q E s:=by
 have hT:=(wB I d).1;refine G0 KS hT PySem.F.entry_dict_setdefault ?_ (PySem.F.args_dict_setdefault_3 _ _ _);rcases d with⟨rfl,kvs,e,hf,hl⟩|⟨rfl,zs,e,hz,hf,hl⟩
 ·cases k with
  |inr _=>cases hs
  |inl k=>
   obtain⟨z,hd,vs,rel,dd⟩:=uO I.hok e;have hvz:vs.length<=FY:=by rw[<-rel.length];exact z
   have hl':(lD kvs k v).length<=FY:=by have:=kr kvs k v;omega
   refine kj hT hd (kt_dictSetDefault_pairs (knd:=cu X.prog X.w) (hsz:=hvz) (qF hk ry) dd (fun w' hw=>?_) fun hno h' dd' hs'=>?_)
   ·have q:=rel.val k
    rw[hf k,hw]at q;cases ef:f (.inl k)with
    |none=>rw[ef]at q;exact(show False from q).elim
    |some x=>rw[ef]at q;exact⟨w',rfl,h1 x w' _ ef q (I.tok _)⟩
   ·have q:=rel.val k
    rw[hf k,hno]at q;have ef:f (.inl k)=none:=by
     cases ef:f (.inl k)with
     |none=>rfl
     |some x=>rw[ef]at q;exact(show False from q).elim
    exact⟨r,rfl,h2 ef _ _ jX (ya e hf hl) (A3 I e hs' hl' hd (rel.put k rv) dd')⟩
 ·obtain⟨c,ks,rfl,rfl⟩:=sn hk hs
  cases ry;obtain⟨z,hd,xs,rel,dd⟩:=uP I.hok e hz;have hvz:xs.length<=FY:=by rw[<-rel.length];exact z
  have hl':(js zs ks c v).length<=FY:=by have:=kG zs ks c v;omega
  refine kj hT hd (qG (X:=X) (knd:=kP X.prog X.w) hu (uN I.hok hk) dd (fun p hp=>?_) (fun hno h' dd' hs'=>?_) hvz)
  ·have q:=rel.val ks
   rw[hf ks,hp]at q;cases ef:f (.inr ks)with
   |none=>rw[ef]at q;exact(show False from q).elim
   |some x=>rw[ef]at q;exact⟨p.2,rfl,h1 x p.2 _ ef q (I.tok _)⟩
  ·have q:=rel.val ks
   rw[hf ks,hno]at q;have ef:f (.inr ks)=none:=by
    cases ef:f (.inr ks)with
    |none=>rfl
    |some x=>rw[ef]at q;exact(show False from q).elim
   exact⟨r,rfl,h2 ef _ _ jX (yb (c:=c) e hz hk hf hl) (A4 I e hs' hl' hd (rel.put ks rv) dd')⟩
end
section
variable{X:Cx}
theorem yc{o i:Expr}{pos:Pos}{td ty:TE}(hu:X.A.units+64<cLine)(ho:PE X o td)(hi:PE X i ty)(hs:BF i):PE X (.Subscript o i pos) (tOp uI td ty):=by
 intro pins s σ H Q I h;refine xM Lu.lookup hs (thn (ho pins s σ H _ I h) fun u s1 ⟨x,H1,I1,rx,q1⟩=>thn (hi pins s1 σ H1 _ I1 q1) fun iv s2 ⟨y,H2,I2,ry,a,srt,f,n,k,v,ex,d,hk,hs',ev,q2⟩=>?_);subst ex;obtain rfl:u=Gi a:=rx;exact⟨(wB I2 d).1,Fq (by omega) I2 d hk hs' ry ev fun w' s3 I3 rw'=>⟨v,H2,I3,rw',q2⟩⟩
theorem Fs(hu:X.A.units+64<cLine):ye X yz:=by
 intro pins s σ H o i v ov iv u Q I ro ri rv h;obtain⟨a,srt,f,n,k,rfl,d,hk,hs,hn,q⟩:=h;cases ro;exact Fr (by omega) I d hk hs hn ri rv fun H' s' o' d' I'=>⟨H',I',q H' o' d'⟩
theorem wC{pos:Pos}:PE X (.Dict [] [] pos) pY:=fun pins s σ H Q I h=>by
 obtain⟨srt,h⟩:=h;have hd:(s.heap.objs.size==HH)=false:=beq_eq_false_iff_ne.mpr (Hn (GK I.big));have hp:=I.hok.fresh (FU s.heap.objs.size);cases srt with
 |false=>
  refine N2 ⟨.ref s.heap.objs.size,_,I.laid (a:=s.heap.objs.size) (o:=dA s.heap.objs.size []) (t':=s.toks) (fun _ _ q=>FP _ q) (FU _) (DA.ok ⟨GH _,hd,X.prog,X.w,[],.nil,Heap.DictOf.new s.heap⟩),rfl,?_⟩;exact h _ _ hp (aX hp _) (.inl ⟨rfl,[],av,fun _=>rfl,FU _⟩)
 |true=>
  refine N2 ⟨.ref s.heap.objs.size,_,I.laid (a:=s.heap.objs.size) (o:=dB s.heap.objs.size []) (t':=s.toks) (fun _ _ q=>FP _ q) (FU _) (DB.ok ⟨GH _,hd,[],.nil,_,#[],0,F9 _ rfl,⟨rfl,rfl,rfl⟩,rfl,rfl,Mq⟩),rfl,?_⟩;exact h _ _ hp (aX hp _) (.inr ⟨rfl,[],av,fun z hz=>(nomatch hz),fun _=>rfl,FU _⟩)
noncomputable def MtX(X:Cx)(id:String)(r:V->List V->Hp->VK->Prop):Prop:=
 ∀(pins:List (Addr×Obj))(s:Shared)(σ:St)(H:Hp)(x:V)(ys:List V)(u:Value)(us:List Value)(Q:VK),Inv X pins σ H s->aB x u->aA ys us->r x ys H Q->
  wpAny (model X.prog X.w) X.A (call (.builtin id) (u::us)) (EP X pins σ Q) X.xe s
theorem so(hu:X.A.units+64<cLine):MtX X "dict.setdefault" vE:=by
 intro pins s σ H x ys u us Q I rx rys h;obtain⟨a,srt,f,n,k,y,v,rfl,rfl,d,hk,hs,hn,q1,q2⟩:=h;cases rx;cases rys with
 |cons r1 t1=>cases t1 with
  |cons r2 t2=>
   cases t2;exact EY (by omega) I d hk hs hn r1 r2 (fun x w' s' ef rw' I'=>⟨x,H,I',rw',q1 x ef⟩) fun ef H' s' o' d' I'=>⟨v,H',I',r2,q2 ef H' o' d'⟩
theorem Ft{o e:Expr}{es:List Expr}{name:Str}{id:String}{r:V->List V->Hp->VK->Prop}{to:TE}{t:TA}{apos cpos:Pos}(slot:Slot "dict" name id)(hty:typeOf (.builtin id)=pure (.type "method_descriptor"))(hm:MtX X id r)(ho:PE X o to)(ha:PA X (e::es) t)
  (hbase:Jz o name X.env (eval o X.env)=eval o X.env:=by rfl)
  (hfew:((backTo cpos (Gf (e::es) X.env)).all (fun x=>!x.1)&&(Kc cpos (Jl [] X.env)).all (fun x=>x.1.isSome)
   &&decide ((e::es).length+([]:List Keyword).length+(if([]:List Keyword).isEmpty then 0 else 1)<30))=true:=by rfl)
  (hline:(apos.endLine==cpos.line)=true:=by rfl) (hs:Gf (e::es) X.env=(false,eval e X.env)::Gf es X.env:=by rfl) (hplain:(backTo cpos (Gf es X.env)).any (·.1)=false:=by rfl):
  PE X (.Call (.Attribute o name apos) (e::es) [] cpos) (tXM r to t):=by
 intro pins s σ H Q I h;refine J5 hbase hfew hline rfl (thn (ho pins s σ H _ I h) fun v s1 ⟨x,H1,I1,r1,⟨a,srt,f,n,ex,d⟩,q1⟩=>?_);subst ex;obtain rfl:v=Gi a:=r1;obtain⟨h1,h2⟩:=wB I1 d;refine⟨"dict",id,PySem.F.plainAttrs_dict,slot,hty,h1,h2,?_⟩;have hA:=ha cpos pins s1 σ H1 _ I1 q1;rw[hs]at hA ⊢;refine J6 (by show(false||(backTo cpos (Gf es X.env)).any (·.1))=false;rw[hplain]<;>rfl) (Kr ?_);exact thn hA fun us s2 ⟨vs,H2,I2,r2,q2⟩=>hm pins s2 σ H2 (.ref a) vs (.ref a) us Q I2 rfl r2 q2
end
end
section
open PySem.Spec
section
variable{X:Cx}
end
end
section
open PySem.Spec
mutual
inductive Dat(K:Fg)(H:Hp):V->PyData->Prop where
 |non:Dat K H .non .none
 |bl (b:Bool):Dat K H (.bl b) (.bool b)
 |int (i:Int):Dat K H (.int i) (.int i)
 |str (x:Str):Dat K H (.str x) (.str x)
 |lst {a:Addr} {xs:List V} {ds:List PyData} (e:SqL K H a xs) (h:gU K H xs ds):Dat K H (.ref a) (.list ds)
 |tup {a:Addr} {xs:List V} {ds:List PyData} (e:SqT K H a xs) (h:gU K H xs ds):Dat K H (.ref a) (.tuple ds)
inductive gU(K:Fg)(H:Hp):List V->List PyData->Prop where
 |nil:gU K H [] []
 |cons {x:V} {xs:List V} {d:PyData} {ds:List PyData} (h:Dat K H x d) (t:gU K H xs ds):gU K H (x::xs) (d::ds)
end
section
variable{X:Cx}{pins:List (Addr×Obj)}{σ:St}{H:Hp}{s:Shared}
mutual
theorem Dat.reads(I:Inv X pins σ H s):∀{x:V} {d:PyData} {u:Value},Dat X.K H x d->aB x u->∃as,Reads s.heap u d as
 |_,_,_,.non,r=>by cases r;exact⟨_,.none⟩
 |_,_,_,.bl b,r=>by cases r;exact⟨_,.bool b⟩
 |_,_,_,.int i,r=>by obtain⟨t,rfl⟩:=r;exact⟨_,.int i t⟩
 |_,_,_,.str x,r=>by obtain⟨t,rfl⟩:=r;exact⟨_,.str x t⟩
 |_,_,_,.lst e h,r=>by
  cases r;obtain⟨its,rv,⟨o,n,h1,h2,h3,h4⟩,_⟩:=I.list e;obtain⟨as,ra⟩:=gU.reads I h rv;exact⟨_,.list h1 h2 h4 (by simpa using ra)⟩
 |_,_,_,.tup e h,r=>by
  cases r;obtain⟨its,rv,⟨o,h1,h2,n,h3⟩,_⟩:=I.tuple e;obtain⟨as,ra⟩:=gU.reads I h rv;exact⟨_,.tuple h1 h2 h3 (by simpa using ra)⟩
theorem gU.reads(I:Inv X pins σ H s):∀{xs:List V} {ds:List PyData} {us:List Value},gU X.K H xs ds->aA xs us->∃as,ReadsAll s.heap us ds as
 |_,_,_,.nil,.nil=>⟨_,.nil⟩
 |_,_,_,.cons h t,.cons r q=>by
  obtain⟨as,ra⟩:=Dat.reads I h r;obtain⟨bs,rb⟩:=gU.reads I t q;exact⟨_,.cons ra rb⟩
end
end
noncomputable def FJ(K:Fg)(neg:Bool):R2:=fun x y H Q=>∃d e,Dat K H x d/\Dat K H y e/\JN d=true/\JN e=true/\Q (.bl (if neg then !PyData.eqv d e else JP d e)) H
section
variable{X:Cx}
theorem EZ(hu:X.A.units+64<cLine):OpR X (HP .Eq) (FJ X.K false):=by
 intro pins s σ H x y v u Q I rx ry h;obtain⟨d,e,hd,he,sd,se,q⟩:=h;obtain⟨as,ra⟩:=hd.reads I rx;obtain⟨bs,rb⟩:=he.reads I ry;exact eq_dataH ra rb sd se hu ⟨.bl (JP d e),H,I,rfl,q⟩
end
end
section
open PySem.Spec
mutual
theorem E1{K:Fg}{H:Hp}:∀{n:Nat} {x y:V},gG K H n x y->∃d,Dat K H x d/\Dat K H y d/\d.canLay0=true/\d.depth<=n
 |n,x,_,.flat h=>by
  cases x with
  |non=>exact⟨_,.non,.non,rfl,GH _⟩
  |bl b=>exact⟨_,.bl b,.bl b,rfl,GH _⟩
  |int i=>exact⟨_,.int i,.int i,rfl,GH _⟩
  |_=>cases h
 |_,_,_,.str h=>⟨_,.str _,.str _,h,GH _⟩
 |_,_,_,.lst (xs:=xs) (ys:=ys) e1 e2 hl h=>by
  obtain⟨ds,h1,h2,h3,h4⟩:=yW xs ys hl h;exact⟨_,.lst e1 h1,.lst e2 h2,h3,LI h4⟩
 |_,_,_,.tup (xs:=xs) (ys:=ys) e1 e2 hl h=>by
  obtain⟨ds,h1,h2,h3,h4⟩:=yW xs ys hl h;exact⟨_,.tup e1 h1,.tup e2 h2,h3,LI h4⟩
theorem yW{K:Fg}{H:Hp}{n:Nat}:∀(xs ys:List V),xs.length=ys.length->(∀(i:Nat)(x y:V),xs[i]?=some x->ys[i]?=some y->gG K H n x y)->∃ds,gU K H xs ds/\gU K H ys ds/\Ii ds=true/\Iy ds<=n
 | [],[],_,_=>⟨[],.nil,.nil,rfl,GH _⟩
 |x::xs,y::ys,hl,h=>by
  obtain⟨d,a1,a2,a3,a4⟩:=E1 (h 0 x y rfl rfl);obtain⟨ds,b1,b2,b3,b4⟩:=yW xs ys (by simpa using hl) (fun i x y hx hy=>h (i+1) x y hx hy);refine⟨d::ds,.cons a1 b1,.cons a2 b2,?_,?_⟩
  ·show(d.canLay0&&Ii ds)=true
   rw[a3,b3];rfl
  ·show max d.depth (Iy ds)<=n
   omega
 | [],_::_,hl,_=>by simp at hl
 |_::_,[],hl,_=>by simp at hl
end
section
variable{X:Cx}
theorem Cg(hu:X.A.units+64<cLine):OpR X (HP .Eq) (vP X.K false):=by
 intro pins s σ H x y v u Q I rx ry h;obtain⟨n,hn,hd,q⟩:=h;obtain⟨d,h1,h2,h3,h4⟩:=E1 hd;obtain⟨as,ra⟩:=h1.reads I rx;obtain⟨bs,rb⟩:=h2.reads I ry;have sh:JN d=true:=by unfold JN;rw[h3,decide_eq_true (by omega)];rfl
 refine eq_dataH ra rb sh sh hu ⟨.bl true,H,I,?_,q⟩;rw[SeqAt.eqv_refl d h3];rfl
end
end
section
open PySem.Spec
theorem wD{scope:Scope}{env:Env}{x:Str}(h:scope.names.lookup x=some .cell\/scope.names.lookup x=some .free):(relabel scope env).names.lookup x=some .cell\/(relabel scope env).names.lookup x=some .free:=by
 have go:∀ns:List (Str×Gy),(ns.lookup x=some .cell\/ns.lookup x=some .free)->
   (ns.map fun(n,k)=>if(k==G6&&env.scope.kind== .function&&env.kindOf n==some .cell)then(n,J9)else(n,k)).lookup x=some .cell\/
   (ns.map fun(n,k)=>if(k==G6&&env.scope.kind== .function&&env.kindOf n==some .cell)then(n,J9)else(n,k)).lookup x=some .free:=by
  intro ns
  induction ns with
  |nil=>intro q;rcases q with q|q<;>simp at q
  |cons y r ih=>
   obtain⟨n,k'⟩:=y;intro q;rw[F6];rw[GU]at q;by_cases hc:(k'==G6&&env.scope.kind== .function&&env.kindOf n==some .cell)=true
   ·simp only[hc,if_true]
    rw[GU];cases e:x==n with
    |true=>exact .inl rfl
    |false=>rw[e]at q;exact ih q
   ·simp only[hc]
    rw[if_neg (by simp),GU];cases e:x==n with
    |true=>rw[e]at q;exact q
    |false=>rw[e]at q;exact ih q
 exact go scope.names h
theorem A5{inner outer:Scope}{cl:List (Str×Addr)}{C:Addr}{env:Env}(h:∀y∈inner.names,y.2=.free->outer.names.lookup y.1=some .cell\/outer.names.lookup y.1=some .free):
  ∀y∈inner.names,y.2=.free->(MB outer cl C env).scope.names.lookup y.1=some .cell\/(MB outer cl C env).scope.names.lookup y.1=some .free:=fun y hy hk=>wD (h y hy hk)
end
section
open PySem.Spec
section
variable{X:Cx}
end
end
section
open PySem.Spec
section
variable{prog:Program}{w:World}{A:Around}{R:Result->Shared->Prop}{I:Addr}{fp wr:List Addr}{n:Nat}{P:Nat->Value->Prop}{St:Nat->Heap->Prop}{kw:List (Str×Value)}
end
end
section
open PySem.Spec
section
variable{prog:Program}{w:World}{A:Around}{E:Value->Shared->Prop}{s:Shared}
end
end
section
open PySem.Spec
theorem DF(val:Nat->Int):∀(n:Nat){i:Nat},i<n->val i∈MJ val n:=fun n i h=>by
 have e:=firstMet_any val n (val i);have t:((F5 n).map val).any (· ==val i)=true:=LJ.mpr ⟨val i,KI (Gr.mpr h),beq_self_eq_true _⟩;rw[t]at e;obtain⟨x,hx,hb⟩:=LJ.mp e;rw[beq_iff_eq]at hb;rw[<-hb];exact hx
theorem A6(val:Nat->Int):∀n:Nat,(MJ val n).Nodup/\∀x,x∈MJ val n->∃i,i<n/\val i=x
 |0=>⟨Mq,fun x h=>by cases h⟩
 |n+1=>by
  obtain⟨nd,hm⟩:=A6 val n;rw[firstMet_succ];unfold step_dedup;by_cases c:((MJ val n).any fun x=>x==val n)=true
  ·rw[if_pos c]
   exact⟨nd,fun x h=>let⟨i,hi,e⟩:=hm x h;⟨i,by omega,e⟩⟩
  ·rw[if_neg c]
   refine⟨NC.mpr ⟨nd,by simp,fun a ha b hb=>?_⟩,fun x h=>?_⟩
   ·rw[FR.mp hb]
    exact fun e=>c (LJ.mpr ⟨a,ha,by rw[e];exact beq_self_eq_true _⟩)
   ·rcases Gv.mp h with h|h
    ·obtain⟨i,hi,e⟩:=hm x h;exact⟨i,by omega,e⟩
    ·exact⟨n,by omega,(FR.mp h).symm⟩
theorem DG(ns:List Int):∃L:List Int,L.Nodup/\(∀x,x∈L↔x∈ns)/\(MJ (fun i=>ns.getD i 0) ns.length).length=L.length:=by
 obtain⟨nd,hm⟩:=A6 (fun i=>ns.getD i 0) ns.length;refine⟨_,nd,fun x=>⟨fun h=>?_,fun h=>?_⟩,rfl⟩
 ·obtain⟨i,hi,rfl⟩:=hm x h
  show ns.getD i 0∈ns;rw[FO,FN hi];exact Hq hi
 ·obtain⟨i,hi,rfl⟩:=KJ h
  have:=DF (fun i=>ns.getD i 0) ns.length hi;have e:ns.getD i 0=ns[i]:=by rw[FO,FN hi];rfl
  show ns[i]∈_;rw[<-e];exact this
section
variable{X:Cx}
theorem tP(hc:X.calm=true):bP X (.type "set") (yP X.K):=by
 intro pins s σ H xs us Q I r h;obtain⟨p,ns,rfl,hq,hl,q⟩:=h;obtain⟨u,rfl,rx⟩:=r.one;cases rx;obtain⟨its,rv,pl,hz⟩:=I.list hq;have hi:=lj rv;have hlen:its.length=ns.length:=by have:=rv.length;rw[FQ]at this;omega
 refine PySem.call_set_list (I.ok.hd hc) pl.isList hi (by rw[F8,hlen];exact K1 (LI hl) (by decide)) fun h' tk hS hk=>?_;have hsz:its.toArray.size=ns.length:=by rw[F8,hlen]
 rw[hsz]at hS;have hn:=firstMet_length_le (fun i=>ns.getD i 0) ns.length;exact⟨.ref s.heap.objs.size,_,I.laid (o:=.set _ _) (fun b ob e=>hk b ob (F4 e) e) (FU _) hS,rfl,q _ _ _ _ (I.hok.fresh (FU _)) (aX (I.hok.fresh (FU _)) _) av hn (DG ns)⟩
theorem tQ:bP X (.builtin "len") yQ:=by
 intro pins s σ H xs us Q I r h;obtain⟨p,S,n,rfl,e,hn,q⟩:=h;obtain⟨u,rfl,rx⟩:=r.one;cases rx;obtain⟨o,es,ep,t,ho,hex,hd,_,_,_,hf,rfl⟩:=I.hok p _ e;exact PySem.call_len_set ho hex hd hf (by omega) ⟨.int _,H,I.tok _,⟨_,rfl⟩,q⟩
end
end
section
open PySem.Spec
section
variable{X:Cx}
end
end
section
open PySem.Spec
section
variable{X:Cx}
theorem A7:MtM X "list.insert" sg:=by
 intro pins s σ H x vs v us Q I rx rv h;obtain⟨l,xs,k,y,rfl,rfl,hH,hz,hk,q⟩:=h;cases rx;obtain⟨u,w,rfl,ru,rw'⟩:∃u w,us=[u,w]/\aB (.int (k:Int)) u/\aB y w:=by
  cases rv with
  |cons ru rv=>cases rv with
   |cons rw' rv=>cases rv with
    |nil=>exact⟨_,_,rfl,ru,rw'⟩
 obtain⟨t,rfl⟩:=ru;obtain⟨z,its,n,r,hl,e⟩:=I.lstM hH;have hz':=hz;rw[FV]at hz';have hf:¬(!Builtin.List.listFitsIndex (k:Int))=true:=by rw[fitsIndex_both (Int.le_trans (by decide) (Int.natCast_nonneg k)) (Int.lt_of_le_of_lt (show(k:Int)<=16777216 by omega) (by decide))];simp
 generalize hx:(k:Int)=x at *;have M2:=AutoSeq1.list_insert_list_int_val_1 l its.toArray n x t w hf (by rw[F8];omega);refine JO F.slot_list_insert ⟨_,e,rfl⟩ F.entry_list_insert (F.args_list_insert_3 _ _ _) M2 ⟨e,?_⟩;refine⟨.non,_,I.lset (its':=its.take k++w::its.drop k) (ys:=xs.take k++y::xs.drop k) hH e ?_ ?_ ?_,rfl,q⟩
 ·have hk':(if x<0 then(x+(its.toArray.size:Int)).toNat else min (x.toNat) its.toArray.size)=k:=by
   rw[<-hx,if_neg (by omega),Ie,F8];omega
  show(its.toArray.extract 0 _).push w++its.toArray.extract _=_;rw[hk'];apply Array.ext';simp;exact Jm (by rw[Kd];exact FU _)
 ·exact aA.append (r.take k) (.cons rw' (r.drop k))
 ·rw[Ga,Gm,Hb,Kd]
  omega
end
end
section
open PySem.Spec
section
variable{X:Cx}
theorem tR:bP X (.type "range") yI:=by
 intro pins s σ H xs us Q I r h;obtain⟨n,rfl,hn,q⟩:=h;obtain⟨u,rfl,rx⟩:=j4 r;obtain⟨t,rfl⟩:=rx;exact call_range_1 ⟨.ref s.heap.objs.size,_,I.laid (a:=s.heap.objs.size) (o:=.rng 0 (n:Int)) (t':=s.toks+1+1) (fun _ _ q=>FP _ q) (FU _) ⟨_,_,_,F9 _ rfl⟩,rfl,q.upd _ (I.hok.fresh (FU _))⟩
theorem tS{n:Nat}{acc:Array Value}(h:ItemsOf (fun i v=>∃t,v=.int ((0:Int)+i*1) t) acc n):aA ((F5 n).map fun(i:Nat)=>V.int ((i:Nat):Int)) acc.toList:=by
 obtain⟨hl,hi⟩:=h;have go:∀(xs:List V)(us:List Value),xs.length=us.length->(∀(j:Nat)(x:V)(u:Value),xs[j]?=some x->us[j]?=some u->aB x u)->aA xs us:=by
  intro xs
  induction xs with
  |nil=>intro us hl _;cases us with
   |nil=>exact .nil
   |cons _ _=>simp at hl
  |cons x r ih=>intro us hl h;cases us with
   |nil=>simp at hl
   |cons u t=>exact .cons (h 0 x u rfl rfl) (ih t (by simpa using hl) fun j x u hx hu=>h (j+1) x u hx hu)
 refine go _ _ (by simp[hl]) fun j x u hx hu=>?_;rw[FZ]at hx;cases e:(F5 n)[j]? with
 |none=>rw[e]at hx;cases hx
 |some z=>
  rw[e]at hx;cases hx;obtain⟨h1,h2⟩:=FS.mp e;rw[La]at h2;subst h2;obtain⟨t,rfl⟩:=hi j u (by rw[<-Array.getElem?_toList];exact hu);exact⟨t,by simp⟩
theorem A8(hc:X.calm=true):bP X (.type "list") uJ:=by
 intro pins s σ H xs us Q I r h;obtain⟨p,n,rfl,e,hn,q⟩:=h;obtain⟨u,rfl,rx⟩:=j4 r;cases rx;obtain⟨t,u,v,hr⟩:=(show br X.prog X.w H s.heap p (.rng 0 (n:Int))from I.hok p _ e);refine call_list_range (n:=n) (show X.A.handled=none from I.ok.hd hc) hr (Oo (by omega) (by omega) (by omega) (by omega)) ?_ (by omega) fun h' tk acc' c' kp e' it=>?_
 ·rw[MO];split<;>omega
 ·exact⟨.ref s.heap.objs.size,_,I.laid (t':=tk) kp (FU _) (show br X.prog X.w _ h' _ (.lst _)from⟨by rw[FQ,G5,FV];omega,acc'.toList,c',tS it,by simpa using e'⟩),rfl,q.upd _ (I.hok.fresh (FU _))⟩
end
end
section
open PySem.Spec
noncomputable abbrev jY(h:Heap)(z TI TO:Addr)(f0:Value)(f:Bool):Prop:=
 h.get? z=some { cls:=.type "zip",dict:=none,data:=.fields #[f0,.bool f,.bool false,.ref TI,.ref TO],slots:=#[] }
section
variable{prog:Program}{w:World}{A:Around}{E:Value->Shared->Prop}{s:Shared}
theorem qH{z TI TO a:Addr}{f:Bool}{oa:Obj}{Q:Bool->Shared->Prop}(hz:jY s.heap z TI TO (rawInt a) f)(ha:s.heap.get? a=some oa)(h:∀g1,jY g1 z TI TO (rawInt a) true->Gp z s.heap g1->Q false { s with heap:=g1 }):
  wpAny (model prog w) A (Gz (.ref z)) Q E s:=by
 obtain⟨hp,g,d,tk₀,os⟩:=s;unfold Gz;refine FM (GM hz rfl (x:=rawInt a) rfl ?_);show wpAny _ _ (loadIfAlive ((a:Int).toNat)>>=_) _ _ _;rw[Ie];refine FM (PySem.W.kdx_alive ha ?_);simp only[Option.isNone_some,GY,if_false];refine FM (GM hz rfl (x:=.bool f) rfl ?_);cases f with
 |true=>
  rw[if_neg (show¬((G4 true != G4 true)=true)from F3)];exact FT (h hp hz (Gp.refl _ _))
 |false=>
  rw[if_pos (show(G4 false != G4 true)=true from rfl)];exact FM (Il hz (by simp) fun h₃ he₃ hs₃=>FT (h h₃ he₃ hs₃))
theorem A9{z TI TO j1 j2 a:Addr}{f:Bool}{oa:Obj}{fp1 fp2:List Addr}{n1 n2 k:Nat}{P1 P2:Nat->Value->Prop}{S1 S2:Nat->Heap->Prop}{Q:Value->Shared->Prop}(Z:gB z TI TO j1 j2 fp1 fp2)
  (D1:Draws prog w A j1 fp1 n1 P1 S1) (D2:Draws prog w A j2 fp2 n2 P2 S2) (hz:jY s.heap z TI TO (rawInt a) f) (ha:s.heap.get? a=some oa) (hTI:IsPair s.heap TI (.ref j1) (.ref j2)) (h1:S1 k s.heap) (h2:S2 k s.heap) (l1:k<n1) (l2:k<n2)
  (hQ:∀x y h' tk,P1 k x->P2 k y->jY h' z TI TO (rawInt a) true->S1 (k+1) h'->S2 (k+1) h'->IsPair h' s.heap.objs.size x y->
   (∀c o,c∉[z,j1,j2]->s.heap.get? c=some o->h'.get? c=some o)->Q (.ref s.heap.objs.size) { s with heap:=h',toks:=tk }):
  wpAny (model prog w) A (Builtin.«zip.__next__» ⟨[.ref z],[]⟩) (fun fin s'=>∃v,fin=.done (.ret v)/\Q v s') E s:=by
 obtain⟨hp,g,d,tk₀,os⟩:=s;show wpAny _ _ (field (.ref z) 2>>=_) _ _ _;refine FM (GM hz rfl (x:=.bool false) rfl ?_);show wpAny _ _ (field (.ref z) 3>>=_) _ _ _;refine FM (GM hz rfl (x:=.ref TI) rfl ?_);refine FM (G7 hTI rfl ?_);show wpAny _ _ (Gz (.ref z)>>=_) _ _ _;refine FM (qH hz ha fun g1 hz1 hs1=>?_);replace hs1:Gp z hp g1:=hs1;simp only[GY,if_false];refine FM ?_;rw[<-Ji];simp only[JF,KQ];refine FM ?_;refine FM (HX ?_);show wpAny _ _ (Gw (.ref j1)>>=_) _ _ _;refine FM (D1.item k ⟨g1,g,d,tk₀,os⟩ _ _ l1 (D1.but h1 hs1 Z.b1) fun x g2 tk1 px st1 hs2=>FT ?_);replace hs2:Gp j1 g1 g2:=hs2;refine FT ?_;refine FM ?_;refine FM (HX ?_);show wpAny _ _ (Gw (.ref j2)>>=_) _ _ _;refine FM (D2.item k ⟨g2,g,d,tk1,os⟩ _ _ l2 (D2.but (D2.but h2 hs1 Z.b4) hs2 Z.b6) fun y g3 tk2 py st2 hs3=>FT ?_);replace hs3:Gp j2 g2 g3:=hs3;refine FT ?_;refine FT ?_;show wpAny _ _ (newTuple [x,y]>>=fun r=>ret r) _ _ _;have hsz:g3.objs.size=hp.objs.size:=by rw[hs3.1,hs2.1,hs1.1]
 refine FM (wpAny_newTuple (FT ⟨_,rfl,?_⟩));have up:∀c o,g3.get? c=some o->(g3.push { cls:=.type "tuple",data:=.seq #[x,y] }).get? c=some o:=fun c o e=>FP _ e;have hz3:jY g3 z TI TO (rawInt a) true:=hs3.extBut _ _ Z.a4.symm (hs2.extBut _ _ Z.a3.symm hz1);have hT:IsPair (g3.push { cls:=.type "tuple",data:=.seq #[x,y] }) hp.objs.size x y:=by rw[<-hsz];exact F9 _ rfl
 show Q (.ref g3.objs.size) _;rw[hsz];refine hQ x y _ tk2 px py (up _ _ hz3) (D1.frame _ _ _ (D1.but st1 hs3 Z.b3) fun c _ o e=>up c o e) (D2.frame _ _ _ st2 fun c _ o e=>up c o e) hT fun c o hc e=>?_;simp only[FW,GL,or_false,not_or]at hc;exact up c o (hs3.extBut _ _ hc.2.2 (hs2.extBut _ _ hc.2.1 (hs1.extBut _ _ hc.1 e)))
theorem Ch{z TI TO j1 j2 a:Addr}{f:Bool}{oa:Obj}{fp1 fp2:List Addr}{n1 n2 k:Nat}{P1 P2:Nat->Value->Prop}{S1 S2:Nat->Heap->Prop}{Q:Fin->Shared->Prop}(Z:gB z TI TO j1 j2 fp1 fp2)
  (D1:Draws prog w A j1 fp1 n1 P1 S1) (D2:Draws prog w A j2 fp2 n2 P2 S2) (hz:jY s.heap z TI TO (rawInt a) f) (ha:s.heap.get? a=some oa) (hTI:IsPair s.heap TI (.ref j1) (.ref j2)) (h1:S1 k s.heap) (h2:S2 k s.heap) (l:k=min n1 n2)
  (hE:∀h' e tk,(∀c o,c∉[z,TI,TO,j1,j2]->s.heap.get? c=some o->h'.get? c=some o)->(∃o,h'.get? e=some o/\o.cls=.type "StopIteration")->E (.ref e) { s with heap:=h',toks:=tk }):
  wpAny (model prog w) A (Builtin.«zip.__next__» ⟨[.ref z],[]⟩) Q E s:=by
 obtain⟨hp,g,d,tk₀,os⟩:=s;have kp:∀{h':Heap},(∀c o,c≠z->c≠j1->c≠j2->hp.get? c=some o->h'.get? c=some o)->∀c o,c∉[z,TI,TO,j1,j2]->hp.get? c=some o->h'.get? c=some o:=fun{h'} q c o hc e=>by
  simp only[FW,GL,or_false,not_or]at hc;exact q c o hc.1 hc.2.2.2.1 hc.2.2.2.2 e
 show wpAny _ _ (field (.ref z) 2>>=_) _ _ _;refine FM (GM hz rfl (x:=.bool false) rfl ?_);show wpAny _ _ (field (.ref z) 3>>=_) _ _ _;refine FM (GM hz rfl (x:=.ref TI) rfl ?_);refine FM (G7 hTI rfl ?_);show wpAny _ _ (Gz (.ref z)>>=_) _ _ _;refine FM (qH hz ha fun g1 hz1 hs1=>?_);replace hs1:Gp z hp g1:=hs1;simp only[GY,if_false];refine FM ?_;rw[<-Ji];simp only[JF,KQ];refine FM ?_;refine FM (HX ?_);show wpAny _ _ (Gw (.ref j1)>>=_) _ _ _;by_cases hk:k=n1
 ·subst hk
  refine FM (D1.done ⟨g1,g,d,tk₀,os⟩ _ _ (D1.but h1 hs1 Z.b1) fun g2 e hs2 he=>?_);replace hs2:KW j1 g1 g2:=hs2;exact hE g2 e tk₀ (kp fun c o c1 c2 _ q=>hs2 _ _ c2 (hs1.extBut _ _ c1 q)) he
 ·have hlt:k<n1:=by omega
  have hk2:k=n2:=by omega
  refine FM (D1.item k ⟨g1,g,d,tk₀,os⟩ _ _ hlt (D1.but h1 hs1 Z.b1) fun x g2 tk1 px st1 hs2=>FT ?_);replace hs2:Gp j1 g1 g2:=hs2;refine FT ?_;refine FM ?_;refine FM (HX ?_);show wpAny _ _ (Gw (.ref j2)>>=_) _ _ _;subst hk2;refine FM (D2.done ⟨g2,g,d,tk1,os⟩ _ _ (D2.but (D2.but h2 hs1 Z.b4) hs2 Z.b6) fun g3 e hs3 he=>?_);replace hs3:KW j2 g2 g3:=hs3;exact hE g3 e tk1 (kp fun c o c1 c2 c3 q=>hs3 _ _ c3 (hs2.extBut _ _ c2 (hs1.extBut _ _ c1 q))) he
noncomputable def ZSt(h:Heap)(z TI TO S:Addr)(i:Nat)(far:Addr->Prop):Prop:=(i=0/\IsZip h z TI TO .none/\∃u v,IsPair h TO u v)\/∃(a:Addr)(f:Bool)(oa:Obj),jY h z TI TO (rawInt a) f/\h.get? a=some oa/\far a/\a≠S
noncomputable def ZTs(P1 P2:Nat->Value->Prop)(lo:Addr)(h:Heap)(ts:List Addr):Prop:=∀(j:Nat)(t:Addr),ts[j]?=some t->lo<=t/\∃x y,P1 j x/\P2 j y/\IsPair h t x y
end
section
variable{prog:Program}{w:World}{A:Around}{s:Shared}{R:Result->Shared->Prop}
theorem Ci{z TI TO j1 j2 S lo:Addr}{fp1 fp2:List Addr}{n1 n2:Nat}{P1 P2:Nat->Value->Prop}{S1 S2:Nat->Heap->Prop}(hh:A.handled=none)(Z:gB z TI TO j1 j2 fp1 fp2)
  (D1:Draws prog w A.in1.in1 j1 fp1 n1 P1 S1) (D2:Draws prog w A.in1.in1 j2 fp2 n2 P2 S2) (hn:min n1 n2<=FY) (hS:S∉[z,TI,TO,j1,j2]) (hS1:S∉fp1) (hS2:S∉fp2) (hlo:∀c∈[z,TI,TO,j1,j2,S],c<lo) (hlo1:∀c∈fp1,c<lo) (hlo2:∀c∈fp2,c<lo) (res:Value) {h₁:Heap}
  (hR:∀h' tk acc c ts,(∀b o,b∉[z,TI,TO,j1,j2]->b≠S->h₁.get? b=some o->h'.get? b=some o)->h'.get? S=some { cls:=.type "list",dict:=none,data:=.seq acc c,slots:=#[] }->ts.length=min n1 n2->ZTs P1 P2 lo h' ts->
   acc.toList=ts.map Gi->R (.ok (.ret res)) { s with heap:=h',toks:=tk }):
  ∀(m i:Nat)(h:Heap)(tk c:Nat)(acc:Array Value)(ts:List Addr),min n1 n2-i=m->i<=min n1 n2->ZSt h z TI TO S i (fun a=>lo<=a)->IsPair h TI (.ref j1) (.ref j2)->S1 i h->S2 i h->(∀b o,b∉[z,TI,TO,j1,j2]->b≠S->h₁.get? b=some o->h.get? b=some o)->
   h.get? S=some { cls:=.type "list",dict:=none,data:=.seq acc c,slots:=#[] }->acc.toList=ts.map Gi->ts.length=i->ZTs P1 P2 lo h ts->lo<=h.objs.size->
   codeAny (model prog w) A (.builtin "list.extend.loop" ⟨[.ref S,.ref z,res],[]⟩) R { s with heap:=h,toks:=tk }:=by
 have notin:∀t,lo<=t->t∉[z,TI,TO,j1,j2]/\t≠S/\t∉fp1/\t∉fp2:=fun t ht=>⟨fun hm=>by
  have:=hlo t (show t∈[z,TI,TO,j1,j2]++[S]from G8 _ hm);exact absurd ht (Kz.mpr this),fun e=>by
  have:=hlo S (by simp);rw[e]at ht;exact absurd ht (Kz.mpr this),fun hm=>absurd ht (Kz.mpr (hlo1 t hm)),fun hm=>absurd ht (Kz.mpr (hlo2 t hm))⟩
 intro m
 induction m with
 |zero=>
  intro i h tk c acc ts hk hi hst hTI st1 st2 hkeep hSS hacc hal hG hls;have hin:i=min n1 n2:=by omega
  refine JI Lv ?_;rw[IT IU _];show wpAny _ A.in1 (pyNext (.ref z)>>=_) _ _ _;have done:∀h':Heap,∀tk',(∀c o,c∉[z,TI,TO,j1,j2]->h.get? c=some o->h'.get? c=some o)->R (.ok (.ret res)) { s with heap:=h',toks:=tk' }:=fun h' tk' kp=>by
   refine hR h' tk' acc c ts (fun b o h1 h2 e=>kp b o h1 (hkeep b o h1 h2 e)) (kp S _ hS hSS) (by omega) (fun j t hj=>?_) hacc;obtain⟨hlt,x,y,p1,p2,e⟩:=hG j t hj;exact⟨hlt,x,y,p1,p2,kp t _ (notin t hlt).1 e⟩
  have hT:MS { s with heap:=h,toks:=tk } (.ref z) "zip":=by
   rcases hst with⟨_,hz,_⟩|⟨a,f,oa,hz,_⟩
   ·exact⟨_,hz,rfl⟩
   ·exact⟨_,hz,rfl⟩
  unfold pyNext;refine FM (FM (Li (Ho (name:=IX "__next__") hT Ir (G0 Ir hT Ke ?_ (J0 _)))));rcases hst with⟨_,hz,u,v,hTO⟩|⟨a,f,oa,hz,ha,_,_⟩
  ·refine vt (s:={ s with heap:=h,toks:=tk }) Z D1 D2 hz hTI hTO st1 st2 hin fun h' e tk' kp he=>?_
   obtain⟨o,ho,hcl⟩:=he;exact FM (IZ (T:="StopIteration") (b:=true) ⟨o,ho,hcl⟩ Mm (FT (FT (done h' tk' kp))))
  ·refine Ch (s:={ s with heap:=h,toks:=tk }) Z D1 D2 hz ha hTI st1 st2 hin fun h' e tk' kp he=>?_
   obtain⟨o,ho,hcl⟩:=he;exact FM (IZ (T:="StopIteration") (b:=true) ⟨o,ho,hcl⟩ Mm (FT (FT (done h' tk' kp))))
 |succ m ih=>
  intro i h tk c acc ts hk hi hst hTI st1 st2 hkeep hSS hacc hal hG hls;have hlt:i<min n1 n2:=by omega
  have hsz:acc.size=i:=by rw[<-Ja,hacc,FQ,hal]
  refine JI Lv ?_;rw[IT IU _];show wpAny _ A.in1 (pyNext (.ref z)>>=_) _ _ _;have hT:MS { s with heap:=h,toks:=tk } (.ref z) "zip":=by
   rcases hst with⟨_,hz,_⟩|⟨a,f,oa,hz,_⟩
   ·exact⟨_,hz,rfl⟩
   ·exact⟨_,hz,rfl⟩
  have item:∀(h':Heap)(tk':Nat)(x y:Value),P1 i x->P2 i y->ZSt h' z TI TO S (i+1) (fun a=>lo<=a)->S1 (i+1) h'->S2 (i+1) h'->IsPair h' h.objs.size x y->(∀c o,c∉[z,TO,j1,j2]->h.get? c=some o->h'.get? c=some o)->
    wpAny (model prog w) A.in1 (LQ (.ref S) (·.push (Gi h.objs.size))>>=fun _=>again (.builtin "list.extend.loop" ⟨[.ref S,.ref z,res],[]⟩)) (fun fin s'=>match fin with | .done f=>R (.ok f) s' | .again c'=>c'.quiet=true/\codeAny (model prog w) A c' R s') (fun e s'=>R (.error e) s') { s with heap:=h',toks:=tk' }:=by
   intro h' tk' x y px py hst' st1' st2' ht kp;have sub:∀c,c∉[z,TI,TO,j1,j2]->c∉[z,TO,j1,j2]:=fun c hc hm=>hc (by
    simp only[FW,GL,or_false]at hm ⊢;rcases hm with e|e|e|e
    ·exact .inl e
    ·exact .inr (.inr (.inl e))
    ·exact .inr (.inr (.inr (.inl e)))
    ·exact .inr (.inr (.inr (.inr e))))
   have hS':=kp S _ (sub S hS) hSS;have up:∀b o,b≠S->h'.get? b=some o->(h'.update S (G9 (·.push (Gi h.objs.size)))).get? b=some o:=fun b o hb e=>(Ik _ _ (Hn hb)).trans e;have hSl:S<h.objs.size:=F4 hSS;have zS:∀c∈[z,TI,TO,j1,j2],c≠S:=fun c hc e=>hS (by rw[<-e];exact hc);have hTI':IsPair h' TI (.ref j1) (.ref j2):=kp TI _ (by
    simp only[FW,GL,or_false,not_or];exact⟨Z.a1,Z.a5,Z.a6,Z.a7⟩) hTI
   show wpAny _ A.in1 (Nm S (·.push (Gi h.objs.size))>>=_) _ _ _;refine FM ?_;refine KA hS' rfl (FT ⟨Lk IU _,ih (i+1) _ tk' _ (acc.push (Gi h.objs.size)) (ts++[h.objs.size]) (by omega) hlt ?_ (up TI _ (zS TI (by simp)) hTI')
    (D1.frame _ _ _ st1' fun b hb o e=>up b o (fun q=>hS1 (by rw[<-q];exact hb)) e) (D2.frame _ _ _ st2' fun b hb o e=>up b o (fun q=>hS2 (by rw[<-q];exact hb)) e)
    (fun b o h1 h2 e=>up b o h2 (kp b o (sub b h1) (hkeep b o h1 h2 e))) (GS _ hS' rfl) (by rw[Array.toList_push,hacc,Gj];rfl) (by rw[Ga,hal];rfl) ?_ ?_⟩) (by rw[hsz];omega) (by show(acc.push (Gi h.objs.size)).size<=FY+1;rw[Array.size_push,hsz];omega)
   ·rcases hst' with⟨e,_⟩|⟨a,f,oa,hz,ha,hfar,haS⟩
    ·omega
    ·exact .inr ⟨a,f,oa,up _ _ (zS z (by simp)) hz,up _ _ haS ha,hfar,haS⟩
   ·intro j t hj
    rcases Nat.lt_trichotomy j ts.length with c|c|c
    ·rw[IQ c]at hj
     obtain⟨hl,x',y',p1,p2,e⟩:=hG j t hj;obtain⟨n1',n2',_,_⟩:=notin t hl;exact⟨hl,x',y',p1,p2,up t _ n2' (kp t _ (sub t n1') e)⟩
    ·subst c
     have hb:h.objs.size=t:=by simpa using hj
     subst hb;rw[hal];exact⟨hls,x,y,px,py,up _ _ (Iq hSl) ht⟩
    ·rw[Gd (by rw[Ga,Mg];omega)]at hj
     cases hj
   ·have e:(h'.update S (G9 (·.push (Gi h.objs.size)))).get? h.objs.size=_:=up _ _ (Iq hSl) ht
    exact Gs hls (He (F4 e))
  unfold pyNext;refine FM (FM (Li (Ho (name:=IX "__next__") hT Ir (G0 Ir hT Ke ?_ (J0 _)))));have hSl:S<h.objs.size:=F4 hSS;rcases hst with⟨_,hz,u,v,hTO⟩|⟨a,f,oa,hz,ha,hfar,haS⟩
  ·refine tm (s:={ s with heap:=h,toks:=tk }) Z D1 D2 hz hTI hTO st1 st2 (by omega) (by omega) fun x y h' tk' px py z1 z2 z3 z4 z5 z6 z7=>FT ?_
   refine item h' tk' x y px py (.inr ⟨_,false,_,z1,z5,hls,Iq hSl⟩) z3 z4 z5 fun c o hc e=>?_;by_cases q:c=TI
   ·rw[q]at e ⊢
    have:o=_:=F1 (e.symm.trans hTI);rw[this];exact z7
   ·refine z6 c o ?_ e
    simp only[FW,GL,or_false,not_or]at hc ⊢;exact⟨hc.1,q,hc.2⟩
  ·refine A9 (s:={ s with heap:=h,toks:=tk }) Z D1 D2 hz ha hTI st1 st2 (by omega) (by omega) fun x y h' tk' px py z1 z3 z4 z5 z6=>FT ?_
   have na:=(notin a hfar).1;refine item h' tk' x y px py (.inr ⟨a,true,oa,z1,z6 a oa ?_ ha,hfar,haS⟩) z3 z4 z5 fun c o hc e=>z6 c o ?_ e
   ·simp only[FW,GL,or_false,not_or]at na ⊢
    exact⟨na.1,na.2.2.2.1,na.2.2.2.2⟩
   ·simp only[FW,GL,or_false,not_or]at hc ⊢
    exact⟨hc.1,hc.2.2.1,hc.2.2.2⟩
end
end
section
open PySem.Spec
theorem Inv.news{X:Cx}{pins:List (Addr×Obj)}{σ:St}{H H':Hp}{s:Shared}{h':Heap}{t':Nat}(I:Inv X pins σ H s)(k:∀b u,s.heap.get? b=some u->h'.get? b=some u)(hH:∀b,b<s.heap.objs.size->H' b=H b)
  (new:∀a o,s.heap.objs.size<=a->H' a=some o->br X.prog X.w H' h' a o):Inv X pins σ H' { s with heap:=h',toks:=t' }:=by
 have same:∀b o,H b=some o->H' b=some o:=fun b o e=>(hH b (I.hok.lt e)).trans e;refine I.un ⟨fun b o q _ _ _=>k b o q,fun b o q _ _ _=>⟨o.slots,k b o q⟩,fun b o q n _=>(hH b (F4 q)).trans n,fun b o q _=>⟨o,k b o q⟩,fun b xs e=>same b _ e,fun b o u e=>same b _ e,fun b ps e=>⟨#[],by rw[same b _ e];simp⟩⟩ fun a o e=>?_;by_cases c:a<s.heap.objs.size
 ·rw[hH a c]at e
  exact(I.hok a o e).stay (fun b u _ q=>k b u q) (fun b q=>same b _ q) fun b xs q=>same b _ q
 ·exact new a o (Nat.not_lt.mp c) e
theorem Cj{prog:Program}{w:World}{A:Around}{E:Value->Shared->Prop}{s:Shared}{z:Addr}{Q:Bool->Shared->Prop}(hT:s.TypeIs (.ref z) "zip")(h:Q true s):wpAny (model prog w) A (Lb (.ref z)) Q E s:=by
 unfold Lb;refine FM (Hk hT (show Mw (.type "zip") "__len__"=pure none by rw[On,Mr];kernel_rfl) ?_);show wpAny _ _ (specialOf (Gi z) (IX "__length_hint__")>>=_) _ _ _;refine FM (Hk hT (show Mw (.type "zip") "__length_hint__"=pure none by rw[On,Mr];kernel_rfl) ?_);exact FT h
section
variable{prog:Program}{w:World}{A:Around}{E:Value->Shared->Prop}{s:Shared}
theorem yX{z TI TO j1 j2 S:Addr}{fp1 fp2:List Addr}{n1 n2:Nat}{P1 P2:Nat->Value->Prop}{S1 S2:Nat->Heap->Prop}{R:Result->Shared->Prop}(hh:A.handled=none)(Z:gB z TI TO j1 j2 fp1 fp2)
  (D1:Draws prog w A.in1.in1 j1 fp1 n1 P1 S1) (D2:Draws prog w A.in1.in1 j2 fp2 n2 P2 S2) (hn:min n1 n2<=FY) (hS:S∉[z,TI,TO,j1,j2]) (hS1:S∉fp1) (hS2:S∉fp2) (hlo:∀c∈[z,TI,TO,j1,j2,S],c<s.heap.objs.size) (hlo1:∀c∈fp1,c<s.heap.objs.size) (hlo2:∀c∈fp2,c<s.heap.objs.size)
  (hz:IsZip s.heap z TI TO .none) {u v:Value} (hTO:IsPair s.heap TO u v) (hTI:IsPair s.heap TI (.ref j1) (.ref j2)) (st1:S1 0 s.heap) (st2:S2 0 s.heap) {c₀:Nat} (hSS:s.heap.get? S=some { cls:=.type "list",data:=.seq #[] c₀ })
  (hR:∀h' tk acc c ts,(∀b o,b∉[z,TI,TO,j1,j2]->b≠S->s.heap.get? b=some o->h'.get? b=some o)->h'.get? S=some { cls:=.type "list",dict:=none,data:=.seq acc c,slots:=#[] }->ts.length=min n1 n2->ZTs P1 P2 s.heap.objs.size h' ts->
   acc.toList=ts.map Gi->R (.ok (.ret .none)) { s with heap:=h',toks:=tk }):
  wpAny (model prog w) A.in1 (Ij (.ref S) (.ref z) .none)
   (fun fin s'=>match fin with | .done f=>R (.ok f) s' | .again c'=>c'.quiet=true/\codeAny (model prog w) A c' R s') (fun e s'=>R (.error e) s') s:=by
 have zS:∀c∈[z,TI,TO,j1,j2],c≠S:=fun c hc e=>hS (by rw[<-e];exact hc);have hT:s.TypeIs (.ref z) "zip":=⟨_,hz,rfl⟩;unfold Ij;refine FM (Nd (T:="zip") hT ?_);have h1:LK (.ref S) (.ref z)=false:=by simp[LK,(zS z (by simp)).symm]
 have h2:(HY "zip"==HY "list")=false:=by decide
 have h3:(HY "zip"==HY "tuple")=false:=by decide
 simp only[h1,h2,h3,Bool.or_false,GY,if_false];refine FM (LB hz ?_);refine FM (HX (Cj hT ?_));rw[if_pos (by simp)];refine FM (Jw ?_);refine FM ?_;show wpAny _ _ (Nm S (·.push .none)>>=fun _=>Nm S (·.pop)) _ _ _;refine FM (KA hSS rfl ?_);have hS₂:=GS (G9 (·.push Hz)) hSS rfl;refine KA (hz:=by seq_fits) hS₂ rfl ?_;have hS₃:=GS (G9 (·.pop)) hS₂ rfl;have oth:∀b o,b≠S->s.heap.get? b=some o->((s.heap.update S (G9 (·.push Hz))).update S (G9 (·.pop))).get? b=some o:=fun b o hb e=>
  (Ik _ _ (Hn hb)).trans ((Ik _ _ (Hn hb)).trans e)
 refine FT ⟨Lk IU _,Ci (s:=s) (lo:=s.heap.objs.size) (h₁:=s.heap) hh Z D1 D2 hn hS hS1 hS2 hlo hlo1 hlo2 .none hR (min n1 n2) 0 _ _ _ #[] [] (Nat.sub_zero _) (GH _) (.inl ⟨rfl,oth z _ (zS z (by simp)) hz,u,v,oth TO _ (zS TO (by simp)) hTO⟩) (oth TI _ (zS TI (by simp)) hTI)
  (D1.frame _ _ _ st1 fun b hb o e=>oth b o (fun q=>hS1 (by rw[<-q];exact hb)) e) (D2.frame _ _ _ st2 fun b hb o e=>oth b o (fun q=>hS2 (by rw[<-q];exact hb)) e) (fun b o _ hb e=>oth b o hb e) hS₃ rfl rfl (fun j t hj=>by simp at hj) ?_⟩
 rw[LL,LL];exact FU _
theorem Ck{z TI TO j1 j2:Addr}{fp1 fp2:List Addr}{n1 n2:Nat}{P1 P2:Nat->Value->Prop}{S1 S2:Nat->Heap->Prop}{Q:Value->Shared->Prop}(hh:A.handled=none)(Z:gB z TI TO j1 j2 fp1 fp2)
  (D1:∀A':Around,A'.handled=none->Draws prog w A' j1 fp1 n1 P1 S1) (D2:∀A':Around,A'.handled=none->Draws prog w A' j2 fp2 n2 P2 S2) (hn:min n1 n2<=FY) (hlo:∀c∈[z,TI,TO,j1,j2],c<s.heap.objs.size) (hlo1:∀c∈fp1,c<s.heap.objs.size) (hlo2:∀c∈fp2,c<s.heap.objs.size)
  (hz:IsZip s.heap z TI TO .none) {u v:Value} (hTO:IsPair s.heap TO u v) (hTI:IsPair s.heap TI (.ref j1) (.ref j2)) (st1:S1 0 s.heap) (st2:S2 0 s.heap)
  (hQ:∀h' tk acc c ts,(∀b o,b∉[z,TI,TO,j1,j2]->s.heap.get? b=some o->h'.get? b=some o)->h'.get? s.heap.objs.size=some { cls:=.type "list",dict:=none,data:=.seq acc c,slots:=#[] }->ts.length=min n1 n2->ZTs P1 P2 (s.heap.objs.size+1) h' ts->
   acc.toList=ts.map Gi->Q (.ref s.heap.objs.size) { s with heap:=h',toks:=tk }):
  wpAny (model prog w) A (call (.type "list") [.ref z]) Q E s:=by
 refine callType_codes (Q₁:=fun obj s₁=>obj=.ref s.heap.objs.size/\s₁={ s with heap:=s.heap.push { cls:=.type "list",data:=.seq #[] } }) PySem.F.called_list (PySem.F.typeCall_list_1 _) PySem.F.entry_list_init
  (code_list_new _ ⟨rfl,rfl⟩) fun obj s₁ h₁=>?_
 obtain⟨rfl,rfl⟩:=h₁;have hS:(s.heap.push { cls:=.type "list",data:=.seq #[] }).get? s.heap.objs.size=some { cls:=.type "list",data:=.seq #[] }:=F9 _ rfl;refine⟨⟨_,hS,rfl⟩,PySem.F.args_list_init_2 _ _,?_⟩;show wpAny _ _ (do let old <-Md (.ref s.heap.objs.size);LQ (.ref s.heap.objs.size) (fun _=>#[]);letGo old.toList.reverse;Ij (.ref s.heap.objs.size) (.ref z) .none) _ _ _;refine FM ?_;unfold Md;refine FM (G7 hS rfl (FT ?_));show wpAny _ _ (Nm s.heap.objs.size (fun _=>#[])>>=fun _=>letGo (#[]:Array Value).toList.reverse>>=fun _=>Ij (.ref s.heap.objs.size) (.ref z) .none) _ _ _;refine FM (KA hS rfl ?_);have hS₂:=GS (G9 (fun _=>(#[]:Array Value))) hS rfl;have oth:∀b o,b≠s.heap.objs.size->(s.heap.push { cls:=.type "list",data:=.seq #[] }).get? b=some o->((s.heap.push { cls:=.type "list",data:=.seq #[] }).update s.heap.objs.size (G9 (fun _=>(#[]:Array Value)))).get? b=some o:=
  fun b o hb e=>(Ik _ _ (Hn hb)).trans e
 have oth':∀b o,s.heap.get? b=some o->((s.heap.push { cls:=.type "list",data:=.seq #[] }).update s.heap.objs.size (G9 (fun _=>(#[]:Array Value)))).get? b=some o:=fun b o e=>oth b o (GK (F4 e)) (FP _ e);have sz:((s.heap.push { cls:=.type "list",data:=.seq #[] }).update s.heap.objs.size (G9 (fun _=>(#[]:Array Value)))).objs.size=s.heap.objs.size+1:=by rw[LL,GR]
 refine FM (Mc ?_);refine yX (A:=A.in1) hh Z (D1 _ hh) (D2 _ hh) hn (fun hm=>Hr _ (hlo _ hm)) (fun hm=>Hr _ (hlo1 _ hm)) (fun hm=>Hr _ (hlo2 _ hm)) (fun c hc=>?_) (fun c hc=>?_) (fun c hc=>?_) (oth' _ _ hz) (oth' _ _ hTO) (oth' _ _ hTI)
  ((D1 _ hh).frame _ _ _ st1 fun b _ o e=>oth' b o e) ((D2 _ hh).frame _ _ _ st2 fun b _ o e=>oth' b o e) hS₂ (fun h' tk acc c ts hk hS' hl hG hacc=>?_)
 ·show c<((s.heap.push { cls:=.type "list",data:=.seq #[] }).update s.heap.objs.size (G9 (fun _=>(#[]:Array Value)))).objs.size
  rw[sz];rcases Gv.mp (show c∈[z,TI,TO,j1,j2]++[s.heap.objs.size]from hc)with hc|hc
  ·exact JY (hlo c hc)
  ·rw[FR.mp hc];exact IW _
 ·show c<((s.heap.push { cls:=.type "list",data:=.seq #[] }).update s.heap.objs.size (G9 (fun _=>(#[]:Array Value)))).objs.size
  rw[sz];exact JY (hlo1 c hc)
 ·show c<((s.heap.push { cls:=.type "list",data:=.seq #[] }).update s.heap.objs.size (G9 (fun _=>(#[]:Array Value)))).objs.size
  rw[sz];exact JY (hlo2 c hc)
 ·have hG':ZTs P1 P2 (s.heap.objs.size+1) h' ts:=by rw[<-sz];exact hG
  exact⟨rfl,hQ h' tk acc c ts (fun b o hb e=>hk b o hb (GK (F4 e)) (oth' b o e)) hS' hl hG' hacc⟩
end
section
variable{X:Cx}
theorem DH{h:Heap}{us vs:List Value}{xs ys:List V}{lo:Addr}{ts:List Addr}(ru:aA xs us)(rv:aA ys vs)(hl:ts.length=min us.length vs.length)(G:ZTs (fun i v=>us.toArray[i]?=some v) (fun i v=>vs.toArray[i]?=some v) lo h ts):
  ∀(i:Nat)(t:Addr),ts[i]?=some t->lo<=t/\∃x y u v,xs[i]?=some x/\ys[i]?=some y/\aB x u/\aB y v/\IsPair h t u v:=fun i t ht=>by
 obtain⟨h1,u,v,p1,p2,e⟩:=G i t ht;have hi:i<ts.length:=(FS.mp ht).1;have l1:=ru.length;have l2:=rv.length;obtain⟨x,hx⟩:∃x,xs[i]?=some x:=⟨_,FN (by omega)⟩;obtain⟨y,hy⟩:∃y,ys[i]?=some y:=⟨_,FN (by omega)⟩;obtain⟨u',hu',ru'⟩:=ru.get hx;obtain⟨v',hv',rv'⟩:=rv.get hy;have eu:u=u':=by
  have:us.toArray[i]?=some u':=by simpa using hu'
  rw[this]at p1;exact(F1 p1).symm
 have ev:v=v':=by
  have:vs.toArray[i]?=some v':=by simpa using hv'
  rw[this]at p2;exact(F1 p2).symm
 subst eu ev;exact⟨h1,x,y,u,v,hx,hy,ru',rv',e⟩
theorem wE{x y:V}{u:Value}(a:aB x u)(b:aB y u):x=y:=by
 cases x<;>cases y<;>simp only[aB]at a b<;>first
  |rfl
  | (subst a;cases b;rfl)
  | (subst a;cases b;done)
  | (obtain⟨t,rfl⟩:=a;obtain⟨t',e⟩:=b;cases e;rfl)
  | (obtain⟨t,rfl⟩:=a;obtain⟨t',e⟩:=b;cases e;done)
  | (obtain⟨t,rfl⟩:=a;cases b;done)
  | (subst a;obtain⟨t',e⟩:=b;cases e;done)
theorem DI(S1 S2:Src){a b:Expr}{ta:TA}{p pos p2 pos2:Pos}(hc:X.calm=true)(hgl:Gl X "list")(hml:X.mg "list"=none)(hg:Gl X "zip")(hm:X.mg "zip"=none)(ha:PA X [a,b] ta)
  (hs:Gf [a,b] X.env=[(false,eval a X.env),(false,eval b X.env)]:=by rfl) (hs2:Gf [b] X.env=[(false,eval b X.env)]:=by rfl)
  (hs3:Gf [.Call (.Name "zip" p2) [a,b] [] pos2] X.env=[(false,eval (.Call (.Name "zip" p2) [a,b] [] pos2) X.env)]:=by rfl):
  PE X (.Call (.Name "list" p) [.Call (.Name "zip" p2) [a,b] [] pos2] [] pos) (yJ S1 S2 X.K ta):=by
 intro pins s σ H Q I h;refine Jg (i5 I hgl hml Jj (Hl ?_ hs3 rfl));rw[hs3];show wpAny _ _ (spliced [(false,eval (.Call (.Name "zip" p2) [a,b] [] pos2) X.env)]) _ _ s;refine Na ?_;refine Call_ (i5 I hg hm boot_zip (Hl (thn (ha pos2 pins s σ H _ I h) fun us s1 ⟨vs,H1,I1,r1,q1⟩=>?_) (by rw[hs,hs2]) (by rw[hs2];rfl)));obtain⟨l1,l2,xs,ys,e,hq1,hq2,hxl,q⟩:=q1;subst e;obtain⟨u,v,rfl,ru,rv⟩:=r1.two;cases ru;cases rv;obtain⟨us1,rv1,p1,_⟩:=S1.get I1 hq1;obtain⟨us2,rv2,p2',_⟩:=S2.get I1 hq2;refine Nh F.called_zip (by decide) (NW _ _) (Oe _ _) (fun obj=>MD obj _ _) Of (xI S1 S2 l1 l2 us1.toArray us2.toArray) ⟨p1,p2',?_⟩;generalize hn:s1.heap.objs.size=n;have z1:(zh1 S1 s1.heap l1).objs.size=n+1:=by rw[GR,hn]
 have z2:(zh2 S1 S2 s1.heap l1 l2).objs.size=n+2:=by rw[GR,z1]
 have z3:(zh3 S1 S2 s1.heap l1 l2).objs.size=n+3:=by rw[GR,z2]
 have z4:(zh4 S1 S2 s1.heap l1 l2).objs.size=n+4:=by rw[GR,z3]
 have z5:(zh5 S1 S2 s1.heap l1 l2).objs.size=n+5:=by rw[GR,z4]
 have g5:(zh5 S1 S2 s1.heap l1 l2).get? (zh4 S1 S2 s1.heap l1 l2).objs.size=some _:=F9 _ rfl;have g4:(zh5 S1 S2 s1.heap l1 l2).get? (zh3 S1 S2 s1.heap l1 l2).objs.size=some _:=FP _ (F9 _ rfl);have g3:(zh5 S1 S2 s1.heap l1 l2).get? (zh2 S1 S2 s1.heap l1 l2).objs.size=some _:=FP _ (FP _ (F9 _ rfl));have g2:(zh5 S1 S2 s1.heap l1 l2).get? (zh1 S1 s1.heap l1).objs.size=some _:=FP _ (FP _ (FP _ (F9 _ rfl)));have g1:(zh5 S1 S2 s1.heap l1 l2).get? s1.heap.objs.size=some _:=FP _ (FP _ (FP _ (FP _ (F9 _ rfl))));have kp:∀c o,s1.heap.get? c=some o->(zh5 S1 S2 s1.heap l1 l2).get? c=some o:=fun c o e=>
  FP _ (FP _ (FP _ (FP _ (FP _ e))))
 show _/\_;rw[z2,z3,z4]at g5;rw[z1,z2,hn]at g3;rw[z3]at g4;rw[z1]at g2;rw[hn]at g1;rw[z4];refine⟨⟨_,g5,rfl⟩,Nt ?_⟩;have lt1:l1<n:=by
  obtain⟨o,_,ho,_⟩:=S1.isSeq p1;rw[<-hn];exact F4 ho
 have lt2:l2<n:=by
  obtain⟨o,_,ho,_⟩:=S2.isSeq p2';rw[<-hn];exact F4 ho
 have five:∀c:Nat,c∈[n+4,n+2,n+3,n,n+1]->n<=c/\c<n+5:=fun c hc=>by
  simp only[FW,GL,or_false]at hc;omega
 have nel:∀l c:Nat,l<n->n<=c->c≠l:=fun l c h1 h2=>by omega
 have Z:gB (n+4) (n+2) (n+3) n (n+1) [n,l1] [n+1,l2]:=zap (by simp) (fun c hc=>nel l1 c lt1 (five c hc).1) (fun c hc=>nel l2 c lt2 (five c hc).1);have is1:S1.Is (zh5 S1 S2 s1.heap l1 l2) l1 us1.toArray:=S1.isKeep p1 fun o e=>kp _ _ e;have is2:S2.Is (zh5 S1 S2 s1.heap l1 l2) l2 us2.toArray:=S2.isKeep p2' fun o e=>kp _ _ e;refine Ck (s:={ s1 with heap:=zh5 S1 S2 s1.heap l1 l2 }) (n1:=us1.toArray.size) (n2:=us2.toArray.size) (I1.ok.hd hc) Z (fun A' hA=>S1.draws hA n l1 (nel l1 n lt1 (FU _)).symm us1.toArray) (fun A' hA=>S2.draws hA (n+1) l2 (nel l2 (n+1) lt2 (L7 _)).symm us2.toArray) ?_ ?_ ?_ ?_ g5 g4 g3 ⟨S1.mkI g1 rfl rfl,is1⟩ ⟨S2.mkI g2 rfl rfl,is2⟩ ?_
 ·have:=rv1.length
  simp only[F8];rw[FV];omega
 ·intro c hc
  show c<(zh5 S1 S2 s1.heap l1 l2).objs.size;rw[z5];exact(five c hc).2
 ·intro c hc
  show c<(zh5 S1 S2 s1.heap l1 l2).objs.size;rw[z5];rcases FW.mp hc with rfl|hc
  ·exact Nat.lt_add_of_pos_right (by decide)
  ·rw[FR.mp hc];exact Gg lt1 (HS _ _)
 ·intro c hc
  show c<(zh5 S1 S2 s1.heap l1 l2).objs.size;rw[z5];rcases FW.mp hc with rfl|hc
  ·exact Nat.add_lt_add_left (by decide) n
  ·rw[FR.mp hc];exact Gg lt2 (HS _ _)
 intro h' tk acc c ts hk hS' hl hG hacc;have hS'':h'.get? (n+5)=some { cls:=.type "list",dict:=none,data:=.seq acc c,slots:=#[] }:=by rw[<-z5];exact hS'
 have hG':ZTs (fun i v=>us1.toArray[i]?=some v) (fun i v=>us2.toArray[i]?=some v) (n+5+1) h' ts:=by rw[<-z5];exact hG
 have hl':ts.length=min us1.length us2.length:=by simpa using hl
 have G:=DH rv1 rv2 hl' hG';have old:∀b o,s1.heap.get? b=some o->h'.get? b=some o:=fun b o e=>hk b o (fun hm=>by
  have:=F4 e;rw[hn]at this;exact absurd (five b hm).1 (Kz.mpr this)) (kp b o e)
 have l1':=rv1.length;have l2':=rv2.length
 let H':Hp:=fun b=>if b=n+5 then some (.lst (ts.map V.ref))else match ts.findIdx? (· ==b)with
  |some i=>(match xs[i]?,ys[i]? with|some x,some y=>some (.tup [x,y])|_,_=>H1 b)
  |none=>H1 b
 have big:∀(i:Nat)(t:Addr),ts[i]?=some t->n+6<=t:=fun i t ht=>(G i t ht).1;have Hts:∀(i:Nat)(t:Addr),ts[i]?=some t->∃x y u v,H' t=some (.tup [x,y])/\xs[i]?=some x/\ys[i]?=some y/\aB x u/\aB y v/\IsPair h' t u v:=by
  intro i t ht;obtain⟨hlo,x,y,u,v,hx,hy,rx,ry,e⟩:=G i t ht;refine⟨x,y,u,v,?_,hx,hy,rx,ry,e⟩;have net:t≠n+5:=fun q=>by rw[q]at hlo;exact absurd hlo (Kz.mpr (IW _))
  show(if t=n+5 then _ else _)=_;rw[if_neg net];cases hf:ts.findIdx? (· ==t)with
  |none=>
   have:=List.findIdx?_eq_none_iff.mp hf t (F0 ht);simp at this
  |some i0=>
   obtain⟨h0,h1,_⟩:=IV.mp hf;have ht0:ts[i0]?=some t:=by rw[FN h0];congr 1;exact eq_of_beq h1
   obtain⟨_,x0,y0,u0,v0,hx0,hy0,rx0,ry0,e0⟩:=G i0 t ht0;have eq:=F1 (e0.symm.trans e);have eu:u0=u/\v0=v:=by
    injection eq with _ _ eq
    injection eq with eq _
    simp at eq;exact eq
   rw[eu.1]at rx0;rw[eu.2]at ry0;simp only[hx0,hy0];rw[wE rx0 rx,wE ry0 ry]
 have hH:∀b,b<s1.heap.objs.size->H' b=H1 b:=by
  intro b hb;rw[hn]at hb;have ne5:b≠n+5:=fun q=>by rw[q]at hb;exact absurd hb (Nat.not_lt.mpr (HS _ _))
  show(if b=n+5 then _ else _)=_;rw[if_neg ne5];cases hf:ts.findIdx? (· ==b)with
  |none=>rfl
  |some i0=>
   obtain⟨h0,h1,_⟩:=IV.mp hf;have ht0:ts[i0]?=some b:=by rw[FN h0];congr 1;exact eq_of_beq h1
   have:=big i0 b ht0;exact absurd (Gg hb (Gs (HS _ _) this)) (Hr _)
 have e5:H' (n+5)=some (.lst (ts.map V.ref)):=if_pos rfl;have hvals:aA (ts.map V.ref) acc.toList:=by
  have go:∀l:List Addr,aA (l.map V.ref) (l.map Gi):=fun l=>by
   induction l with
   |nil=>exact .nil
   |cons t r ih=>exact .cons rfl ih
  rw[hacc];exact go ts
 have I2:Inv X pins σ H' { s1 with heap:=h',toks:=tk }:=I1.news old hH fun a o ha eo=>by
  by_cases c5:a=n+5
  ·subst c5
   rw[e5]at eo;cases eo;refine⟨?_,acc.toList,c,hvals,by simpa using hS''⟩;rw[FQ,hl',FV];omega
  ·have eo':(match ts.findIdx? (· ==a)with
    |some i=>(match xs[i]?,ys[i]? with|some x,some y=>some (HO.tup [x,y])|_,_=>H1 a)
    |none=>H1 a)=some o:=by
    have:H' a=some o:=eo;rw[show H' a=(if a=n+5 then some (.lst (ts.map V.ref))else match ts.findIdx? (· ==a)with
     |some i=>(match xs[i]?,ys[i]? with|some x,some y=>some (.tup [x,y])|_,_=>H1 a)
     |none=>H1 a)from rfl,if_neg c5]at this
    exact this
   have hfr:H1 a=none:=I1.hok.fresh ha;cases hf:ts.findIdx? (· ==a)with
   |none=>rw[hf]at eo';rw[show H1 a=some o from eo']at hfr;cases hfr
   |some i0=>
    obtain⟨h0,h1,_⟩:=IV.mp hf;have ht0:ts[i0]?=some a:=by rw[FN h0];congr 1;exact eq_of_beq h1
    obtain⟨_,x0,y0,u0,v0,hx0,hy0,rx0,ry0,e0⟩:=G i0 a ht0;rw[hf]at eo';simp only[hx0,hy0]at eo';cases eo';exact⟨(by show 2<=FY;decide),[u0,v0],.cons rx0 (.cons ry0 .nil),_,e0,rfl,⟨0,rfl⟩,rfl⟩
 have hp5:H1 (n+5)=none:=I1.hok.fresh (by rw[hn];exact HS _ _);have hsame:ah H1 H':=fun b o eb=>by
  rw[hH b (I1.hok.lt eb)];exact eb
 show∃v H',_/\_/\_;refine⟨.ref (n+5),H',I2,by rw[<-z5];rfl,q _ _ hp5 hsame ⟨ts,e5,?_⟩⟩;have go:∀(l:List Addr)(m:List (V×V)),l.length=m.length->(∀(i:Nat)(t:Addr)(pq:V×V),l[i]?=some t->m[i]?=some pq->H' t=some (.tup [pq.1,pq.2]))->nO H' l m:=by
  intro l
  induction l with
  |nil=>intro m hl _;cases m with
   |nil=>exact .nil
   |cons _ _=>simp at hl
  |cons t r ih=>intro m hl hh;cases m with
   |nil=>simp at hl
   |cons pq m=>exact .cons (hh 0 t pq rfl rfl) (ih m (by simpa using hl) fun i t pq h1 h2=>hh (i+1) t pq h1 h2)
 refine go _ _ (by rw[Iw];omega) fun i t pq ht hpq=>?_;obtain⟨x,y,u,v,e,hx,hy,_⟩:=Hts i t ht;rw[e];have:(xs.zip ys)[i]?=some (x,y):=by rw[IS];exact⟨hx,hy⟩
 rw[this]at hpq;cases hpq;rfl
end
end
section
open PySem.Spec
section
variable{prog:Program}{w:World}{A:Around}{E:Value->Shared->Prop}{s:Shared}
theorem uk{Q:List Value->Shared->Prop}{r:Addr}{a b c:Int}{t u v:Tok}{n:Nat}(hh:A.handled=none)(hr:IsRange s.heap r a b c t u v)(hsmall:MZ a b c=true)(hn:JR a b c=n)(hlen:n<=2^24)
  (hQ:∀(h':Heap)(tk:Nat)(acc':Array Value),(∀b o,s.heap.get? b=some o->h'.get? b=some o)->ItemsOf (fun i v=>∃t,v=.int (a+i*c) t) acc' n->Q acc'.toList { s with heap:=h',toks:=tk }):
  wpAny (model prog w) A (collect (.ref r)) Q E s:=by
 unfold collect;refine FM (wpAny_runValue (JI F.entry_proto_collect ?_));rw[IT F.plain_proto_collect _];show wpAny _ A.in1 (newList []>>=fun l=>again (.builtin "list.__iadd__" ⟨[l,.ref r],[]⟩)) _ _ s;refine FM (Hv ?_);refine FT ⟨Lk ND _,JI F.entry_list_iadd ?_⟩;rw[IT ND _];show wpAny _ A.in1 (Ij (.ref s.heap.objs.size) (.ref r) (.ref s.heap.objs.size)) _ _ _;have hS:(s.heap.push { cls:=.type "list",data:=.seq ([]:List Value).toArray }).get? s.heap.objs.size=some { cls:=.type "list",data:=.seq #[] 0 }:=F9 _ rfl;have fin':∀(h':Heap)(tk c':Nat)(acc':Array Value),(∀b o,b≠s.heap.objs.size->(s.heap.push { cls:=.type "list",data:=.seq ([]:List Value).toArray }).get? b=some o->h'.get? b=some o)->h'.get? s.heap.objs.size=some { cls:=.type "list",dict:=none,data:=.seq acc' c',slots:=#[] }->ItemsOf (fun i v=>∃t,v=.int (a+i*c) t) acc' n->wpAny (model prog w) A (match Gi s.heap.objs.size with
   |Gi a=>do
    match (<-load a).data with
     |Data.seq xs _=>pure xs.toList
     |_=>unsupported "internal:collect"
   |_=>unsupported "internal:collect") Q E { s with heap:=h',toks:=tk }:=by
  intro h' tk c' acc' hk hS' hacc;show wpAny _ A (load s.heap.objs.size>>=_) _ _ _;refine FM (wpAny_load hS' ?_);refine FT ?_;exact hQ h' tk acc' (fun b o e=>hk b o (GK (F4 e)) (FP _ e)) hacc
 refine Hd (wpAny_extend_range (A:=A) (R:=fun r s'=>r=.ok (.ret (.ref s.heap.objs.size))/\∃(h':Heap)(tk c':Nat)(acc':Array Value),s'={ s with heap:=h',toks:=tk }/\(∀b o,b≠s.heap.objs.size->(s.heap.push { cls:=.type "list",data:=.seq ([]:List Value).toArray }).get? b=some o->h'.get? b=some o)/\h'.get? s.heap.objs.size=some { cls:=.type "list",dict:=none,data:=.seq acc' c',slots:=#[] }/\ItemsOf (fun i v=>∃t,v=.int (a+i*c) t) acc' n)
  (s:={ s with heap:=s.heap.push { cls:=.type "list",data:=.seq ([]:List Value).toArray } }) hh (FP _ hr) hsmall hn hlen s.heap.objs.size (.ref s.heap.objs.size) 0 hS fun h' tk acc' c' hk hS' hacc=>⟨rfl,h',tk,c',acc',rfl,hk,hS',hacc⟩) (fun fin s' h=>?_) (fun e s' h=>?_)
 ·cases fin with
  |done f=>
   obtain⟨e,h',tk,c',acc',rfl,h1,h2,h3⟩:=h;cases e;exact fin' h' tk c' acc' h1 h2 h3
  |again c'=>exact⟨h.1,Kq h.2 fun r s'' hr=>by obtain⟨rfl,h',tk,c',acc',rfl,h1,h2,h3⟩:=hr;exact fin' h' tk c' acc' h1 h2 h3⟩
 ·exact absurd h.1 (by simp)
theorem pj{Q:Value->Shared->Prop}{r:Addr}{a b c:Int}{t u v:Tok}{n:Nat}(hh:A.handled=none)(hr:IsRange s.heap r a b c t u v)(hsmall:MZ a b c=true)(hn:JR a b c=n)(hlen:n<=2^24)
  (hQ:∀(h':Heap)(tk:Nat)(acc':Array Value),(∀b o,s.heap.get? b=some o->h'.get? b=some o)->ItemsOf (fun i v=>∃t,v=.int (a+i*c) t) acc' n->Q (.ref h'.objs.size) { s with heap:=h'.push { cls:=.type "tuple",data:=.seq acc' },toks:=tk }):
  wpAny (model prog w) A (call (.type "tuple") [.ref r]) Q E s:=by
 refine callType_codes (Q₁:=fun obj s₁=>s₁.TypeIs obj "tuple"/\Q obj s₁) Ms (F.typeCall_tuple_1 _) F.entry_object_init ?_ fun obj s₁ h₁=>?_
 ·refine codeAny_of_tree ?_
  show wpAny _ A.in1.in1 (do checkBuiltinCall "tuple.__new__" ⟨[.type "tuple",.ref r],[]⟩;again (.builtin "tuple.__new__" ⟨[.type "tuple",.ref r],[]⟩)) _ _ s;refine FM (wpAny_of_eq (F.newCall_tuple_1 _) (FT ⟨Lk NF _,JI F.entry_tuple_new ?_⟩));rw[IT NF _];have hsub:=sub_tuple_self;have hinit:=init_tuple_lookup;have hmh:=madeHere_tuple;have hTI:MS s (.ref r) "range":=⟨_,hr,rfl⟩
  wp_walk using Nd hTI,uk (A:=A.in1.in1) (show A.in1.in1.handled=none from hh) hr hsmall hn hlen
  intro h' tk acc hk hacc;show wpAny _ _ (HQ acc.toList.toArray>>=fun v=>ret v) _ _ _;unfold HQ;have hz:acc.size<=FY:=by rw[hacc.1,FV];omega
  refine FM (Hv ?_ (by show acc.toList.toArray.size<=FY;simpa using hz));refine FT ?_;have e:acc.toList.toArray=acc:=by simp
  rw[e];exact⟨⟨_,F9 _ rfl,rfl⟩,hQ h' tk acc hk hacc⟩
 ·exact⟨h₁.1,MC obj _,object_init_meets Ms.init.lookup Ms.made (by decide) prog w A.in1 _ s₁ ⟨h₁.1,rfl,h₁.2⟩⟩
end
section
variable{X:Cx}{tg:Expr}
theorem Ba(hc:X.calm=true):bP X (.type "tuple") uL:=by
 intro pins s σ H xs us Q I r h;obtain⟨p,n,rfl,e,hn,q⟩:=h;obtain⟨u,rfl,rx⟩:=j4 r;cases rx;obtain⟨t,u,v,hr⟩:=(show br X.prog X.w H s.heap p (.rng 0 (n:Int))from I.hok p _ e);refine pj (n:=n) (show X.A.handled=none from I.ok.hd hc) hr (Oo (by omega) (by omega) (by omega) (by omega)) ?_ (by omega) fun h' tk acc' kp it=>?_
 ·rw[MO];split<;>omega
 ·have I1:Inv X pins σ H { s with heap:=h',toks:=tk }:=I.kept (t':=tk) kp
  have I2:Inv X pins σ (upd H h'.objs.size (.tup ((F5 n).map fun(i:Nat)=>V.int ((i:Nat):Int)))) { s with heap:=h'.push { cls:=.type "tuple",data:=.seq acc' },toks:=tk }:=
   I1.laid (t':=tk) (fun b o e=>FP _ e) (FU _) (show br X.prog X.w _ _ _ (.tup _)from⟨by rw[FQ,G5,FV];omega,acc'.toList,tS it,by simpa using dH.new h' acc'⟩)
  exact⟨.ref h'.objs.size,_,I2,rfl,q.upd _ (I1.hok.fresh (FU _))⟩
end
end
section
open PySem.Spec
noncomputable def vwD(v:List Nat):PyData:=.list (v.map fun(k:Nat)=>.int (k:Int))
theorem tT:∀v w:List Nat,Ll (v.map fun(k:Nat)=>JQ (k:Int)) (w.map fun(k:Nat)=>JQ (k:Int))=decide (v=w)
 | [],[]=>rfl
 | [],_::_=>rfl
 |_::_,[]=>rfl
 |a::v,b::w=>by
  rw[F6,F6,Ll,tT v w,JP,Jf,G3,decide_eq_true_iff,decide_eq_true_iff,LY,beq_iff_eq,Int.ofNat_inj]
theorem qI:∀v w:List (List Nat),Ll (v.map vwD) (w.map vwD)=decide (v=w)
 | [],[]=>rfl
 | [],_::_=>rfl
 |_::_,[]=>rfl
 |a::v,b::w=>by
  rw[F6,F6,Ll,qI v w];have:JP (vwD a) (vwD b)=decide (a=b):=by
   unfold vwD;rw[JP];exact tT a b
  rw[this,Jf,G3,decide_eq_true_iff,decide_eq_true_iff,decide_eq_true_iff,LY]
theorem tU:∀w:List Nat,Ii (w.map fun(k:Nat)=>JQ (k:Int))=true
 | []=>rfl
 |k::g=>by show(true&&Ii _)=true;rw[tU g];rfl
theorem qJ:∀w:List (List Nat),Ii (w.map vwD)=true
 | []=>rfl
 |k::g=>by show(Ii (k.map fun(k:Nat)=>JQ (k:Int))&&Ii _)=true;rw[tU k,qJ g];rfl
theorem qK:∀g:List Nat,Iy (g.map fun(k:Nat)=>JQ (k:Int))=0
 | []=>rfl
 |k::g=>by show max 0 (Iy _)=0;rw[qK g];rfl
theorem oO:∀g:List (List Nat),Iy (g.map vwD)<=1
 | []=>GH _
 |k::g=>by
  show max (Iy (k.map fun(k:Nat)=>JQ (k:Int))+1) (Iy _)<=1;rw[qK k];have:=oO g;omega
theorem mm(g:List (List Nat)):JN (.list (g.map vwD))=true:=by
 unfold JN;rw[show PyData.canLay0 (.list (g.map vwD))=Ii (g.map vwD)from rfl,qJ g,decide_eq_true ?_]
 ·rfl
 ·show Iy (g.map vwD)+1<=64
  have:=oO g;omega
theorem tV{K:Fg}{H:Hp}:∀v:List Nat,gU K H (aq v) (v.map fun(k:Nat)=>JQ (k:Int))
 | []=>.nil
 |k::v=>.cons (.int _) (tV v)
theorem qL{K:Fg}{H:Hp}{rs:List Addr}{vs:List (List Nat)}(h:Paired (fun(r:Addr)(v:List Nat)=>H r=some (.lst (aq v))) rs vs):gU K H (rs.map V.ref) (vs.map vwD):=by
 induction h with
 |nil=>exact .nil
 |cons r _ ih=>exact .cons (.lst (SqL.of r) (tV _)) ih
theorem E2{X:Cx}(hu:X.A.units+64<cLine):OpR X (HP .Eq) Ca:=by
 intro pins s σ H x y v u Q I rx ry h;obtain⟨a,b,vs,ws,rfl,rfl,⟨rs,e1,p1⟩,⟨ts,e2,p2⟩,q⟩:=h;refine EZ hu pins s σ H _ _ v u Q I rx ry ⟨_,_,.lst (SqL.of e1) (qL p1),.lst (SqL.of e2) (qL p2),mm vs,mm ws,?_⟩;show Q (.bl (JP (.list (vs.map vwD)) (.list (ws.map vwD)))) H;rw[JP,qI];exact q
end
end L2
section
namespace L2
open PySem
end L2
end
namespace L2
open PySem PyProof.Rows
section
open PySem.Spec PySem.Calls
section
variable{X:Cx}
end
end
section
open PySem.Spec
section
variable{X:Cx}{elt tg iter:Expr}{ifs:List Expr}{scope sc:Scope}{pos:Pos}{NX N:List Str}{ix:List (Option Nat)}{own:Str}{wi:TI}{g:CF TG}{tt:CF TT}{te:CF TE}
end
end
end L2
section
namespace L2
open PySem
noncomputable def Rs(xs:List Nat):Prop:=xs.Pairwise (· < ·)
end L2
end
section
namespace L2
open PySem
section
variable{prog:Program}{w:World}{K:Type}[DecidableEq K]{knd:KeyKind prog w K}{A:Around}{E:Value->Shared->Prop}{s:Shared}
noncomputable def Ent(knd:KeyKind prog w K)(k:K)(e:Int×Value):Prop:=knd.is k e.2=true/\e.1=knd.hash k/\e.2.scannable=true
inductive lW{α β:Type}(F:α->β->Prop):List α->List β->Prop
 |nil:lW F [] []
 |cons {a b l m}:F a b->lW F l m->lW F (a::l) (b::m)
theorem lW.len{α β:Type}{F:α->β->Prop}{l:List α}{m:List β}(h:lW F l m):l.length=m.length:=by
 induction h with
 |nil=>rfl
 |cons _ _ ih=>rw[Gm,Gm,ih]
noncomputable def sr(knd:KeyKind prog w K)(h:Heap)(a:Addr)(ks:List K)(led:Bool):Prop:=
 ∃o es ep t,h.get? a=some o/\o.ExactSet/\o.data=.set es ep t/\lW (Ent knd) ks es.toList/\ks.Nodup/\es.size<scanBound/\t.fits es.size=true/\Rs t.place.toList/\t.led=led
theorem stored{h:Heap}{a:Addr}{o:Obj}{es es':Array (Int×Value)}{ep:Nat}{t t':LM}{ks':List K}{led:Bool}(g1:h.get? a=some o)(g2:o.ExactSet)(g3:o.data=.set es ep t)(pr:lW (Ent knd) ks' es'.toList)(nd:ks'.Nodup)(sb:es'.size<scanBound)(ft:t'.fits es'.size=true)(rs:Rs t'.place.toList)(ld:t'.led=led):
  (h.update a (ML es' t')).get? a=some { o with data:=.set es' (ep+1) t' }/\sr knd (h.update a (ML es' t')) a ks' led:=by
 have hg:(h.update a (ML es' t')).get? a=some { o with data:=.set es' (ep+1) t' }:=by
  have z:=GS (ML es' t') g1 (by rw[putSet_of _ _ g3];rfl);rw[z,putSet_of _ _ g3]
 exact⟨hg,_,es',ep+1,t',hg,g2,rfl,pr,nd,sb,ft,rs,ld⟩
end
end L2
end
namespace L2
open PySem PyProof.Rows
section
open PySem.Spec
section
variable{prog:Program}{w:World}{K:Type}[DecidableEq K]{knd:KeyKind prog w K}{A:Around}{R:Result->Shared->Prop}{I:Addr}{fp wr:List Addr}{G:Array Mu->Array Mu->Prop}{n:Nat}{P:Nat->Value->Prop}{St:Nat->Shared->Prop}
theorem sr.at{h h':Heap}{a:Addr}{ks:List K}{led:Bool}(r:sr knd h a ks led)(k:∀o,h.get? a=some o->h'.get? a=some o):sr knd h' a ks led:=by
 obtain⟨o,es,ep,t,e,z⟩:=r;exact⟨o,es,ep,t,k o e,z⟩
end
end
section
open PySem.Spec
section
variable{prog:Program}{w:World}{A:Around}{E:Value->Shared->Prop}{s:Shared}
end
end
section
open PySem.Spec
section
variable{prog:Program}{w:World}{K:Type}[DecidableEq K]{knd:KeyKind prog w K}{A:Around}{E:Value->Shared->Prop}{s:Shared}
end
end
section
open PySem.Spec
end
section
open PySem.Spec
noncomputable def SAt(h:Heap)(a:Addr)(es:Array (Int×Value))(ep:Nat)(t:LM):Prop:=∃o,h.get? a=some o/\o.data=.set es ep t/\t.fits es.size=true
noncomputable def jZ(h:Heap)(I a:Addr)(f:Value)(i n ep:Nat):Prop:=∃o,h.get? I=some o/\o.cls=.type "set_iterator"/\o.data=.fields #[f,.int i 0,.ref a,.int n 0,.int ep 0]
theorem SAt.at{h h':Heap}{a:Addr}{es:Array (Int×Value)}{ep:Nat}{t:LM}(x:SAt h a es ep t)(k:∀o,h.get? a=some o->h'.get? a=some o):SAt h' a es ep t:=by
 obtain⟨o,e,r⟩:=x;exact⟨o,k o e,r⟩
theorem jZ.at{h h':Heap}{I a:Addr}{f:Value}{i n ep:Nat}(x:jZ h I a f i n ep)(k:∀o,h.get? I=some o->h'.get? I=some o):jZ h' I a f i n ep:=by
 obtain⟨o,e,r⟩:=x;exact⟨o,k o e,r⟩
theorem jZ.type{s:Shared}{I a:Addr}{f:Value}{i n ep:Nat}(x:jZ s.heap I a f i n ep):s.TypeIs (.ref I) "set_iterator":=by
 obtain⟨o,e,c,_⟩:=x;exact⟨o,e,c⟩
theorem jZ.set{h:Heap}{I a:Addr}{f g:Value}{i n ep:Nat}(x:jZ h I a f i n ep):jZ (h.update I (Obj.mapFields (·.setIfInBounds 0 g))) I a g i n ep:=by
 obtain⟨o,e,c,d⟩:=x;refine⟨_,GS _ e (Ki (IF d _)),(Lp ..).trans c,?_⟩;rw[IF d];simp
theorem jZ.step{h:Heap}{I a:Addr}{f:Value}{i n ep:Nat}(x:jZ h I a f i n ep):jZ (h.update I (Obj.mapFields (·.setIfInBounds 1 (rawInt ((i:Int)+1))))) I a f (i+1) n ep:=by
 obtain⟨o,e,c,d⟩:=x;refine⟨_,GS _ e (Ki (IF d _)),(Lp ..).trans c,?_⟩;rw[IF d];simp[rawInt]
section
variable{prog:Program}{w:World}{A:Around}{E:Value->Shared->Prop}{s:Shared}{I a:Addr}{es:Array (Int×Value)}{ep:Nat}{t:LM}{i:Nat}
end
end
section
open PySem.Spec
section
variable{prog:Program}{w:World}{A:Around}{E:Value->Shared->Prop}{s:Shared}{I a:Addr}{es:Array (Int×Value)}{ep:Nat}{t:LM}{i:Nat}
theorem p7(es:Array (Int×Value)):((F5 es.size).map fun p=>es.getD p (0,.none))=es.toList:=by
 apply List.ext_getElem
 ·simp
 ·intro i h1 h2
  have hi:i<es.size:=by simpa using h2
  rw[List.getElem_map,La,Array.getD,dif_pos hi];simp
end
end
section
open PySem.Spec
section
variable{prog:Program}{w:World}{K:Type}[DecidableEq K]{knd:KeyKind prog w K}{A:Around}{E:Value->Shared->Prop}{s:Shared}{I a:Addr}{es:Array (Int×Value)}{ep:Nat}{t:LM}{i:Nat}
noncomputable abbrev dP(knd:KeyKind prog w K)(ord:List K)(i:Nat)(v:Value):Prop:=∃k,ord[i]?=some k/\knd.is k v=true
end
end
section
open PySem.Spec PySem.W
section
variable{prog:Program}{w:World}{K:Type}[DecidableEq K]{knd:KeyKind prog w K}{A:Around}{E:Value->Shared->Prop}{s:Shared}{a:Addr}
theorem sr.type{ks:List K}{led:Bool}(r:sr knd s.heap a ks led):s.TypeIs (.ref a) "set":=by
 obtain⟨o,es,ep,t,g1,g2,_⟩:=r;exact⟨o,g1,g2.1⟩
end
end
section
open PySem.Calls
section
variable{X:Cx}
end
end
section
open PySem.Spec PySem.Calls
section
variable{prog:Program}{w:World}{A:Around}{E:Value->Shared->Prop}{s:Shared}{a:Addr}
end
section
variable{X:Cx}
end
end
section
open PySem.Spec PySem.Calls
section
variable{X:Cx}
end
end
end L2
section
namespace L2
open PySem PySem.Spec PySem.W PyProof.Rows
noncomputable def FnA(K:Frag)(x q:Str)(st:Stmt)(f:Addr):Prop:=∃(oc:Value)(od:Option Addr)(kV doc pm:Value)(an:Option Addr)(cd ct:Value)(sl:Array (Option Value)),K.lookup f=some ⟨oc,od,.func (fnOf x q (ij st) (dL st) (am st) .none kV doc pm an cd ct),sl⟩/\codeIn K cd q=true/\keepIn K (.ref f)=true
noncomputable def DfA(K:Frag)(x:Str)(st:Stmt):Prop:=∃f,nsIn K Gn x=some (some (.ref f))/\FnA K x x st f
noncomputable def MtA(K:Frag)(C:Addr)(m q:Str)(st:Stmt):Prop:=∃f,findIn K (.ref C) m=some (some (.ref f))/\isFn K (.ref f)=true/\FnA K m q st f
theorem FnA.fn{K:Frag}{x q:Str}{st:Stmt}{f:Addr}(h:FnA K x q st f):∃fd,Fun K x q st f fd:=let⟨_,_,_,_,_,_,_,_,_,l,c,k⟩:=h;⟨_,Ac l c k⟩
noncomputable abbrev BdA(x q:Str)(st:Stmt)(ps:List Str):Prop:=∀(kV doc pm:Value)(an:Option Addr)(cdv ct:Value)(us:List Value),us.length=ps.length->bindArgs (fnOf x q (ij st) (dL st) (am st) .none kV doc pm an cdv ct) ⟨us,[]⟩=pure (ps.zip us)
theorem DfA.df{K:Frag}{mg:Str->Option Value}{h:Heap}{x:Str}{st:Stmt}{ps:List Str}(X:K.In h)(G:h.Ns Gn mg)(q:DfA K x st)(b:BdA x x st ps):∃f fd,Def K mg x st ps f fd:=
 let⟨f,a,l⟩:=q;let⟨fd,F⟩:=l.fn;⟨f,fd,F,mg_of X G a,F.binds b⟩
theorem MtA.df{K:Frag}{C:Addr}{m q:Str}{st:Stmt}{ps:List Str}(h:MtA K C m q st)(b:BdA m q st ps):∃f fd,iq K C m q st ps f fd:=
 let⟨f,a,i,l⟩:=h;let⟨fd,F⟩:=l.fn;⟨f,fd,F,⟨a,i,F.kp⟩,F.binds b⟩
theorem MtA.di{K:Frag}{C:Addr}{q:Str}{st:Stmt}{ps:List Str}(h:MtA K C "__init__" q st)(mk:makesIn K C=true)(kc:keepIn K (.ref C)=true)(b:BdA "__init__" q st ps):∃f fd,wa K C q st ps f fd:=
 let⟨f,a,i,l⟩:=h;let⟨fd,F⟩:=l.fn;⟨f,fd,F,⟨mk,a,i,kc⟩,F.binds b⟩
theorem DfA.law{K:Frag}{mg:Str->Option Value}{h:Heap}{x p:Str}{st:Stmt}{fa:Addr}(X:K.In h)(G:h.Ns Gn mg)(q:DfA K x st)(b:BdA x x st [p])(hf:mg x=some (.ref fa))
  (bb:∀(kV doc pm:Value)(an:Option Addr)(cdv ct:Value)(s:Shared)(v:Value),BindsTo s (fnOf x x (ij st) (dL st) (am st) .none kV doc pm an cdv ct) ⟨[v],[]⟩ [(p,v)]):∃fd,Def K mg x st [p] fa fd/\∀(s:Shared)(v:Value),BindsTo s fd ⟨[v],[]⟩ [(p,v)]:=by
 obtain⟨f,a,_,_,kV,doc,pm,an,cdv,ct,_,l,c,k⟩:=q;have e:=hf.symm.trans (mg_of X G a);cases e;have F:=Ac l c k;exact⟨_,⟨F,mg_of X G a,F.binds b⟩,bb kV doc pm an cdv ct⟩
end L2
end
namespace Kc_k65
open PySem L2 PyProof.Rows
local macro_rules | `(tactic| walk_at "v")=>`(tactic| exact ⟨rfl,by first | exact Mi rfl | exact K2 (Mi rfl) | exact K2 (K2 rfl),by decide,by decide⟩)
local macro_rules | `(tactic| walk_at "w")=>`(tactic| exact ⟨rfl,rfl,rfl,by decide +kernel,rfl,by decide +kernel,by decide +kernel⟩)
local macro_rules | `(tactic| walk_at "l")=>`(tactic| (intro _ _ _ _ h; first | (obtain ⟨_,e,_⟩:=h; subst e; rfl) | (obtain ⟨_,_,e,_⟩:=h; subst e; rfl) | (obtain ⟨_,_,_,e,_⟩:=h; subst e; rfl) | (obtain ⟨_,_,_,_,e,_⟩:=h; subst e; rfl) | (obtain ⟨_,_,_,_,_,e,_⟩:=h; subst e; rfl) | (obtain ⟨_,_,_,_,_,_,e,_⟩:=h; subst e; rfl) | (obtain ⟨_,_,_,_,_,_,_,e,_⟩:=h; subst e; rfl) | (obtain ⟨_,_,_,_,_,_,_,_,e,_⟩:=h; subst e; rfl) | (obtain ⟨_,_,_,_,_,_,_,_,_,e,_⟩:=h; subst e; rfl) | (obtain ⟨_,_,_,_,_,_,_,_,_,_,e,_⟩:=h; subst e; rfl) | (obtain ⟨_,_,_,_,_,_,_,_,_,_,_,e,_⟩:=h; subst e; rfl) | (obtain ⟨_,_,_,_,_,_,_,_,_,_,_,_,e,_⟩:=h; subst e; rfl) | (obtain ⟨_,_,_,_,_,_,_,_,_,_,_,_,_,e,_⟩:=h; subst e; rfl) | (obtain ⟨_,_,_,_,_,_,_,_,_,_,_,_,_,_,e,_⟩:=h; subst e; rfl) | (obtain ⟨_,_,_,_,_,_,_,_,_,_,_,_,_,_,_,e,_⟩:=h; subst e; rfl) | (obtain ⟨_,_,_,_,_,_,_,_,_,_,_,_,_,_,_,_,e,_⟩:=h; subst e; rfl)))
local macro_rules | `(tactic| walk_at "c")=>`(tactic| (refine ⟨rfl,?_,?_,?_,?_,rfl,?_⟩ <;> decide +kernel))
local macro_rules | `(tactic| walk_at "e")=>`(tactic| (refine ⟨rfl,?_,?_,?_,?_,rfl,?_⟩ <;> first | decide +kernel | exact A5 (by decide +kernel)))
theorem psS{X:Cx}(i:Nat){N ps:List Str}{sc:Scope}{x:Str}{e:Expr}{te:TE}{pos' pos:Pos}(S:ax N ps sc)(he:PE X e te)(hN:X.N=N:=by exact rfl)(hi:X.N[i]?=some x:=by exact rfl)(hx:Loc X.env.scope x:=by exact Mi rfl)(hs:LS e (some (.Name x pos')) pos.line X.env=pure false:=by rfl)(hf:X.fn x=true\/X.env.scope.names.lookup x=some .local:=by first|exact .inl rfl|exact .inr rfl|assumption):PS X (.Assign [.Name x pos'] e pos) (az te (ai i)):=pJ (by rw[hN];exact S.nd) hi hx he hs hf
theorem pgS{X:Cx}(i:Nat){N ps:List Str}{sc:Scope}{x:Str}{pos:Pos}(S:ax N ps sc)(hN:X.N=N:=by exact rfl)(hi:X.N[i]?=some x:=by exact rfl)(hx:Loc X.env.scope x:=by exact Mi rfl)(hf:X.fn x=true\/X.env.scope.names.lookup x=some .local:=by first|exact .inl rfl|exact .inr rfl|assumption):PG X (.Name x pos) (ai i):=xz (by rw[hN];exact S.nd) hi hx hf
theorem pgC{X:Cx}(i:Nat)(N:List Str){x:Str}{pos:Pos}(hN:X.N=N:=by exact rfl)(nd:N.Nodup:=by decide+kernel)(hi:X.N[i]?=some x:=by exact rfl)(hx:Loc X.env.scope x:=by exact Mi rfl)(hf:X.fn x=true\/X.env.scope.names.lookup x=some .local:=by first|exact .inl rfl|exact .inr rfl|assumption):PG X (.Name x pos) (ai i):=xz (by rw[hN];exact nd) hi hx hf
theorem rmD{n k:Nat}{A:Around}(h:bK k A)(e:n<=k:=by decide):bK n A:=h.mono e
noncomputable abbrev wF:List Str:=["_law_script","_law_at","_law_cards","_law_hands","_law_most"]
noncomputable abbrev wG:List Str:=["_law_table","_law_beside","_law_places_here","_law_hands"]
noncomputable abbrev fe:List Str:=["cards","sizes"]
noncomputable abbrev pz:List Str:=["_law_told","_law_others","_law_places_here"]
noncomputable abbrev kH:List Str:=["cards","hands","thing"]
noncomputable abbrev wH:List Str:=["_law_script","_law_at","_law_cards","_law_hands"]
noncomputable abbrev gW:List Str:=["ones","others"]
noncomputable abbrev ng:List Str:=["_law_saying_here","_law_turn"]
noncomputable abbrev pB:List Str:=["_law_number","_law_hands"]
noncomputable abbrev su:List Str:=["cards","hands","place","part"]
noncomputable abbrev qM:List Str:=["_law_script","_law_k"]
noncomputable abbrev qN:List Str:=["_law_script","_law_at","_law_most"]
noncomputable abbrev qO:List Str:=["_law_script","_law_at","_law_many"]
noncomputable abbrev nY:List Str:=["thing","least","most"]
noncomputable abbrev iW:List Str:=["self","cards","sizes"]
noncomputable abbrev qP:List Str:=["deals","views","S","word","inner","some"]
noncomputable abbrev qQ:List Str:=["table","sayings","turns"]
noncomputable abbrev nZ:List Str:=["self","hands","S"]
noncomputable abbrev qR:List Str:=["_law_cards","_law_sizes"]
noncomputable abbrev qS:List Str:=["_law_deals","_law_turn"]
noncomputable abbrev qT:List Str:=["self","hands","values"]
noncomputable abbrev qU:List Str:=["points","one","other"]
noncomputable abbrev n9:List Str:=["thing","bound"]
noncomputable abbrev qV:List Str:=["view","truths"]
noncomputable abbrev og:List Str:=["deals","views","S"]
noncomputable abbrev lX:List Str:=["deals","hand"]
noncomputable abbrev lY:List Str:=["piles","view"]
noncomputable abbrev oh:List Str:=["fit","reason"]
noncomputable abbrev qW:List Str:=["points","thing"]
noncomputable abbrev lZ:List Str:=["deal","who"]
noncomputable abbrev qX:List Str:=["thing","hands"]
noncomputable abbrev oj:List Str:=["view","values"]
noncomputable abbrev ol:List Str:=["_law_saying_here"]
noncomputable abbrev qY:List Str:=["views","truths"]
noncomputable abbrev om:List Str:=["self","hand"]
noncomputable abbrev qZ:List Str:=["many","taken"]
noncomputable abbrev rc:List Str:=["begun","room"]
noncomputable abbrev re:List Str:=["many","views"]
noncomputable abbrev on:List Str:=["self","S"]
noncomputable abbrev CN:List Str:=["many","views","points","view","thing","least"]
noncomputable abbrev yY:List Str:=["place","part","cards","hands"]
noncomputable abbrev oo:List Str:=["one","other"]
noncomputable abbrev rf:List Str:=["_law_many"]
noncomputable abbrev CO:List Str:=["cards","hands","thing","words","level"]
noncomputable abbrev oq:List Str:=["_law_script"]
noncomputable abbrev CP:List Str:=["view","truths","sure","least","truth"]
noncomputable abbrev ou:List Str:=["thing"]
noncomputable abbrev yZ:List Str:=["pile","least","piles"]
noncomputable abbrev rg:List Str:=["sayings"]
noncomputable abbrev y6:List Str:=["card","holder","who"]
noncomputable abbrev rh:List Str:=["saying"]
section
variable(P:Program)(w:World)(K:Fg)(mg:Str->Option Value)(base:Heap)
noncomputable abbrev y7(k:Nat):Prop:=FnB P w K mg base k "is_whole" ou (fM K)
noncomputable abbrev wI(k:Nat):Prop:=FnB P w K mg base k "is_within" nY (cZ K)
noncomputable abbrev y8(k:Nat):Prop:=FnB P w K mg base k "is_below" n9 (eB K)
noncomputable abbrev y9(k:Nat):Prop:=FnB P w K mg base k "are_hands" qX (gK K)
noncomputable abbrev Cl(k:Nat):Prop:=FnB P w K mg base k "is_pack" fe (lI K)
noncomputable abbrev Cm(k:Nat):Prop:=FnB P w K mg base k "choices" qZ (lJ K)
noncomputable abbrev Cn(k:Nat):Prop:=FnB P w K mg base k "how_many" fe (kB K)
noncomputable abbrev Co(k:Nat):Prop:=FnB P w K mg base k "with_one_more" rc (gn K)
noncomputable abbrev za(k:Nat):Prop:=FnB P w K mg base k "deals_of" fe (iM K)
noncomputable abbrev zb(k:Nat):Prop:=FnB P w K mg base k "cards_of" lZ (iN K)
noncomputable abbrev zc(k:Nat):Prop:=FnB P w K mg base k "is_word" kH (lQ K)
noncomputable abbrev zd(k:Nat):Prop:=FnB P w K mg base k "parts_of_all" rg (gM K)
noncomputable abbrev ze(k:Nat):Prop:=FnB P w K mg base k "is_saying" kH (jV K)
noncomputable abbrev zf(k:Nat):Prop:=FnB P w K mg base k "fits" su (rX K)
noncomputable abbrev zg(k:Nat):Prop:=FnB P w K mg base k "parts_of" rh (kE K)
noncomputable abbrev uQ(k:Nat):Prop:=FnB P w K mg base k "least_with_same" ["marks"] (dq K)
noncomputable abbrev zh(k:Nat):Prop:=FnB P w K mg base k "first_view" lX (jo K)
noncomputable abbrev zi(k:Nat):Prop:=FnB P w K mg base k "split" oj (oZ K)
noncomputable abbrev uR(k:Nat):Prop:=FnB P w K mg base k "end_of" qW (jc K)
noncomputable abbrev zj(k:Nat):Prop:=FnB P w K mg base k "link" qU (rT K)
noncomputable abbrev zk(k:Nat):Prop:=FnB P w K mg base k "joined" re (mS K)
noncomputable abbrev uS(k:Nat):Prop:=FnB P w K mg base k "both" gW (nP K)
noncomputable abbrev zl(k:Nat):Prop:=FnB P w K mg base k "either" gW (mU K)
noncomputable abbrev rj(k:Nat):Prop:=FnB P w K mg base k "known" qV (im K)
noncomputable abbrev zm(k:Nat):Prop:=FnB P w K mg base k "known_to_all" qY (gI K)
noncomputable abbrev zn(k:Nat):Prop:=FnB P w K mg base k "seen" lY (rV K)
noncomputable abbrev uT(k:Nat):Prop:=FnB P w K mg base k "refuse_unless" oh (d8 K)
noncomputable abbrev zo(G:GF)(k:Nat):Prop:=FnB P w K mg base k "play" qQ (nW K G)
noncomputable abbrev l9(k:Nat):Prop:=FnB P w K mg base k "_law_cell" qM (bq K)
noncomputable abbrev zp(k:Nat):Prop:=FnB P w K mg base k "_law_product" rf (eM K)
noncomputable abbrev zq(k:Nat):Prop:=FnB P w K mg base k "_law_count" qR (fT K)
noncomputable abbrev zr(k:Nat):Prop:=FnB P w K mg base k "_law_pack" qN (jU K)
noncomputable abbrev uU(k:Nat):Prop:=FnB P w K mg base k "_law_group" pB (dk K)
noncomputable abbrev zt(k:Nat):Prop:=FnB P w K mg base k "_law_pool" wH (jW K)
noncomputable abbrev CQ(k:Nat):Prop:=FnB P w K mg base k "_law_words" ol (dm K 70)
noncomputable abbrev zu(k:Nat):Prop:=FnB P w K mg base k "_law_saying" wF (fC K)
noncomputable abbrev zv(k:Nat):Prop:=FnB P w K mg base k "_law_order" qO (jr K)
noncomputable abbrev zw(k:Nat):Prop:=FnB P w K mg base k "_law_places" qS (iB K)
noncomputable abbrev zx(k:Nat):Prop:=FnB P w K mg base k "_law_same" pz (fc K)
noncomputable abbrev zy(G:GF)(k:Nat):Prop:=FnB P w K mg base k "_law_viewed" wG (iC K G)
noncomputable abbrev CS(k:Nat):Prop:=FnB P w K mg base k "_law_bent" ng (bO K 35)
noncomputable abbrev CT(k:Nat):Prop:=FnB P w K mg base k "truths_of" og (bN K 35)
noncomputable abbrev Cp(G:GF)(k:Nat):Prop:=FnM P w K mg base k G.Table "again" ["self"] (iw K G)
noncomputable abbrev zz(G:GF)(k:Nat):Prop:=FnM P w K mg base k G.Table "word" nZ (d9 K G)
noncomputable abbrev Cq(G:GF)(k:Nat):Prop:=FnM P w K mg base k G.Table "view" om (fV K G)
noncomputable abbrev zA(G:GF)(k:Nat):Prop:=FnM P w K mg base k G.Table "truths" on (dt K G)
noncomputable abbrev Cr(G:GF)(k:Nat):Prop:=FnM P w K mg base k G.Table "learn" qT (ir K G)
end
seal L2.PE L2.PA L2.PS L2.PSs L2.PT L2.PW L2.PI L2.PG L2.PGs L2.PO L2.PTL L2.OpR L2.UnR L2.bP L2.SlR L2.IxR L2.ye
noncomputable def top(i:Nat):Stmt:=PySem.Challenge.pw_knowcards_k65_whole_cards_exchanged.main.body.getD i (.Pass ⟨0,0,0,0⟩)
noncomputable abbrev jD:Stmt:=top 8
theorem xo:ax ou ou (am jD):=by walk_at "w"
noncomputable abbrev iX:Stmt:=top 9
theorem wJ:ax nY nY (am iX):=by walk_at "w"
noncomputable abbrev jE:Stmt:=top 10
theorem xp:ax n9 n9 (am jE):=by walk_at "w"
noncomputable abbrev iY:Stmt:=top 11
theorem gX:ax ["thing","hands","least","hand"] qX (am iY):=by walk_at "w"
noncomputable abbrev ji:Stmt:=top 16
theorem zB:ax fe fe (am ji):=by walk_at "w"
noncomputable abbrev jF:Stmt:=top 17
theorem eD:ax ["cards","sizes","many","left","size"] fe (am jF):=by walk_at "w"
noncomputable abbrev kl:Stmt:=top 18
theorem jG:ax ["many","taken","ways","step"] qZ (am kl):=by walk_at "w"
noncomputable abbrev jH:Stmt:=top 19
theorem fP:ax ["cards","sizes","room","begun","card"] fe (am jH):=by walk_at "w"
noncomputable abbrev eP:Stmt:=top 20
theorem db:ax ["begun","room","longer","deal","who","most"] rc (am eP):=by walk_at "w"
noncomputable abbrev gY:Stmt:=top 21
theorem xq:ax lZ lZ (am gY):=by walk_at "w"
noncomputable abbrev fQ:Stmt:=top 25
theorem ff:ax CO kH (am fQ):=by walk_at "w"
noncomputable abbrev jj:Stmt:=top 26
theorem rk:ax ["cards","hands","thing","form"] kH (am jj):=by walk_at "w"
noncomputable abbrev rl:Stmt:=top 27
theorem DJ:ax su su (am rl):=by walk_at "w"
noncomputable abbrev gZ:Stmt:=top 28
theorem oP:ax ["saying","form"] rh (am gZ):=by walk_at "w"
noncomputable abbrev fE:Stmt:=top 29
theorem g9:ax ["sayings","parts","saying"] rg (am fE):=by walk_at "w"
noncomputable abbrev fg:Stmt:=top 31
theorem ul:ax lX lX (am fg):=by walk_at "w"
noncomputable abbrev ow:Stmt:=top 32
theorem Cs:ax oj oj (am ow):=by walk_at "w"
noncomputable abbrev cL:Stmt:=top 33
theorem du:ax ["marks","firsts","thing","mark"] ["marks"] (am cL):=by walk_at "w"
noncomputable abbrev j0:Stmt:=top 34
theorem jk:ax CN re (am j0):=by walk_at "w"
noncomputable abbrev rn:Stmt:=top 35
theorem sv:ax ["points","one","other","first","second"] qU (am rn):=by walk_at "w"
noncomputable abbrev ma:Stmt:=top 36
theorem nh:ax ["points","thing","end"] qW (am ma):=by walk_at "w"
noncomputable abbrev cQ:Stmt:=top 38
theorem fh:ax qP og (am cQ):=by walk_at "w"
noncomputable abbrev ni:Stmt:=top 39
theorem DK:ax gW gW (am ni):=by walk_at "w"
noncomputable abbrev j3:Stmt:=top 40
theorem Bb:ax gW gW (am j3):=by walk_at "w"
noncomputable abbrev kX:Stmt:=top 41
theorem md:ax CP qV (am kX):=by walk_at "w"
noncomputable abbrev fF:Stmt:=top 42
theorem eQ:ax ["views","truths","answers","view"] qY (am fF):=by walk_at "w"
noncomputable abbrev nj:Stmt:=top 43
theorem DL:ax lY lY (am nj):=by walk_at "w"
noncomputable abbrev eR:Stmt:=top 46
theorem pD:ax oh oh (am eR):=by walk_at "w"
noncomputable abbrev rp:Stmt:=top 48
theorem iD:ax ["table","sayings","turns","own","everyone","told","still","before"] qQ (am rp):=by walk_at "w"
noncomputable abbrev iZ:Stmt:=top 50
theorem hJ:ax ["_law_script","_law_k","_law_number"] qM (am iZ):=by walk_at "w"
noncomputable abbrev fG:Stmt:=top 51
theorem eS:ax ["_law_many","_law_found","_law_k"] rf (am fG):=by walk_at "w"
noncomputable abbrev hU:Stmt:=top 52
theorem ga:ax ["_law_cards","_law_sizes","_law_found","_law_many"] qR (am hU):=by walk_at "w"
noncomputable abbrev i3:Stmt:=top 53
theorem dR:ax ["_law_script","_law_at","_law_most","_law_cards","_law_sizes","_law_k"] qN (am i3):=by walk_at "w"
noncomputable abbrev hZ:Stmt:=top 54
theorem ee:ax ["_law_saying_here","_law_found","_law_part"] ol (am hZ):=by walk_at "w"
noncomputable abbrev fk:Stmt:=top 55
theorem um:ax pB pB (am fk):=by walk_at "w"
noncomputable abbrev i4:Stmt:=top 56
theorem h7:ax ["_law_script","_law_at","_law_cards","_law_hands","_law_pool_here","_law_k","_law_cell_here"] wH (am i4):=by walk_at "w"
noncomputable abbrev gb:Stmt:=top 57
theorem bA:ax ["_law_script","_law_at","_law_cards","_law_hands","_law_most","_law_pool_here","_law_k","_law_cell_here","_law_one","_law_other","_law_some"] wF (am gb):=by walk_at "w"
noncomputable abbrev h8:Stmt:=top 58
theorem ju:ax ["_law_script","_law_at","_law_many","_law_found","_law_k"] qO (am h8):=by walk_at "w"
noncomputable abbrev fR:Stmt:=top 59
theorem nn:ax ng ng (am fR):=by walk_at "w"
noncomputable abbrev gc:Stmt:=top 60
theorem b7:ax ["_law_deals","_law_turn","_law_where","_law_place","_law_deal","_law_found","_law_other","_law_card"] qS (am gc):=by walk_at "w"
noncomputable abbrev fS:Stmt:=top 61
theorem wK:ax pz pz (am fS):=by walk_at "w"
noncomputable abbrev gd:Stmt:=top 62
theorem dS:ax ["_law_table","_law_beside","_law_places_here","_law_hands","_law_hand","_law_view","_law_other","_law_place"] wG (am gd):=by walk_at "w"
noncomputable abbrev uV:Stmt:=top 63
theorem cA:ax ["_law_script","_law_cards","_law_sizes","_law_hands","_law_turn","_law_places_here","_law_table","_law_beside","_law_k","_law_saying_here","_law_group_here","_law_told","_law_ones","_law_others","_law_other"] oq (am uV):=by walk_at "w"
noncomputable abbrev fm:Stmt:=jI (top 45) 0
theorem uo:ax iW iW (am fm):=by walk_at "w"
noncomputable abbrev h9:Stmt:=jI (top 45) 2
theorem uq:ax om om (am h9):=by walk_at "w"
noncomputable abbrev ib:Stmt:=jI (top 45) 3
theorem ur:ax nZ nZ (am ib):=by walk_at "w"
noncomputable abbrev fH:Stmt:=jI (top 45) 5
theorem rq:ax on on (am fH):=by walk_at "w"
noncomputable abbrev gf:Stmt:=jI (top 45) 7
theorem kY:ax ["self","other"] ["self"] (am gf):=by walk_at "w"
noncomputable abbrev gh:Stmt:=jI (top 45) 8
theorem kZ:ax ["self","hands","values","hand"] qT (am gh):=by walk_at "w"
section
variable{P:Program}{w:World}{K:Fg}{mg:Str->Option Value}{base:Heap}{f:Addr}{fd:Gc}
theorem xr(D:Def K mg "is_whole" jD ou f fd)(B:Blt mg):y7 P w K mg base 1:=by
 refine D.ok xo (by walk_at "l") fun _ _ _ _ _ _ _ _ hr h=>?_;exact⟨p8 K,(ag (aw (pI (ay eV rfl B.isinstance Iz (ac (pv 0) (ac (gu (v:=.ty "int") rfl B.int boot_int rfl) ad))) (mr (zI (ay eV rfl B.isinstance Iz (ac (pv 0) (ac (gu (v:=.ty "bool") rfl B.bool boot_bool rfl) ad)))))))),w9 h⟩
theorem wL(D:Def K mg "is_within" iX nY f fd)(B:Blt mg)(U29:y7 P w K mg base 1):wI P w K mg base 2:=by
 refine D.ok wJ (by walk_at "l") fun _ _ _ _ _ _ _ _ hr h=>?_;exact⟨oI K,(ag (aw (pI (ak U29 (rmD hr) (ac (pv 0) ad)) (mr (Bl uC uC (pv 1) (pv 0) (pv 2)))))),vN h⟩
theorem xt(D:Def K mg "is_below" jE n9 f fd)(B:Blt mg)(U26:wI P w K mg base 2):y8 P w K mg base 3:=by
 refine D.ok xp (by walk_at "l") fun _ _ _ _ _ _ _ _ hr h=>?_;exact⟨jz K,(ag (aw (ak U26 (rmD hr) (ac (pv 0) (ao aj (aJ (ar fK (pv 1) aj) ad)))))),xj h⟩
theorem wM(D:Def K mg "are_hands" iY qX f fd)(B:Blt mg)(U26:wI P w K mg base 2):y9 P w K mg base 3:=by
 refine D.ok gX (by walk_at "l") fun _ _ _ _ _ _ _ _ hr h=>?_;exact⟨iQ K,(ae (bd (cG (cb (ay eV rfl B.isinstance Iz (ac (pv 0) (ac (gu (v:=.ty "tuple") rfl B.tuple Jy rfl) ad))))) (ag (aw cr)) aK)
  (ae (psS 2 gX aj)
  (ae (bz Ge rfl (mB (pv 0)) (pgS 3 gX) (ae (bd (cG (cb (ak U26 (rmD hr) (ac (pv 3) (ac (pv 2) (aJ (ar fK (pv 1) aj) ad)))))) (ag (aw cr)) aK)
  (ag (psS 2 gX (ar bu (pv 3) aj)))))
  (ag (aw cr))))),vW h⟩
theorem zC(D:Def K mg "is_pack" ji fe f fd)(B:Blt mg){t_MOST_CARDS:Tok}(m_MOST_CARDS:mg "MOST_CARDS"=some (.int 12 t_MOST_CARDS)){t_MOST_HANDS:Tok}(m_MOST_HANDS:mg "MOST_HANDS"=some (.int 5 t_MOST_HANDS))(U26:wI P w K mg base 2):Cl P w K mg base 3:=by
 refine D.ok zB (by walk_at "l") fun _ _ _ _ _ _ _ _ hr h=>?_;exact⟨tF K,(ae (bd (cG (cb (ak U26 (rmD hr) (ac (pv 0) (ao aj (ac (ie (v:=(.int 12)) rfl m_MOST_CARDS ⟨_,rfl⟩) ad)))))) (ag (aw cr)) aK)
  (ae (bd (PW.pt (pH (cG (cb (ay eV rfl B.isinstance Iz (ac (pv 1) (ac (gu (v:=.ty "list") rfl B.list Jj rfl) ad))))) (mq (cG (cb (ak U26 (rmD hr) (aU (ay aL rfl B.len GV (ac (pv 1) ad)) (ao aj (ac (ie (v:=(.int 5)) rfl m_MOST_HANDS ⟨_,rfl⟩) ad))))))))) (ag (aw cr)) aK)
  (ag (aw (pI (ay (mI rfl) rfl B.all boot_all (cI (bQ (sc:=(am ji)) (NX:=fe) (N:=["size","cards"]) (ix:=[none,some 0]) rfl (by walk_at "c") (ci (pv 1)) (by intros;exact(pgC 0 ["size","cards"])) (by intros;exact bX) (by intros;exact(ak U26 (rmD hr) (ac (pv 0) (ao aj (ac (pv 1) ad)))))) ad)) (mr (kI uC (ay (i8 rfl) rfl B.sum MM (ac (pv 1) ad)) (pv 0) (aV _)))))))),yD h⟩
theorem xu(D:Def K mg "how_many" jF fe f fd)(B:Blt mg)(U37:Cm P w K mg base 1)(U35:Cl P w K mg base 3):Cn P w K mg base 4:=by
 refine D.ok eD (by walk_at "l") fun _ _ _ _ _ _ _ _ hr h=>?_;exact⟨qa K,(ae (bd (cG (cb (ak U35 (rmD hr) (ac (pv 0) (ac (pv 1) ad))))) (ag lc) aK)
  (ae (psS 2 eD aj)
  (ae (psS 3 eD (pv 0))
  (ae (bz Ge rfl (ci (pv 1)) (pgS 4 eD) (ae (psS 2 eD (ar dj (pv 2) (ak U37 (rmD hr) (ac (pv 3) (ac (pv 4) ad)))))
  (ag (psS 3 eD (ar fK (pv 3) (pv 4))))))
  (ag (aw (pv 2))))))),xa h⟩
theorem zD(D:Def K mg "choices" kl qZ f fd)(B:Blt mg):Cm P w K mg base 1:=by
 refine D.ok jG (by walk_at "l") fun _ _ _ _ _ _ _ _ hr h=>?_;exact⟨tG K,(ae (psS 2 jG aj)
  (ae (bz Ge rfl (bS rfl B.range (ac (pv 1) ad)) (pgS 3 jG) (ag (psS 2 jG (ar cC (ar dj (pv 2) (ar fK (pv 0) (pv 3))) (ar bu (pv 3) aj)))))
  (ag (aw (pv 2))))),yE h⟩
theorem xv(D:Def K mg "deals_of" jH fe f fd)(B:Blt mg){t_MOST_DEALS:Tok}(m_MOST_DEALS:mg "MOST_DEALS"=some (.int 2000 t_MOST_DEALS))(U30:Cn P w K mg base 4)(U2:Co P w K mg base 1):za P w K mg base 5:=by
 refine D.ok fP (by walk_at "l") fun _ _ _ _ _ _ _ _ hr h=>?_;exact⟨qb K,(ae (bd (aQ lg (ak U30 (rmD hr) (ac (pv 0) (ac (pv 1) ad))) (ie (v:=(.int 2000)) rfl m_MOST_DEALS ⟨_,rfl⟩) (aV _)) (ag lc) aK)
  (ae (psS 2 fP (ar zZ (pv 1) (vd (aJ (ar fK (pv 0) (ay (i8 rfl) rfl B.sum MM (ac (pv 1) ad))) ad))))
  (ae (psS 3 fP (vd (bg (zU ad) ad)))
  (ae (bz Ge rfl (bS rfl B.range (ac (pv 0) ad)) (pgS 4 fP) (ag (psS 3 fP (ak U2 (rmD hr) (ac (pv 3) (ac (pv 2) ad))))))
  (ag (aw (pv 3))))))),xb h⟩
theorem pE(D:Def K mg "with_one_more" eP rc f fd)(B:Blt mg):Co P w K mg base 1:=by
 refine D.ok db (by walk_at "l") fun _ _ _ _ _ _ _ _ hr h=>?_;exact⟨kd K,(ae (psS 2 db (vd ad))
  (ae (bz Ge rfl (ci (pv 0)) (pgS 3 db) (ag (bz Ge rfl (kK bj rfl B.enumerate (by decide) (ac (pv 1) ad)) (dI rfl (bc (pgS 4 db) (bc (pgS 5 db) cS))) (ag (bd (aQ uB (E7 PySem.F.plainAttrs_tuple LC PySem.F.type_tuple_count Al (pv 3) (ac (pv 4) ad)) (pv 5) (aV _)) (ag (cR (iE GN Hf Hg dU (pv 2) (aJ (ar Da (pv 3) (zU (ac (pv 4) ad))) ad)))) aK)))))
  (ag (aw (pv 2))))),oY h⟩
theorem xw(D:Def K mg "cards_of" gY lZ f fd)(B:Blt mg):zb P w K mg base 1:=by
 refine D.ok xq (by walk_at "l") fun _ _ _ _ _ _ _ _ hr h=>?_;exact⟨qc K,(ag (aw (bw mh rfl B.tuple Jy (cI (bQ (sc:=(am gY)) (NX:=lZ) (N:=y6) (ix:=[none,none,some 1]) rfl (by walk_at "c") (kK gk rfl B.enumerate (by decide) (ac (pv 0) ad)) (by intros;exact(dI rfl (bc (pgC 0 y6) (bc (pgC 1 y6) cS)))) (by intros;exact(rG (aQ cJ (pv 1) (pv 2) (aV _)))) (by intros;exact(pv 0))) ad)))),xc h⟩
theorem wN(D:Def K mg "is_saying" fQ kH f fd)(B:Blt mg){t_MOST_WORDS:Tok}(m_MOST_WORDS:mg "MOST_WORDS"=some (.int 30 t_MOST_WORDS))(U29:y7 P w K mg base 1)(U36:zc P w K mg base 5)(U3:zd P w K mg base 2):ze P w K mg base 6:=by
 refine D.ok ff (by walk_at "l") fun _ _ _ _ _ _ _ _ hr h=>?_;exact⟨iR K,(ae (bd (PW.pt (pH (cG (cb (ak U29 (rmD hr) (ac (pv 0) ad)))) (mq (cG (cb (ak U29 (rmD hr) (ac (pv 1) ad))))))) (ag (aw cr)) aK)
  (ae (psS 3 ff aj)
  (ae (psS 4 ff (bZ (ac (pv 2) ad)))
  (ae (lf Ge (aQ lg (ay aL rfl B.len GV (ac (pv 4) ad)) aj (aV _)) (ae (psS 3 ff (ar bu (pv 3) (ay aL rfl B.len GV (ac (pv 4) ad))))
  (ae (bd (PW.pt (pH (aQ lg (pv 3) (ie (v:=(.int 30)) rfl m_MOST_WORDS ⟨_,rfl⟩) (aV _)) (mq (cG (cb (ay (mI rfl) rfl B.all boot_all (cI (bQ (sc:=(am fQ)) (NX:=CO) (N:=["one","cards","hands"]) (ix:=[none,some 0,some 1]) rfl (by walk_at "c") (ci (pv 4)) (by intros;exact(pgC 0 ["one","cards","hands"])) (by intros;exact bX) (by intros;exact(ak U36 (rmD hr) (ac (pv 1) (ac (pv 2) (ac (pv 0) ad)))))) ad))))))) (ag (aw cr)) aK)
  (ag (psS 4 ff (ak U3 (rmD hr) (ac (pv 4) ad)))))))
  (ag (aw cr)))))),vY h⟩
theorem zE(D:Def K mg "is_word" jj kH f fd)(B:Blt mg){G:GF}(T:dG P w K mg G)(U47:zf P w K mg base 4):zc P w K mg base 5:=by
 refine D.ok rk (by walk_at "l") fun _ _ _ _ _ _ _ _ hr h=>?_;have m_FORMS:=T.tb.mf;have d_FORMS:=T.tb.df;exact⟨kg K G.toGlo,(ae (bd (PW.pt (pH (cG (cb (ay eV rfl B.isinstance Iz (ac (pv 2) (ac (gu (v:=.ty "tuple") rfl B.tuple Jy rfl) ad))))) (mq (aQ cJ (ay aL rfl B.len GV (ac (pv 2) ad)) aj (aV _))))) (ag (aw cr)) aK)
  (ae (bd (PW.pt (pH (cG (cb (ay eV rfl B.isinstance Iz (aE (aN bv (pv 2) aj (fun _ _=>rfl)) (ac (gu (v:=.ty "str") rfl B.str boot_str rfl) ad))))) (mq (aQ (v4 d_FORMS) (aN bv (pv 2) aj (fun _ _=>rfl)) (ie (v:=(.ref G.forms)) rfl m_FORMS rfl) rfl)))) (ag (aw cr)) aK)
  (ae (psS 3 rk (AU d_FORMS (ie (v:=(.ref G.forms)) rfl m_FORMS rfl) (aN bv (pv 2) aj (fun _ _=>rfl)) (fun _ _=>rfl)))
  (ae (bd (aQ pK (ay aL rfl B.len GV (ac (pv 2) ad)) (ar bu aj (ay aL rfl B.len GV (ac (pv 3) ad))) (aV _)) (ag (aw cr)) aK)
  (ag (aw (ay (mI rfl) rfl B.all boot_all (cI (bQ (sc:=(am jj)) (NX:=["cards","hands","thing","form"]) (N:=yY) (ix:=[none,none,some 0,some 1]) rfl (by walk_at "c") (jR gk gk rfl B.zip (ac (pv 3) (aE (ll qu (pv 2) (nG aj) nE) ad))) (by intros;exact(dI rfl (bc (pgC 0 yY) (bc (pgC 1 yY) cS)))) (by intros;exact bX) (by intros;exact(ak U47 (rmD hr) (ac (pv 2) (ac (pv 3) (ac (pv 0) (ac (pv 1) ad))))))) ad)))))))),yO T.tb.ok h⟩
theorem DM(D:Def K mg "fits" rl su f fd)(B:Blt mg)(U27:y9 P w K mg base 3)(U33:y8 P w K mg base 3):zf P w K mg base 4:=by
 refine D.ok DJ (by walk_at "l") fun _ _ _ _ _ _ _ _ hr h=>?_;exact⟨qr K,(ae (bd (aQ cJ (pv 2) aY (aV _)) (ag (aw (ak U33 (rmD hr) (ac (pv 3) (aJ (ar bu (pv 1) aj) ad))))) aK)
  (ae (bd (aQ cJ (pv 2) aY (aV _)) (ag (aw (ak U33 (rmD hr) (ac (pv 3) (ac (pv 0) ad))))) aK)
  (ae (bd (aQ cJ (pv 2) aY (aV _)) (ag (aw (ak U33 (rmD hr) (ac (pv 3) (ac (pv 1) ad))))) aK)
  (ae (bd (aQ cJ (pv 2) aY (aV _)) (ag (aw (ak U27 (rmD hr) (ac (pv 3) (ac (pv 1) ad))))) aK)
  (ag (aw cr)))))),Dt h⟩
theorem xx(D:Def K mg "parts_of" gZ rh f fd)(B:Blt mg){G:GF}(T:dG P w K mg G):zg P w K mg base 1:=by
 refine D.ok oP (by walk_at "l") fun _ _ _ _ _ _ _ _ hr h=>?_;have m_FORMS:=T.tb.mf;have d_FORMS:=T.tb.df;exact⟨jA K G.toGlo,(ae (psS 1 oP (AU d_FORMS (ie (v:=(.ref G.forms)) rfl m_FORMS rfl) (aN bv (pv 0) aj (fun _ _=>rfl)) (fun _ _=>rfl)))
  (ag (aw (bQ (sc:=(am gZ)) (NX:=["saying","form"]) (N:=["place","part"]) (ix:=[none,none]) rfl (by walk_at "c") (jR gk gk rfl B.zip (ac (pv 1) (aE (ll qu (pv 0) (nG aj) nE) ad))) (by intros;exact(dI rfl (bc (pgC 0 ["place","part"]) (bc (pgC 1 ["place","part"]) cS)))) (by intros;exact(rG (aQ cJ (pv 0) aY (aV _)))) (by intros;exact(pv 1)))))),xk T.tb.ok h⟩
theorem rz(D:Def K mg "parts_of_all" fE rg f fd)(B:Blt mg)(U34:zg P w K mg base 1):zd P w K mg base 2:=by
 refine D.ok g9 (by walk_at "l") fun _ _ _ _ _ _ _ _ hr h=>?_;exact⟨fA K,(ae (psS 1 g9 (bZ ad))
  (ae (bz Ge rfl (ci (pv 0)) (pgS 2 g9) (ag (cR (iE GN PySem.F.slot_list_extend PySem.F.type_list_extend zY (pv 1) (aU (ak U34 (rmD hr) (ac (pv 2) ad)) ad)))))
  (ag (aw (pv 1))))),qt h⟩
theorem ut(D:Def K mg "first_view" fg lX f fd)(B:Blt mg)(U31:zb P w K mg base 1)(U0:uQ P w K mg base 1):zh P w K mg base 2:=by
 refine D.ok ul (by walk_at "l") fun _ _ _ _ _ _ _ _ hr h=>?_;exact⟨gH K,(ag (aw (ak U0 (rmD hr) (cI (bQ (sc:=(am fg)) (NX:=lX) (N:=["deal","hand"]) (ix:=[none,some 1]) rfl (by walk_at "c") (ci (pv 0)) (by intros;exact(pgC 0 ["deal","hand"])) (by intros;exact bX) (by intros;exact(ak U31 (rmD hr) (ac (pv 0) (ac (pv 1) ad))))) ad)))),tX h⟩
theorem Ct(D:Def K mg "split" ow oj f fd)(B:Blt mg)(U0:uQ P w K mg base 1):zi P w K mg base 2:=by
 refine D.ok Cs (by walk_at "l") fun _ _ _ _ _ _ _ _ hr h=>?_;exact⟨nS K,(ag (aw (ak U0 (rmD hr) (aU (DI bj bj rfl rfl B.list rfl B.zip (ac (pv 0) (ac (pv 1) ad))) ad)))),BX h⟩
theorem nr(D:Def K mg "least_with_same" cL ["marks"] f fd)(B:Blt mg):uQ P w K mg base 1:=by
 refine D.ok du (by walk_at "l") fun _ _ _ _ _ _ _ _ hr h=>?_;have hux:=hr.units64;exact⟨dF K,(ae (pJ (i:=1) du.nd rfl (K2 rfl) wC)
  (ae (bz Ge rfl (kK bj rfl B.enumerate (by decide) (ac (pv 0) ad)) (dI rfl (bc (pgS 2 du) (bc (pgS 3 du) cS))) (ag (cR (Ft KS PySem.F.type_dict_setdefault (so hux) (pv 1) (ac (pv 3) (ac (pv 2) ad))))))
  (ag (aw (bQ (sc:=(am cL)) (NX:=["marks","firsts","thing","mark"]) (N:=["mark","firsts"]) (ix:=[none,some 1]) rfl (by walk_at "c") (ci (pv 0)) (by intros;exact(pgC 0 ["mark","firsts"])) (by intros;exact bX) (by intros;exact(yc hux (pv 1) (pv 0) (fun _ _=>rfl)))))))),mQ h⟩
theorem Bc(D:Def K mg "joined" j0 re f fd)(B:Blt mg)(U38:uR P w K mg base 1)(U44:zj P w K mg base 2):zk P w K mg base 3:=by
 refine D.ok jk (by walk_at "l") fun _ _ _ _ _ _ _ _ hr h=>?_;exact⟨lN K,(ae (pJ (i:=2) jk.nd rfl (K2 rfl) (bw (A8 rfl) rfl B.list Jj (aU (bw tR rfl B.range N6 (ac (pv 0) ad)) ad)))
  (ae (bz Ge rfl (ci (pv 1)) (pgS 3 jk) (ag (bz Ge rfl (kK bj rfl B.enumerate (by decide) (ac (pv 3) ad)) (dI rfl (bc (pgS 4 jk) (bc (pgS 5 jk) cS))) (ag (cR (ak U44 (rmD hr) (ac (pv 2) (ac (pv 4) (ac (pv 5) ad)))))))))
  (ag (aw (bQ (sc:=(am j0)) (NX:=CN) (N:=["thing","points"]) (ix:=[none,some 2]) rfl (by walk_at "c") (bS rfl B.range (ac (pv 0) ad)) (by intros;exact(pgC 0 ["thing","points"])) (by intros;exact bX) (by intros;exact(ak U38 (rmD hr) (ac (pv 1) (ac (pv 0) ad))))))))),AI h⟩
theorem DN(D:Def K mg "link" rn qU f fd)(B:Blt mg)(U38:uR P w K mg base 1):zj P w K mg base 2:=by
 refine D.ok sv (by walk_at "l") fun _ _ _ _ _ _ _ _ hr h=>?_;exact⟨qh K,(ae (psS 3 sv (ak U38 (rmD hr) (ac (pv 0) (ac (pv 1) ad))))
  (ae (psS 4 sv (ak U38 (rmD hr) (ac (pv 0) (ac (pv 2) ad))))
  (ag (i6 (ay (sR rfl) rfl B.min boot_min (ac (pv 3) (ac (pv 4) ad))) (jM (pv 0) (ay (zO rfl) rfl B.max N3 (ac (pv 3) (ac (pv 4) ad))) ii))))),Dl h⟩
theorem Bd(D:Def K mg "end_of" ma qW f fd)(B:Blt mg):uR P w K mg base 1:=by
 refine D.ok nh (by walk_at "l") fun _ _ _ _ _ _ _ _ hr h=>?_;exact⟨lM K,(ae (psS 2 nh (pv 1))
  (ae (lf Ge (aQ pK (aN be (pv 0) (pv 2) (fun _ _=>rfl)) (pv 2) (aV _)) (ae (i6 (aN be (pv 0) (aN be (pv 0) (pv 2) (fun _ _=>rfl)) (fun _ _=>rfl)) (jM (pv 0) (pv 2) ii))
  (ag (psS 2 nh (aN be (pv 0) (pv 2) (fun _ _=>rfl))))))
  (ag (aw (pv 2))))),AH h⟩
theorem nu(D:Def K mg "truths_of" cQ og f fd)(B:Blt mg)(U46:uS P w K mg base 1)(U31:zb P w K mg base 1)(U39:zl P w K mg base 1)(U40:zk P w K mg base 3)(U42:rj P w K mg base 1)(U6:zm P w K mg base 2)(U43:zn P w K mg base 2):∀n,FnB P w K mg base (4+n) "truths_of" og (bN K n)
 |0=>D.ok (k:=3) fh (fun vs H Q E h=>(mV h).elim) (fun cdv A outer s H vs Q E hr h=>(mV h).elim)
 |n+1=>by
  have U24:=nu D B U46 U31 U39 U40 U42 U6 U43 n;refine D.ok (k:=4+n) fh (by walk_at "l") fun _ _ _ _ _ _ _ _ hr h=>?_;exact⟨iP K n,(ae (psS 3 fh (aN bv (pv 2) aj (fun _ _=>rfl)))
  (ae (bd (aQ cJ (pv 3) aY (aV _)) (ag (aw (bQ (sc:=(am cQ)) (NX:=qP) (N:=["deal","S"]) (ix:=[none,some 2]) rfl (by walk_at "c") (ci (pv 0)) (by intros;exact(pgC 0 ["deal","S"])) (by intros;exact bX) (by intros;exact(kI cJ (aN bv (pv 0) (aN bv (pv 1) aj (fun _ _=>rfl)) (fun _ _=>rfl)) (aN bv (pv 1) aj (fun _ _=>rfl)) (aV _)))))) aK)
  (ae (bd (aQ cJ (pv 3) aY (aV _)) (ag (aw (ak U43 (hr.mono (by omega)) (cI (bQ (sc:=(am cQ)) (NX:=qP) (N:=["deal","views"]) (ix:=[none,some 1]) rfl (by walk_at "c") (ci (pv 0)) (by intros;exact(pgC 0 ["deal","views"])) (by intros;exact bX) (by intros;exact(ak U31 (hr.mono (by omega)) (ac (pv 0) (aU (ay aL rfl B.len GV (ac (pv 1) ad)) ad))))) (aE (aN be (pv 1) (aN bv (pv 2) aj (fun _ _=>rfl)) (fun _ _=>rfl)) ad))))) aK)
  (ae (bd (aQ cJ (pv 3) aY (aV _)) (ag (aw (bQ (sc:=(am cQ)) (NX:=qP) (N:=["truth"]) (ix:=[none]) rfl (by walk_at "c") (ci (ak U24 (hr.mono (by omega)) (ac (pv 0) (ac (pv 1) (aE (aN bv (pv 2) aj (fun _ _=>rfl)) ad))))) (by intros;exact(pgC 0 ["truth"])) (by intros;exact bX) (by intros;exact(zI (pv 0)))))) aK)
  (ae (bd (aQ cJ (pv 3) aY (aV _)) (ag (aw (ak U46 (hr.mono (by omega)) (aU (ak U24 (hr.mono (by omega)) (ac (pv 0) (ac (pv 1) (aE (aN bv (pv 2) aj (fun _ _=>rfl)) ad)))) (aU (ak U24 (hr.mono (by omega)) (ac (pv 0) (ac (pv 1) (aE (aN bv (pv 2) aj (fun _ _=>rfl)) ad)))) ad))))) aK)
  (ae (bd (aQ cJ (pv 3) aY (aV _)) (ag (aw (ak U39 (hr.mono (by omega)) (aU (ak U24 (hr.mono (by omega)) (ac (pv 0) (ac (pv 1) (aE (aN bv (pv 2) aj (fun _ _=>rfl)) ad)))) (aU (ak U24 (hr.mono (by omega)) (ac (pv 0) (ac (pv 1) (aE (aN bv (pv 2) aj (fun _ _=>rfl)) ad)))) ad))))) aK)
  (ae (psS 4 fh (ak U24 (hr.mono (by omega)) (ac (pv 0) (ac (pv 1) (aE (aN bv (pv 2) aj (fun _ _=>rfl)) ad)))))
  (ae (bd (aQ cJ (pv 3) aY (aV _)) (ag (aw (ak U42 (hr.mono (by omega)) (aE (aN be (pv 1) (aN bv (pv 2) aj (fun _ _=>rfl)) (fun _ _=>rfl)) (ac (pv 4) ad))))) aK)
  (ae (yq (i:=5) fh.nd rfl rfl (sc:=(am cQ)) (NX:=qP) (N:=["hand","views"]) (ix:=[none,some 1]) rfl (by walk_at "c") (mB (aN bv (pv 2) aj (fun _ _=>rfl))) (by intros;exact(pgC 0 ["hand","views"])) (by intros;exact bX) (by intros;exact(aN be (pv 1) (pv 0) (fun _ _=>rfl))))
  (ae (bd (aQ cJ (pv 3) aY (aV _)) (ag (aw (ak U6 (hr.mono (by omega)) (ac (pv 5) (ac (pv 4) ad))))) aK)
  (ag (aw (ak U42 (hr.mono (by omega)) (aU (ak U40 (hr.mono (by omega)) (aU (ay aL rfl B.len GV (ac (pv 0) ad)) (ac (pv 5) ad))) (ac (pv 4) ad))))))))))))))),vT h⟩
theorem DO(D:Def K mg "both" ni gW f fd)(B:Blt mg):uS P w K mg base 1:=by
 refine D.ok DK (by walk_at "l") fun _ _ _ _ _ _ _ _ hr h=>?_;exact⟨qk K,(ag (aw (bQ (sc:=(am ni)) (NX:=gW) (N:=oo) (ix:=[none,none]) rfl (by walk_at "c") (jR bj bj rfl B.zip (ac (pv 0) (ac (pv 1) ad))) (by intros;exact(dI rfl (bc (pgC 0 oo) (bc (pgC 1 oo) cS)))) (by intros;exact bX) (by intros;exact(pI (pv 0) (mr (pv 1))))))),Do h⟩
theorem Be(D:Def K mg "either" j3 gW f fd)(B:Blt mg):zl P w K mg base 1:=by
 refine D.ok Bb (by walk_at "l") fun _ _ _ _ _ _ _ _ hr h=>?_;exact⟨lP K,(ag (aw (bQ (sc:=(am j3)) (NX:=gW) (N:=oo) (ix:=[none,none]) rfl (by walk_at "c") (jR bj bj rfl B.zip (ac (pv 0) (ac (pv 1) ad))) (by intros;exact(dI rfl (bc (pgC 0 oo) (bc (pgC 1 oo) cS)))) (by intros;exact bX) (by intros;exact(E4 (pv 0) (mr (pv 1))))))),AM h⟩
theorem Cu(D:Def K mg "known" kX qV f fd)(B:Blt mg):rj P w K mg base 1:=by
 refine D.ok md (by walk_at "l") fun _ _ _ _ _ _ _ _ hr h=>?_;exact⟨nQ K,(ae (pJ (i:=2) md.nd rfl (K2 rfl) (ar AT (bZ (ao cr ad)) (ay aL rfl B.len GV (ac (pv 0) ad))))
  (ae (bz Ge rfl (jR bj bj rfl B.zip (ac (pv 0) (ac (pv 1) ad))) (dI rfl (bc (pgS 3 md) (bc (pgS 4 md) cS))) (ag (bd (cG (cb (pv 4))) (ag (i6 cr (jM (pv 2) (pv 3) ii))) aK)))
  (ag (aw (bQ (sc:=(am kX)) (NX:=CP) (N:=["least","sure"]) (ix:=[none,some 2]) rfl (by walk_at "c") (ci (pv 0)) (by intros;exact(pgC 0 ["least","sure"])) (by intros;exact bX) (by intros;exact(aN be (pv 1) (pv 0) (fun _ _=>rfl)))))))),BV h⟩
theorem rA(D:Def K mg "known_to_all" fF qY f fd)(B:Blt mg)(U46:uS P w K mg base 1)(U42:rj P w K mg base 1):zm P w K mg base 2:=by
 refine D.ok eQ (by walk_at "l") fun _ _ _ _ _ _ _ _ hr h=>?_;exact⟨fz K,(ae (psS 2 eQ (ar AT (bZ (ao cr ad)) (ay aL rfl B.len GV (ac (pv 1) ad))))
  (ae (bz Ge rfl (ci (pv 0)) (pgS 3 eQ) (ag (psS 2 eQ (ak U46 (rmD hr) (ac (pv 2) (aU (ak U42 (rmD hr) (ac (pv 3) (ac (pv 1) ad))) ad))))))
  (ag (aw (pv 2))))),ql h⟩
theorem DP(D:Def K mg "seen" nj lY f fd)(B:Blt mg)(U42:rj P w K mg base 1):zn P w K mg base 2:=by
 refine D.ok DL (by walk_at "l") fun _ _ _ _ _ _ _ _ hr h=>?_;have hu:=hr.units0;exact⟨qm K,(ag (aw (ak U42 (rmD hr) (ac (pv 1) (cI (bQ (sc:=(am nj)) (NX:=lY) (N:=yZ) (ix:=[none,none,some 0]) rfl (by walk_at "c") (jR bj bj rfl B.zip (ac (pv 0) (ac (pv 1) ad))) (by intros;exact(dI rfl (bc (pgC 0 yZ) (bc (pgC 1 yZ) cS)))) (by intros;exact bX) (by intros;exact(kI (Eg hu) (pv 0) (aN be (pv 2) (pv 1) (fun _ _=>rfl)) (aV _)))) ad))))),Dq h⟩
theorem pF(D:Def K mg "refuse_unless" eR oh f fd)(B:Blt mg):uT P w K mg base 1:=by
 refine D.ok pD (by walk_at "l") fun _ _ _ _ _ _ _ _ hr h=>?_;exact⟨eN K,(ag (bd (cG (cb (pv 0))) (ag lc) aK)),pf h⟩
theorem DQ(D:Def K mg "play" rp qQ f fd)(B:Blt mg){G:GF}(T:dG P w K mg G)(U8:Cp P w K mg base G 8)(U18:zz P w K mg base G 41):zo P w K mg base G 42:=by
 refine D.ok iD (by walk_at "l") fun _ _ _ _ _ _ _ _ hr h=>?_;have hux:=hr.units64;exact⟨qA K G,(ae (psS 3 iD (AV U8 (rmD hr) T.cl_Table (pv 0)))
  (ae (psS 4 iD (bw (Ba rfl) rfl B.tuple Jy (aU (bw tR rfl B.range N6 (bh (ce (pv 3) rfl) ad)) ad)))
  (ae (psS 5 iD (bZ ad))
  (ae (psS 6 iD aj)
  (ae (lf Ge (PW.pt (uZ (aQ uB (ay aL rfl B.len GV (ac (pv 5) ad)) (pv 2) (aV _)) (xy (aQ uB (pv 6) (ay aL rfl B.len GV (ac (pv 1) ad)) (aV _))))) (ae (psS 7 iD (bw ip rfl B.list Jj (bh (ce (pv 3) rfl) ad)))
  (ae (cR (iE GN Hf Hg dU (pv 5) (aU (d7 U18 (rmD hr) T.cl_Table (pv 3) (ac (pv 4) (aE (aN be (pv 1) (ar bJ (ay aL rfl B.len GV (ac (pv 5) ad)) (ay aL rfl B.len GV (ac (pv 1) ad))) (fun _ _=>rfl)) ad))) ad)))
  (ag (psS 6 iD (Bh (aQ (E2 hux) (ce (pv 3) rfl) (pv 7) (aV _)) (ar bu (pv 6) aj) aj))))))
  (ag (aw (pv 5)))))))),Dy T.ct h⟩
theorem wO(D:Def K mg "_law_cell" iZ qM f fd)(B:Blt mg):l9 P w K mg base 1:=by
 refine D.ok hJ (by walk_at "l") fun _ _ _ _ _ _ _ _ hr h=>?_;exact⟨iO K,(ae (bd (aQ uB (pv 1) (ay aL rfl B.len GV (ac (pv 0) ad)) (aV _)) (ag (aw (aN be (pv 0) (pv 1) (fun _ _=>rfl)))) aK)
  (ae (psS 2 hJ (ar bu (ar dj (pv 1) aj) aj))
  (ae (bd (aQ lg (ay aL rfl B.len GV (ac (pv 0) ad)) aj (aV _)) (ag (psS 2 hJ (ar bu (ar dj (aN be (pv 0) (ar bJ (ar dj (pv 1) aj) (ay aL rfl B.len GV (ac (pv 0) ad))) (fun _ _=>rfl)) aj) (ar dj (pv 1) aj)))) aK)
  (ae (psS 2 hJ (ar bJ (ar dj (pv 2) (pv 2)) aj))
  (ag (aw (ar bJ (ar dj (ar bu (pv 2) (pv 1)) (ar bu (pv 2) aj)) aj))))))),vO h⟩
theorem rB(D:Def K mg "_law_product" fG rf f fd)(B:Blt mg):zp P w K mg base 1:=by
 refine D.ok eS (by walk_at "l") fun _ _ _ _ _ _ _ _ hr h=>?_;exact⟨fv K,(ae (psS 1 eS aj)
  (ae (bz Ge rfl (bS rfl B.range (ac (pv 0) ad)) (pgS 2 eS) (ag (psS 1 eS (ar dj (pv 1) (ar bu (pv 2) aj)))))
  (ag (aw (pv 1))))),qd h⟩
theorem uu(D:Def K mg "_law_count" hU qR f fd)(B:Blt mg)(U5:zp P w K mg base 1):zq P w K mg base 2:=by
 refine D.ok ga (by walk_at "l") fun _ _ _ _ _ _ _ _ hr h=>?_;exact⟨gF K,(ae (psS 2 ga (ak U5 (rmD hr) (ac (pv 0) ad)))
  (ae (bz Ge rfl (ci (ar kU (pv 1) (bZ (aJ (ar fK (pv 0) (ay (i8 rfl) rfl B.sum MM (ac (pv 1) ad))) ad)))) (pgS 3 ga) (ag (psS 2 ga (ar cC (pv 2) (ak U5 (rmD hr) (ac (pv 3) ad))))))
  (ag (aw (pv 2))))),tW h⟩
theorem wP(D:Def K mg "_law_pack" i3 qN f fd)(B:Blt mg)(U20:l9 P w K mg base 1)(U13:zq P w K mg base 2):zr P w K mg base 3:=by
 refine D.ok dR (by walk_at "l") fun _ _ _ _ _ _ _ _ hr h=>?_;exact⟨iS K,(ae (psS 3 dR (ar bJ (ak U20 (rmD hr) (ac (pv 0) (ac (pv 1) ad))) aj))
  (ae (bd (aQ cJ (ar bJ (ar cC (ak U20 (rmD hr) (ac (pv 0) (ac (pv 1) ad))) aj) aj) aj (aV _)) (ag (psS 3 dR (ar bu aj (ar bJ (ar cC (ak U20 (rmD hr) (ac (pv 0) (ac (pv 1) ad))) aj) aj)))) aK)
  (ae (psS 4 dR (bZ ad))
  (ae (bz Ge rfl (bS rfl B.range (aJ (ar bu aj (ar bJ (ak U20 (rmD hr) (ac (pv 0) (aJ (ar bu (pv 1) aj) ad))) aj)) ad)) (pgS 5 dR) (ag (cR (iE GN Hf Hg dU (pv 4) (aJ (ar bJ (ak U20 (rmD hr) (ac (pv 0) (aJ (ar bu (ar bu (pv 1) aj) (pv 5)) ad))) (ar bu (ay (sR rfl) rfl B.min boot_min (ao aj (aJ (ar fK (pv 3) (ay (i8 rfl) rfl B.sum MM (ac (pv 4) ad))) ad))) aj)) ad)))))
  (ae (lf Ge (aQ lg (ak U13 (rmD hr) (ac (pv 3) (ac (pv 4) ad))) (pv 2) (aV _)) (ae (bd (aQ lg (ay (mJ rfl) rfl B.max N3 (ac (pv 4) ad)) (ar fK (pv 3) (ay (i8 rfl) rfl B.sum MM (ac (pv 4) ad))) (aV _)) (ag (i6 (ar fK (ay (mJ rfl) rfl B.max N3 (ac (pv 4) ad)) aj) (jM (pv 4) (iE GN LO PySem.F.type_list_index Bx (pv 4) (aU (ay (mJ rfl) rfl B.max N3 (ac (pv 4) ad)) ad)) ii))) aK)
  (ag (psS 3 dR (ar fK (pv 3) aj)))))
  (ag (aw (bE (ac (pv 3) (ac (pv 4) ad)))))))))),vZ h⟩
theorem mn(D:Def K mg "_law_words" hZ ol f fd)(B:Blt mg):∀n,FnB P w K mg base (1+n) "_law_words" ol (dm K n)
 |0=>D.ok (k:=0) ee (fun vs H Q E h=>(mj h).elim) (fun cdv A outer s H vs Q E hr h=>(mj h).elim)
 |n+1=>by
  have U16:=mn D B n;refine D.ok (k:=1+n) ee (by walk_at "l") fun _ _ _ _ _ _ _ _ hr h=>?_;have hu:=hr.units0;exact⟨gO K n,(ae (psS 1 ee aj)
  (ae (bz Ge rfl (mB (ll qu (pv 0) (nG aj) nE)) (pgS 2 ee) (ag (bd (PW.pt (uZ (cb (ay eV rfl B.isinstance Iz (ac (pv 2) (ac (gu (v:=.ty "tuple") rfl B.tuple Jy rfl) ad)))) (uZ (aQ (Eh hu) (pv 2) (bE ad) (aV _)) (xy (cb (ay eV rfl B.isinstance Iz (aE (aN bv (pv 2) aj (fun _ _=>rfl)) (ac (gu (v:=.ty "str") rfl B.str boot_str rfl) ad)))))))) (ag (psS 1 ee (ar bu (pv 1) (ak U16 (hr.mono (by omega)) (ac (pv 2) ad))))) aK)))
  (ag (aw (pv 1))))),tZ h⟩
theorem uv(D:Def K mg "_law_group" fk pB f fd)(B:Blt mg):uU P w K mg base 1:=by
 refine D.ok um (by walk_at "l") fun _ _ _ _ _ _ _ _ hr h=>?_;exact⟨gN K,(ag (aw (bw o0 rfl B.tuple Jy (cI (bQ (sc:=(am fk)) (NX:=pB) (N:=["_law_hand","_law_number"]) (ix:=[none,some 0]) rfl (by walk_at "c") (bS rfl B.range (ac (pv 1) ad)) (by intros;exact(pgC 0 ["_law_hand","_law_number"])) (by intros;exact(rG (aQ cJ (ar bJ (ar cC (pv 1) (aN be (bZ (ao aj (ao aj (ao aj (ao aj (ao aj ad)))))) (pv 0) (fun _ _=>rfl))) aj) aj (aV _)))) (by intros;exact(pv 0))) ad)))),tY h⟩
theorem wQ(D:Def K mg "_law_pool" i4 wH f fd)(B:Blt mg)(U20:l9 P w K mg base 1):zt P w K mg base 2:=by
 refine D.ok h7 (by walk_at "l") fun _ _ _ _ _ _ _ _ hr h=>?_;exact⟨iT K,(ae (psS 4 h7 (bZ (bg (bE (ao aY (aJ (ar bJ (ak U20 (rmD hr) (ac (pv 0) (ac (pv 1) ad))) (pv 3)) ad))) ad)))
  (ae (bz Ge rfl (bS rfl B.range (aJ (ar dj aj (bw zP rfl B.int boot_int (xl (kI lg (pv 2) aj (aV _)) ad))) ad)) (pgS 5 h7) (ae (psS 6 h7 (ak U20 (rmD hr) (ac (pv 0) (aJ (ar bu (ar bu (pv 1) aj) (pv 5)) ad))))
  (ag (cR (iE GN Hf Hg dU (pv 4) (bg (bE (ao aY (aJ (ar bJ (pv 6) (ar bu (pv 3) aj)) (aJ (ar bJ (ar cC (pv 6) aj) (pv 2)) ad)))) ad))))))
  (ag (aw (pv 4))))),wc h⟩
theorem sw(D:Def K mg "_law_saying" gb wF f fd)(B:Blt mg)(U20:l9 P w K mg base 1)(U12:uU P w K mg base 1)(U21:zt P w K mg base 2)(U16:CQ P w K mg base 71):zu P w K mg base 72:=by
 refine D.ok bA (by walk_at "l") fun _ _ _ _ _ _ _ _ hr h=>?_;exact⟨fU K,(ae (psS 5 bA (ak U21 (rmD hr) (ac (pv 0) (ac (pv 1) (ac (pv 2) (ac (pv 3) ad))))))
  (ae (bz Ge rfl (bS rfl B.range (aJ (ar bJ (ak U20 (rmD hr) (ac (pv 0) (aJ (ar bu (pv 1) aj) ad))) aj) ad)) (pgS 6 bA) (ae (psS 7 bA (ak U20 (rmD hr) (ac (pv 0) (aJ (ar bu (ar bu (pv 1) aj) (pv 6)) ad))))
  (ae (psS 8 bA (aN be (pv 5) (Cv zL aj) (fun _ _=>rfl)))
  (ae (psS 9 bA (aN be (pv 5) (ar bJ (ar cC (pv 7) aj) (ay aL rfl B.len GV (ac (pv 5) ad))) (fun _ _=>rfl)))
  (ae (psS 10 bA (bZ (bg (bE (ao aY (ac (pv 8) ad))) (bg (bE (ao aY (ac (pv 8) (ac (pv 9) ad)))) (bg (bE (ao aY (ac (pv 9) (ac (pv 8) ad)))) (bg (bE (ao aY (ac (pv 9) ad))) ad))))))
  (ae (psS 10 bA (ar kU (pv 10) (bZ (bg (bE (ao aY (aJ (ar bJ (ar cC (pv 7) aj) (pv 3)) (ac (pv 8) ad)))) (bg (bE (ao aY (aJ (ar bJ (ar cC (pv 7) aj) (pv 3)) (bg (bE (ao aY (ac (pv 8) ad))) ad)))) ad)))))
  (ae (psS 10 bA (ar kU (pv 10) (bZ (bg (bE (ao aY (aU (ak U12 (rmD hr) (aJ (ar cC (pv 7) aj) (ac (pv 3) ad))) (ac (pv 8) ad)))) (bg (bE (ao aY (aU (ak U12 (rmD hr) (aJ (ar cC (pv 7) aj) (ac (pv 3) ad))) (ac (pv 9) ad)))) ad)))))
  (ae (psS 10 bA (ar kU (pv 10) (bZ (bg (bE (ao aY (aU (ak U12 (rmD hr) (aJ (ar cC (pv 7) aj) (ac (pv 3) ad))) (ac (pv 8) ad)))) (bg (bE (ao aY (aJ (ar bJ (ar cC (pv 7) aj) (pv 3)) (ac (pv 9) ad)))) ad)))))
  (ae (psS 10 bA (ar kU (pv 10) (bZ (bg (bE (ao aY (ac (pv 9) (bg (bE (ao aY (ac (pv 8) ad))) ad)))) (bg (bE (ao aY (ac (pv 8) (bg (bE (ao aY (aJ (ar bJ (ar cC (pv 7) aj) (pv 3)) (ac (pv 9) ad)))) ad)))) ad)))))
  (ag (bd (aQ uC (ak U16 (rmD hr) (aE (aN be (pv 10) (ar bJ (pv 7) aj) (fun _ _=>rfl)) ad)) (pv 4) (aV _)) (ag (cR (iE GN Hf Hg dU (pv 5) (aE (aN be (pv 10) (ar bJ (pv 7) aj) (fun _ _=>rfl)) ad)))) aK)))))))))))
  (ag (aw (aN be (pv 5) (Cv zL aj) (fun _ _=>rfl)))))),rZ h⟩
theorem uw(D:Def K mg "_law_order" h8 qO f fd)(B:Blt mg)(U20:l9 P w K mg base 1):zv P w K mg base 2:=by
 refine D.ok ju (by walk_at "l") fun _ _ _ _ _ _ _ _ hr h=>?_;exact⟨gT K,(ae (psS 3 ju (bZ ad))
  (ae (bz Ge rfl (bS rfl B.range (ac (pv 2) ad)) (pgS 4 ju) (ag (cR (iE GN PySem.F.slot_list_insert PySem.F.type_list_insert A7 (pv 3) (aJ (ar bJ (ak U20 (rmD hr) (ac (pv 0) (aJ (ar bu (pv 1) (pv 4)) ad))) (ar bu (pv 4) aj)) (ac (pv 4) ad))))))
  (ag (aw (pv 3))))),ui h⟩
theorem nv(D:Def K mg "_law_bent" fR ng f fd)(B:Blt mg):∀n,FnB P w K mg base (1+n) "_law_bent" ng (bO K n)
 |0=>D.ok (k:=0) nn (fun vs H Q E h=>(m9 h).elim) (fun cdv A outer s H vs Q E hr h=>(m9 h).elim)
 |n+1=>by
  have U28:=nv D B n;refine D.ok (k:=1+n) nn (by walk_at "l") fun _ _ _ _ _ _ _ _ hr h=>?_;exact⟨iU K n,(ae (bd (aQ cJ (aN bv (pv 0) aj (fun _ _=>rfl)) aY (aV _)) (ag (aw (bE (ao aY (aE (aN bv (pv 0) aj (fun _ _=>rfl)) (aE (aN be (pv 1) (aN bv (pv 0) aj (fun _ _=>rfl)) (fun _ _=>rfl)) ad)))))) aK)
  (ae (bd (aQ cJ (aN bv (pv 0) aj (fun _ _=>rfl)) aY (aV _)) (ag (aw (pv 0))) aK)
  (ae (bd (aQ zX (aN bv (pv 0) aj (fun _ _=>rfl)) (bE (ao aY (ao aY (ao aY ad)))) rfl) (ag (aw (bw o0 rfl B.tuple Jy (aJ (ar kU (bZ (aE (aN bv (pv 0) aj (fun _ _=>rfl)) ad)) (bQ (sc:=(am fR)) (NX:=ng) (N:=["_law_part","_law_turn"]) (ix:=[none,some 1]) rfl (by walk_at "c") (mB (ll qu (pv 0) (nG aj) nE)) (by intros;exact(pgC 0 ["_law_part","_law_turn"])) (by intros;exact bX) (by intros;exact(ak U28 (hr.mono (by omega)) (ac (pv 0) (ac (pv 1) ad)))))) ad)))) aK)
  (ag (aw (bE (aE (aN bv (pv 0) aj (fun _ _=>rfl)) (aE (aN bv (pv 0) aj (fun _ _=>rfl)) (aU (ak U28 (hr.mono (by omega)) (aE (aN bv (pv 0) aj (fun _ _=>rfl)) (ac (pv 1) ad))) ad))))))))),wv h⟩
theorem sx(D:Def K mg "_law_places" gc qS f fd)(B:Blt mg):zw P w K mg base 1:=by
 refine D.ok b7 (by walk_at "l") fun _ _ _ _ _ _ _ _ hr h=>?_;have hux:=hr.units64;exact⟨fY K,(ae (psS 2 b7 wC)
  (ae (bz Ge rfl (kK bj rfl B.enumerate (by decide) (ac (pv 0) ad)) (dI rfl (bc (pgS 3 b7) (bc (pgS 4 b7) cS))) (ag (i6 (pv 3) (jM (pv 2) (pv 4) (Fs hux)))))
  (ae (psS 5 b7 (bZ ad))
  (ae (bz Ge rfl (ci (pv 0)) (pgS 4 b7) (ae (psS 6 b7 (bw ip rfl B.list Jj (ac (pv 4) ad)))
  (ae (bz Ge rfl (bS rfl B.range (aU (ay aL rfl B.len GV (ac (pv 4) ad)) ad)) (pgS 7 b7) (ag (i6 (aN bv (pv 4) (pv 7) (fun _ _=>rfl)) (jM (pv 6) (aN be (pv 1) (pv 7) (fun _ _=>rfl)) ii))))
  (ag (cR (iE GN Hf Hg dU (pv 5) (aE (yc hux (pv 2) (bw o0 rfl B.tuple Jy (ac (pv 6) ad)) (fun _ _=>rfl)) ad)))))))
  (ag (aw (pv 5))))))),sj h⟩
theorem wR(D:Def K mg "_law_same" fS pz f fd)(B:Blt mg):zx P w K mg base 1:=by
 refine D.ok wK (by walk_at "l") fun _ _ _ _ _ _ _ _ hr h=>?_;have hux:=hr.units64;exact⟨iV K,(ag (aw (kI (Cg hux) (pv 0) (bQ (sc:=(am fS)) (NX:=pz) (N:=["_law_place","_law_others"]) (ix:=[none,some 1]) rfl (by walk_at "c") (ci (pv 2)) (by intros;exact(pgC 0 ["_law_place","_law_others"])) (by intros;exact bX) (by intros;exact(aN be (pv 1) (pv 0) (fun _ _=>rfl)))) (aV _)))),wz h⟩
theorem sN(D:Def K mg "_law_viewed" gd wG f fd)(B:Blt mg){G:GF}(T:dG P w K mg G)(m_set:mg "set"=none)(U14:Cq P w K mg base G 4):zy P w K mg base G 5:=by
 refine D.ok dS (by walk_at "l") fun _ _ _ _ _ _ _ _ hr h=>?_;exact⟨fZ K G,(ae (bz Ge rfl (bS rfl B.range (ac (pv 3) ad)) (pgS 4 dS) (ae (psS 5 dS (d7 U14 (rmD hr) T.cl_Table (pv 0) (ac (pv 4) ad)))
  (ae (psS 6 dS (d7 U14 (rmD hr) T.cl_Table (pv 1) (ac (pv 4) ad)))
  (ae (bz Ge rfl (bS rfl B.range (aU (ay aL rfl B.len GV (ac (pv 2) ad)) ad)) (pgS 7 dS) (ag (bd (aQ pK (aN be (pv 6) (aN be (pv 2) (pv 7) (fun _ _=>rfl)) (fun _ _=>rfl)) (aN be (pv 6) (aN be (pv 2) (aN be (pv 5) (pv 7) (fun _ _=>rfl)) (fun _ _=>rfl)) (fun _ _=>rfl)) (aV _)) (ag (aw cr)) aK)))
  (ag (bd (aQ pK (ay tQ rfl B.len GV (aU (bw (tP rfl) rfl m_set boot_set (ac (pv 5) ad)) ad)) (ay tQ rfl B.len GV (aU (bw (tP rfl) rfl m_set boot_set (ac (pv 6) ad)) ad)) (aV _)) (ag (aw cr)) aK))))))
  (ag (aw cr))),sk h⟩
theorem E3(D:Def K mg "law" uV oq f fd)(B:Blt mg){G:GF}(T:dG P w K mg G)(U15:FnI P w K mg base 6 G.Table iW (ck K G))(U4:zA P w K mg base G 40)(U18:zz P w K mg base G 41)(U28:CS P w K mg base 36)(U20:l9 P w K mg base 1)(U12:uU P w K mg base 1)(U19:zv P w K mg base 2)(U25:zr P w K mg base 3)(U7:zw P w K mg base 1)(U22:zx P w K mg base 1)(U10:zu P w K mg base 72)(U11:zy P w K mg base G 5)(U32:za P w K mg base 5)(U45:zo P w K mg base G 42):dJ P w K mg base CX0 73 f fd oq (pU K):=by
 refine D.fn.ok cA (by walk_at "l") fun _ _ _ _ _ _ _ _ hr h=>?_;exact⟨uM K G,(ae (i6 (ak U25 (rmD hr) (ac (pv 0) (ao aj (ao aj ad)))) (dI rfl (bc (pgS 1 cA) (bc (pgS 2 cA) cS))))
  (ae (bd (aQ cJ (pv 1) aj (aV _)) (ag (psS 1 cA aj)) aK)
  (ae (psS 3 cA (ay aL rfl B.len GV (ac (pv 2) ad)))
  (ae (psS 4 cA (ak U19 (rmD hr) (ac (pv 0) (ao aj (ac (pv 1) ad)))))
  (ae (psS 5 cA (ak U7 (rmD hr) (aU (ak U32 (rmD hr) (ac (pv 1) (ac (pv 2) ad))) (ac (pv 4) ad))))
  (ae (psS 6 cA (pb U15 (rmD hr) T.m_Table (ac (pv 1) (ac (pv 2) ad))))
  (ae (psS 7 cA (pb U15 (rmD hr) T.m_Table (ac (pv 1) (ac (pv 2) ad))))
  (ae (bz Ge rfl (bS rfl B.range (aJ (ar bJ (ak U20 (rmD hr) (ac (pv 0) (ao aj ad))) aj) ad)) (pgS 8 cA) (ae (psS 9 cA (ak U10 (rmD hr) (ac (pv 0) (aJ (ar bu aj (ar dj aj (pv 8))) (ac (pv 1) (ac (pv 3) (ao aj ad)))))))
  (ae (psS 10 cA (ak U12 (rmD hr) (aJ (ar cC (ak U20 (rmD hr) (ac (pv 0) (aJ (ar bu aj (ar dj aj (pv 8))) ad))) aj) (ac (pv 3) ad))))
  (ae (psS 11 cA (d7 U18 (rmD hr) T.cl_Table (pv 6) (ac (pv 10) (ac (pv 9) ad))))
  (ag (bd (cG (cb (ak U22 (rmD hr) (ac (pv 11) (aU (d7 U18 (rmD hr) T.cl_Table (pv 7) (ac (pv 10) (aU (ak U28 (rmD hr) (ac (pv 9) (ac (pv 4) ad))) ad))) (ac (pv 5) ad)))))) (ag (aw cr)) aK))))))
  (ae (psS 9 cA (ak U10 (rmD hr) (ac (pv 0) (ao aj (ac (pv 1) (ac (pv 3) (ao aj ad)))))))
  (ae (bd (cG (cb (ak U22 (rmD hr) (aU (d7 U4 (rmD hr) T.cl_Table (pv 6) (ac (pv 9) ad)) (aU (d7 U4 (rmD hr) T.cl_Table (pv 7) (aU (ak U28 (rmD hr) (ac (pv 9) (ac (pv 4) ad))) ad)) (ac (pv 5) ad)))))) (ag (aw cr)) aK)
  (ae (psS 12 cA (ak U45 (rmD hr) (ac (pv 6) (v3 (bZ (ac (pv 9) (bg (bE (ao aY (ao aj ad))) ad))) (ao aj ad)))))
  (ae (psS 13 cA (ak U45 (rmD hr) (ac (pv 7) (v3 (bZ (aU (ak U28 (rmD hr) (ac (pv 9) (ac (pv 4) ad))) (bg (bE (ao aY (ao aj ad))) ad))) (ao aj ad)))))
  (ae (bd (aQ pK (ay aL rfl B.len GV (ac (pv 12) ad)) (ay aL rfl B.len GV (ac (pv 13) ad)) (aV _)) (ag (aw cr)) aK)
  (ae (bz Ge rfl (jR bj bj rfl B.zip (ac (pv 12) (ac (pv 13) ad))) (dI rfl (bc (pgS 11 cA) (bc (pgS 14 cA) cS))) (ag (bd (cG (cb (ak U22 (rmD hr) (ac (pv 11) (ac (pv 14) (ac (pv 5) ad)))))) (ag (aw cr)) aK)))
  (ag (aw (ak U11 (rmD hr) (ac (pv 6) (ac (pv 7) (ac (pv 5) (ac (pv 3) ad))))))))))))))))))))),EW h⟩
theorem ux{G:GF}(D:wa K G.Table "Table.__init__" fm iW f fd)(B:Blt mg)(T:dG P w K mg G)(U32:za P w K mg base 5)(U17:zh P w K mg base 2):FnI P w K mg base 6 G.Table iW (ck K G):=by
 refine D.ok uo (by walk_at "l") fun _ _ _ _ _ _ _ _ hr h=>?_;exact⟨gQ K G,(ae (i7 (pv 0) (ak U32 (rmD hr) (ac (pv 1) (ac (pv 2) ad))) rfl)
  (ae (i7 (pv 0) (pv 1) rfl)
  (ae (i7 (pv 0) (bw ip rfl B.list Jj (ac (pv 2) ad)) rfl)
  (ae (i7 (pv 0) (ay aL rfl B.len GV (ac (pv 2) ad)) rfl)
  (ae (i7 (pv 0) (bQ (sc:=(am fm)) (NX:=iW) (N:=["hand","self"]) (ix:=[none,some 0]) rfl (by walk_at "c") (bS rfl B.range (bh (ce (pv 0) rfl) ad)) (by intros;exact(pgC 0 ["hand","self"])) (by intros;exact bX) (by intros;exact(ak U17 (rmD hr) (bh (ce (pv 1) rfl) (ac (pv 0) ad))))) rfl)
  (ag (i7 (pv 0) (bZ ad) rfl))))))),t0 T.ct h⟩
theorem uy{G:GF}(D:iq K G.Table "view" "Table.view" h9 om f fd)(B:Blt mg)(T:dG P w K mg G)(U33:y8 P w K mg base 3)(U1:uT P w K mg base 1):Cq P w K mg base G 4:=by
 refine D.ok uq (by walk_at "l") fun _ _ _ _ _ _ _ _ hr h=>?_;exact⟨gR K G,(ae (cR (ak U1 (rmD hr) (aU (ak U33 (rmD hr) (ac (pv 1) (bh (ce (pv 0) rfl) ad))) (ao aY ad))))
  (ag (aw (bw ip rfl B.list Jj (aE (aN be (ce (pv 0) rfl) (pv 1) (fun _ _=>rfl)) ad))))),t9 T.ct h⟩
theorem uz{G:GF}(D:iq K G.Table "word" "Table.word" ib nZ f fd)(B:Blt mg)(T:dG P w K mg G)(U9:Cr P w K mg base G 3)(U4:zA P w K mg base G 40)(U27:y9 P w K mg base 3)(U1:uT P w K mg base 1):zz P w K mg base G 41:=by
 refine D.ok ur (by walk_at "l") fun _ _ _ _ _ _ _ _ hr h=>?_;exact⟨gS K G,(ae (cR (ak U1 (rmD hr) (aU (ak U27 (rmD hr) (ac (pv 1) (bh (ce (pv 0) rfl) ad))) (ao aY ad))))
  (ag (aw (d7 U9 (rmD hr) T.cl_Table (pv 0) (ac (pv 1) (aU (d7 U4 (rmD hr) T.cl_Table (pv 0) (ac (pv 2) ad)) ad)))))),ug T.ct h⟩
theorem rC{G:GF}(D:iq K G.Table "truths" "Table.truths" fH on f fd)(B:Blt mg)(T:dG P w K mg G)(U23:ze P w K mg base 6)(U24:CT P w K mg base 39):zA P w K mg base G 40:=by
 refine D.ok rq (by walk_at "l") fun _ _ _ _ _ _ _ _ hr h=>?_;exact⟨fD K G,(ae (bd (cG (cb (ak U23 (rmD hr) (bh (ce (pv 0) rfl) (bh (ce (pv 0) rfl) (ac (pv 1) ad)))))) (ag lc) aK)
  (ag (aw (ak U24 (rmD hr) (bh (ce (pv 0) rfl) (bh (ce (pv 0) rfl) (ac (pv 1) ad))))))),qz T.ct h⟩
theorem sO{G:GF}(D:iq K G.Table "again" "Table.again" gf ["self"] f fd)(B:Blt mg)(T:dG P w K mg G)(U15:FnI P w K mg base 6 G.Table iW (ck K G)):Cp P w K mg base G 8:=by
 refine D.ok kY (by walk_at "l") fun _ _ _ _ _ _ _ _ hr h=>?_;exact⟨fX K G,(ae (psS 1 kY (pb U15 (rmD hr) T.m_Table (bh (ce (pv 0) rfl) (bh (ce (pv 0) rfl) ad))))
  (ae (i7 (pv 1) (bw ip rfl B.list Jj (bh (ce (pv 0) rfl) ad)) rfl)
  (ae (i7 (pv 1) (bw ip rfl B.list Jj (bh (ce (pv 0) rfl) ad)) rfl)
  (ag (aw (pv 1)))))),r9 T.ct h⟩
theorem sP{G:GF}(D:iq K G.Table "learn" "Table.learn" gh qT f fd)(B:Blt mg)(T:dG P w K mg G)(U41:zi P w K mg base 2):Cr P w K mg base G 3:=by
 refine D.ok kZ (by walk_at "l") fun _ _ _ _ _ _ _ _ hr h=>?_;exact⟨fW K G,(ae (bz Ge rfl (mB (pv 1)) (pgS 3 kZ) (ag (i6 (ak U41 (rmD hr) (aE (aN be (ce (pv 0) rfl) (pv 3) (fun _ _=>rfl)) (ac (pv 2) ad))) (jM (ce (pv 0) rfl) (pv 3) ii))))
  (ae (cR (iE GN Hf Hg dU (ce (pv 0) rfl) (bg (bE (ac (pv 1) (ac (pv 2) ad))) ad)))
  (ag (aw (bw ip rfl B.list Jj (ac (pv 2) ad)))))),r0 T.ct h⟩
theorem Fu(B:Blt mg){G:GF}{f1:Addr}{fd1:Gc}(V77:Def K mg "is_whole" jD ou f1 fd1){f2:Addr}{fd2:Gc}(V74:Def K mg "is_within" iX nY f2 fd2){f3:Addr}{fd3:Gc}(V81:Def K mg "is_below" jE n9 f3 fd3){f4:Addr}{fd4:Gc}(V75:Def K mg "are_hands" iY qX f4 fd4){f5:Addr}{fd5:Gc}(V83:Def K mg "is_pack" ji fe f5 fd5){f6:Addr}{fd6:Gc}(V78:Def K mg "how_many" jF fe f6 fd6){f7:Addr}{fd7:Gc}(V85:Def K mg "choices" kl qZ f7 fd7){f8:Addr}{fd8:Gc}(V80:Def K mg "deals_of" jH fe f8 fd8){f9:Addr}{fd9:Gc}(V50:Def K mg "with_one_more" eP rc f9 fd9){f10:Addr}{fd10:Gc}(V79:Def K mg "cards_of" gY lZ f10 fd10){f11:Addr}{fd11:Gc}(V71:Def K mg "is_saying" fQ kH f11 fd11){f12:Addr}{fd12:Gc}(V84:Def K mg "is_word" jj kH f12 fd12){f13:Addr}{fd13:Gc}(V95:Def K mg "fits" rl su f13 fd13){f14:Addr}{fd14:Gc}(V82:Def K mg "parts_of" gZ rh f14 fd14){f15:Addr}{fd15:Gc}(V51:Def K mg "parts_of_all" fE rg f15 fd15){f16:Addr}{fd16:Gc}(V65:Def K mg "first_view" fg lX f16 fd16){f17:Addr}{fd17:Gc}(V89:Def K mg "split" ow oj f17 fd17){f18:Addr}{fd18:Gc}(V48:Def K mg "least_with_same" cL ["marks"] f18 fd18){f19:Addr}{fd19:Gc}(V88:Def K mg "joined" j0 re f19 fd19){f20:Addr}{fd20:Gc}(V92:Def K mg "link" rn qU f20 fd20){f21:Addr}{fd21:Gc}(V86:Def K mg "end_of" ma qW f21 fd21){f22:Addr}{fd22:Gc}(V72:Def K mg "truths_of" cQ og f22 fd22){f23:Addr}{fd23:Gc}(V94:Def K mg "both" ni gW f23 fd23){f24:Addr}{fd24:Gc}(V87:Def K mg "either" j3 gW f24 fd24){f25:Addr}{fd25:Gc}(V90:Def K mg "known" kX qV f25 fd25){f26:Addr}{fd26:Gc}(V54:Def K mg "known_to_all" fF qY f26 fd26){f27:Addr}{fd27:Gc}(V91:Def K mg "seen" nj lY f27 fd27){f28:Addr}{fd28:Gc}(V49:Def K mg "refuse_unless" eR oh f28 fd28){f29:Addr}{fd29:Gc}(V93:Def K mg "play" rp qQ f29 fd29){f30:Addr}{fd30:Gc}(V68:Def K mg "_law_cell" iZ qM f30 fd30){f31:Addr}{fd31:Gc}(V53:Def K mg "_law_product" fG rf f31 fd31){f32:Addr}{fd32:Gc}(V61:Def K mg "_law_count" hU qR f32 fd32){f33:Addr}{fd33:Gc}(V73:Def K mg "_law_pack" i3 qN f33 fd33){f34:Addr}{fd34:Gc}(V64:Def K mg "_law_words" hZ ol f34 fd34){f35:Addr}{fd35:Gc}(V60:Def K mg "_law_group" fk pB f35 fd35){f36:Addr}{fd36:Gc}(V69:Def K mg "_law_pool" i4 wH f36 fd36){f37:Addr}{fd37:Gc}(V58:Def K mg "_law_saying" gb wF f37 fd37){f38:Addr}{fd38:Gc}(V67:Def K mg "_law_order" h8 qO f38 fd38){f39:Addr}{fd39:Gc}(V76:Def K mg "_law_bent" fR ng f39 fd39){f40:Addr}{fd40:Gc}(V55:Def K mg "_law_places" gc qS f40 fd40){f41:Addr}{fd41:Gc}(V70:Def K mg "_law_same" fS pz f41 fd41){f42:Addr}{fd42:Gc}(V59:Def K mg "_law_viewed" gd wG f42 fd42){f43:Addr}{fd43:Gc}(V96:Def K mg "law" uV oq f43 fd43){f44:Addr}{fd44:Gc}(V63:wa K G.Table "Table.__init__" fm iW f44 fd44){f45:Addr}{fd45:Gc}(V62:iq K G.Table "view" "Table.view" h9 om f45 fd45){f46:Addr}{fd46:Gc}(V66:iq K G.Table "word" "Table.word" ib nZ f46 fd46){f47:Addr}{fd47:Gc}(V52:iq K G.Table "truths" "Table.truths" fH on f47 fd47){f48:Addr}{fd48:Gc}(V56:iq K G.Table "again" "Table.again" gf ["self"] f48 fd48){f49:Addr}{fd49:Gc}(V57:iq K G.Table "learn" "Table.learn" gh qT f49 fd49)(T:dG P w K mg G){t_MOST_CARDS:Tok}(m_MOST_CARDS:mg "MOST_CARDS"=some (.int 12 t_MOST_CARDS)){t_MOST_HANDS:Tok}(m_MOST_HANDS:mg "MOST_HANDS"=some (.int 5 t_MOST_HANDS)){t_MOST_DEALS:Tok}(m_MOST_DEALS:mg "MOST_DEALS"=some (.int 2000 t_MOST_DEALS)){t_MOST_WORDS:Tok}(m_MOST_WORDS:mg "MOST_WORDS"=some (.int 30 t_MOST_WORDS))(m_set:mg "set"=none):dJ P w K mg base CX0 73 f43 fd43 oq (pU K):=by
 have U37:Cm P w K mg base 1:=zD V85 B;have U29:y7 P w K mg base 1:=xr V77 B;have U26:wI P w K mg base 2:=wL V74 B U29;have U35:Cl P w K mg base 3:=zC V83 B m_MOST_CARDS m_MOST_HANDS U26;have U30:Cn P w K mg base 4:=xu V78 B U37 U35;have U2:Co P w K mg base 1:=pE V50 B;have U32:za P w K mg base 5:=xv V80 B m_MOST_DEALS U30 U2;have U31:zb P w K mg base 1:=xw V79 B;have U0:uQ P w K mg base 1:=nr V48 B;have U17:zh P w K mg base 2:=ut V65 B U31 U0;have U15:FnI P w K mg base 6 G.Table iW (ck K G):=ux V63 B T U32 U17;have U27:y9 P w K mg base 3:=wM V75 B U26;have U33:y8 P w K mg base 3:=xt V81 B U26;have U47:zf P w K mg base 4:=DM V95 B U27 U33;have U36:zc P w K mg base 5:=zE V84 B T U47;have U34:zg P w K mg base 1:=xx V82 B T;have U3:zd P w K mg base 2:=rz V51 B U34;have U23:ze P w K mg base 6:=wN V71 B m_MOST_WORDS U29 U36 U3;have U46:uS P w K mg base 1:=DO V94 B;have U39:zl P w K mg base 1:=Be V87 B;have U38:uR P w K mg base 1:=Bd V86 B;have U44:zj P w K mg base 2:=DN V92 B U38;have U40:zk P w K mg base 3:=Bc V88 B U38 U44;have U42:rj P w K mg base 1:=Cu V90 B;have U6:zm P w K mg base 2:=rA V54 B U46 U42;have U43:zn P w K mg base 2:=DP V91 B U42;have U24:CT P w K mg base 39:=nu V72 B U46 U31 U39 U40 U42 U6 U43 35;have U4:zA P w K mg base G 40:=rC V52 B T U23 U24;have U41:zi P w K mg base 2:=Ct V89 B U0;have U9:Cr P w K mg base G 3:=sP V57 B T U41;have U1:uT P w K mg base 1:=pF V49 B;have U18:zz P w K mg base G 41:=uz V66 B T U9 U4 U27 U1;have U28:CS P w K mg base 36:=nv V76 B 35;have U20:l9 P w K mg base 1:=wO V68 B;have U12:uU P w K mg base 1:=uv V60 B;have U19:zv P w K mg base 2:=uw V67 B U20;have U5:zp P w K mg base 1:=rB V53 B;have U13:zq P w K mg base 2:=uu V61 B U5;have U25:zr P w K mg base 3:=wP V73 B U20 U13;have U7:zw P w K mg base 1:=sx V55 B;have U22:zx P w K mg base 1:=wR V70 B;have U21:zt P w K mg base 2:=wQ V69 B U20;have U16:CQ P w K mg base 71:=mn V64 B 70;have U10:zu P w K mg base 72:=sw V58 B U20 U12 U21 U16;have U14:Cq P w K mg base G 4:=uy V62 B T U33 U1;have U11:zy P w K mg base G 5:=sN V59 B T m_set U14;have U8:Cp P w K mg base G 8:=sO V56 B T U15;have U45:zo P w K mg base G 42:=DQ V93 B T U8 U18;exact E3 V96 B T U15 U4 U18 U28 U20 U12 U19 U25 U7 U22 U10 U11 U32 U45
end
@[elab_as_elim] theorem ofLen1 {α:Type} {P:List α->Prop} (us:List α) (hl:us.length=1) (h:∀a0:α,P [a0]):P us:=match us,hl with | [a0],_=>h a0
@[elab_as_elim] theorem ofLen2 {α:Type} {P:List α->Prop} (us:List α) (hl:us.length=2) (h:∀a0 a1:α,P [a0,a1]):P us:=match us,hl with | [a0,a1],_=>h a0 a1
@[elab_as_elim] theorem ofLen3 {α:Type} {P:List α->Prop} (us:List α) (hl:us.length=3) (h:∀a0 a1 a2:α,P [a0,a1,a2]):P us:=match us,hl with | [a0,a1,a2],_=>h a0 a1 a2
@[elab_as_elim] theorem ofLen4 {α:Type} {P:List α->Prop} (us:List α) (hl:us.length=4) (h:∀a0 a1 a2 a3:α,P [a0,a1,a2,a3]):P us:=match us,hl with | [a0,a1,a2,a3],_=>h a0 a1 a2 a3
@[elab_as_elim] theorem ofLen5 {α:Type} {P:List α->Prop} (us:List α) (hl:us.length=5) (h:∀a0 a1 a2 a3 a4:α,P [a0,a1,a2,a3,a4]):P us:=match us,hl with | [a0,a1,a2,a3,a4],_=>h a0 a1 a2 a3 a4
local macro_rules | `(tactic| walk_at "b1")=>`(tactic| exact fun _ _ _ _ _ _ us hl=>ofLen1 us hl fun _=>rfl)
local macro_rules | `(tactic| walk_at "b2")=>`(tactic| exact fun _ _ _ _ _ _ us hl=>ofLen2 us hl fun _ _=>rfl)
local macro_rules | `(tactic| walk_at "b3")=>`(tactic| exact fun _ _ _ _ _ _ us hl=>ofLen3 us hl fun _ _ _=>rfl)
local macro_rules | `(tactic| walk_at "b4")=>`(tactic| exact fun _ _ _ _ _ _ us hl=>ofLen4 us hl fun _ _ _ _=>rfl)
local macro_rules | `(tactic| walk_at "b5")=>`(tactic| exact fun _ _ _ _ _ _ us hl=>ofLen5 us hl fun _ _ _ _ _=>rfl)
theorem all_mk{l:W.OpenLaw}{w:World}{K:Fg}{h:Heap}{mg:Str->Option Value}{fa:Addr}(X:K.In h)(G:h.Ns Gn mg)(hfa:mg "law"=some (.ref fa))
  {t_MOST_CARDS:Tok}  {t_MOST_HANDS:Tok}  {t_MOST_DEALS:Tok}  {t_MOST_WORDS:Tok}   {aF fm1 fm2 fm3 fm4 fm5 fm6 fm7 fm8:Addr} {tk1 tk2 tk3 tk4 tk5 tk6 tk7 tk8 tu1 tu2 tu3 tu4 tu5 tu6 tu7 tu8 tu9 tu10 tu11 tu12 tu13 tu14:Tok} {epF tn1 tn2 tn3 tn4 tn5 tn6 tn7 tn8:Nat} {to1 to2 to3 to4 to5 to6 to7 to8:Option Addr} {ts1 ts2 ts3 ts4 ts5 ts6 ts7 ts8:Array (Option Value)} {aT:Addr}
  (q1:DfA K "is_whole" jD)
  (q2:DfA K "is_within" iX)
  (q3:DfA K "is_below" jE)
  (q4:DfA K "are_hands" iY)
  (q5:DfA K "is_pack" ji)
  (q6:DfA K "how_many" jF)
  (q7:DfA K "choices" kl)
  (q8:DfA K "deals_of" jH)
  (q9:DfA K "with_one_more" eP)
  (q10:DfA K "cards_of" gY)
  (q11:DfA K "is_saying" fQ)
  (q12:DfA K "is_word" jj)
  (q13:DfA K "fits" rl)
  (q14:DfA K "parts_of" gZ)
  (q15:DfA K "parts_of_all" fE)
  (q16:DfA K "first_view" fg)
  (q17:DfA K "split" ow)
  (q18:DfA K "least_with_same" cL)
  (q19:DfA K "joined" j0)
  (q20:DfA K "link" rn)
  (q21:DfA K "end_of" ma)
  (q22:DfA K "truths_of" cQ)
  (q23:DfA K "both" ni)
  (q24:DfA K "either" j3)
  (q25:DfA K "known" kX)
  (q26:DfA K "known_to_all" fF)
  (q27:DfA K "seen" nj)
  (q28:DfA K "refuse_unless" eR)
  (q29:DfA K "play" rp)
  (q30:DfA K "_law_cell" iZ)
  (q31:DfA K "_law_product" fG)
  (q32:DfA K "_law_count" hU)
  (q33:DfA K "_law_pack" i3)
  (q34:DfA K "_law_words" hZ)
  (q35:DfA K "_law_group" fk)
  (q36:DfA K "_law_pool" i4)
  (q37:DfA K "_law_saying" gb)
  (q38:DfA K "_law_order" h8)
  (q39:DfA K "_law_bent" fR)
  (q40:DfA K "_law_places" gc)
  (q41:DfA K "_law_same" fS)
  (q42:DfA K "_law_viewed" gd)
  (q43:DfA K "law" uV)
  (q44:MtA K aT "__init__" "Table.__init__" fm)
  (q45:MtA K aT "view" "Table.view" h9)
  (q46:MtA K aT "word" "Table.word" ib)
  (q47:MtA K aT "truths" "Table.truths" fH)
  (q48:MtA K aT "again" "Table.again" gf)
  (q49:MtA K aT "learn" "Table.learn" gh)
  (y1:Ib K Gn "MOST_CARDS"=some (some (.int 12 t_MOST_CARDS)))
  (y2:Ib K Gn "MOST_HANDS"=some (some (.int 5 t_MOST_HANDS)))
  (y3:Ib K Gn "MOST_DEALS"=some (some (.int 2000 t_MOST_DEALS)))
  (y4:Ib K Gn "MOST_WORDS"=some (some (.int 30 t_MOST_WORDS)))
  (y5:Ib K Gn "set"=some none)
  (x1:Ib K Gn "FORMS"=some (some (.ref aF)))
  (x2:K.lookup aF=some ⟨.type "dict",none,.dict #[⟨GP w.params "holds",.str "holds" tk1,.ref fm1⟩,⟨GP w.params "not",.str "not" tk2,.ref fm2⟩,⟨GP w.params "and",.str "and" tk3,.ref fm3⟩,⟨GP w.params "or",.str "or" tk4,.ref fm4⟩,⟨GP w.params "knows",.str "knows" tk5,.ref fm5⟩,⟨GP w.params "all",.str "all" tk6,.ref fm6⟩,⟨GP w.params "common",.str "common" tk7,.ref fm7⟩,⟨GP w.params "sees",.str "sees" tk8,.ref fm8⟩] epF,#[]⟩)
  (x3:K.lookup fm1=some ⟨.type "tuple",to1,.seq #[.str "holder" tu1,.str "card" tu2] tn1,ts1⟩)
  (x4:K.lookup fm2=some ⟨.type "tuple",to2,.seq #[.str "saying" tu3] tn2,ts2⟩)
  (x5:K.lookup fm3=some ⟨.type "tuple",to3,.seq #[.str "saying" tu4,.str "saying" tu5] tn3,ts3⟩)
  (x6:K.lookup fm4=some ⟨.type "tuple",to4,.seq #[.str "saying" tu6,.str "saying" tu7] tn4,ts4⟩)
  (x7:K.lookup fm5=some ⟨.type "tuple",to5,.seq #[.str "hand" tu8,.str "saying" tu9] tn5,ts5⟩)
  (x8:K.lookup fm6=some ⟨.type "tuple",to6,.seq #[.str "hands" tu10,.str "saying" tu11] tn6,ts6⟩)
  (x9:K.lookup fm7=some ⟨.type "tuple",to7,.seq #[.str "hands" tu12,.str "saying" tu13] tn7,ts7⟩)
  (x10:K.lookup fm8=some ⟨.type "tuple",to8,.seq #[.str "hand" tu14] tn8,ts8⟩)
  (x11:(aF==HH)=false)
  (x12:Ib K Gn "Table"=some (some (.ref aT)))
  (x13:W.plainGet K aT Oq=true)
  (x14:W.hasDictIn K aT=true)
  (x15:W.plainOver K aT=true)
  (x16:KU K (.ref aT) "__setattr__"=some (some (.builtin "object.__setattr__")))
  (x17:W.makesIn K aT=true)
  (x18:W.keepIn K (.ref aT)=true)
  (x19:KU K (.ref aT) "dealt"=some none)
  (x20:KU K (.ref aT) "cards"=some none)
  (x21:KU K (.ref aT) "sizes"=some none)
  (x22:KU K (.ref aT) "hands"=some none)
  (x23:KU K (.ref aT) "views"=some none)
  (x24:KU K (.ref aT) "deeds"=some none)
  (z1:Ib K Gn "len"=some none) (z2:Ib K Gn "range"=some none) (z3:Ib K Gn "tuple"=some none) (z4:Ib K Gn "list"=some none) (z5:Ib K Gn "int"=some none) (z6:Ib K Gn "bool"=some none) (z7:Ib K Gn "str"=some none) (z8:Ib K Gn "dict"=some none) (z9:Ib K Gn "sum"=some none) (z10:Ib K Gn "all"=some none) (z11:Ib K Gn "min"=some none) (z12:Ib K Gn "max"=some none) (z13:Ib K Gn "sorted"=some none) (z14:Ib K Gn "enumerate"=some none) (z15:Ib K Gn "zip"=some none) (z16:Ib K Gn "isinstance"=some none):
  ∃fd:Gc,(∀(s:Shared)(v:Value),BindsTo s fd ⟨[v],[]⟩ [("_law_script",v)])/\∀base:Heap,K.In base->base.Ns Gn mg->dJ l.prog w K mg base CX0 73 fa fd oq (pU K):=by
 have B:Blt mg:=⟨GX X G z1,GX X G z2,GX X G z3,GX X G z4,GX X G z5,GX X G z6,GX X G z7,GX X G z8,GX X G z9,GX X G z10,GX X G z11,GX X G z12,GX X G z13,GX X G z14,GX X G z15,GX X G z16⟩;obtain⟨_,_,D1⟩:=q1.df (ps:=ou) X G (by walk_at "b1");obtain⟨_,_,D2⟩:=q2.df (ps:=nY) X G (by walk_at "b3");obtain⟨_,_,D3⟩:=q3.df (ps:=n9) X G (by walk_at "b2");obtain⟨_,_,D4⟩:=q4.df (ps:=qX) X G (by walk_at "b2");obtain⟨_,_,D5⟩:=q5.df (ps:=fe) X G (by walk_at "b2");obtain⟨_,_,D6⟩:=q6.df (ps:=fe) X G (by walk_at "b2");obtain⟨_,_,D7⟩:=q7.df (ps:=qZ) X G (by walk_at "b2");obtain⟨_,_,D8⟩:=q8.df (ps:=fe) X G (by walk_at "b2");obtain⟨_,_,D9⟩:=q9.df (ps:=rc) X G (by walk_at "b2");obtain⟨_,_,D10⟩:=q10.df (ps:=lZ) X G (by walk_at "b2");obtain⟨_,_,D11⟩:=q11.df (ps:=kH) X G (by walk_at "b3");obtain⟨_,_,D12⟩:=q12.df (ps:=kH) X G (by walk_at "b3");obtain⟨_,_,D13⟩:=q13.df (ps:=su) X G (by walk_at "b4");obtain⟨_,_,D14⟩:=q14.df (ps:=rh) X G (by walk_at "b1");obtain⟨_,_,D15⟩:=q15.df (ps:=rg) X G (by walk_at "b1");obtain⟨_,_,D16⟩:=q16.df (ps:=lX) X G (by walk_at "b2");obtain⟨_,_,D17⟩:=q17.df (ps:=oj) X G (by walk_at "b2");obtain⟨_,_,D18⟩:=q18.df (ps:=["marks"]) X G (by walk_at "b1");obtain⟨_,_,D19⟩:=q19.df (ps:=re) X G (by walk_at "b2");obtain⟨_,_,D20⟩:=q20.df (ps:=qU) X G (by walk_at "b3");obtain⟨_,_,D21⟩:=q21.df (ps:=qW) X G (by walk_at "b2");obtain⟨_,_,D22⟩:=q22.df (ps:=og) X G (by walk_at "b3");obtain⟨_,_,D23⟩:=q23.df (ps:=gW) X G (by walk_at "b2");obtain⟨_,_,D24⟩:=q24.df (ps:=gW) X G (by walk_at "b2");obtain⟨_,_,D25⟩:=q25.df (ps:=qV) X G (by walk_at "b2");obtain⟨_,_,D26⟩:=q26.df (ps:=qY) X G (by walk_at "b2");obtain⟨_,_,D27⟩:=q27.df (ps:=lY) X G (by walk_at "b2");obtain⟨_,_,D28⟩:=q28.df (ps:=oh) X G (by walk_at "b2");obtain⟨_,_,D29⟩:=q29.df (ps:=qQ) X G (by walk_at "b3");obtain⟨_,_,D30⟩:=q30.df (ps:=qM) X G (by walk_at "b2");obtain⟨_,_,D31⟩:=q31.df (ps:=rf) X G (by walk_at "b1");obtain⟨_,_,D32⟩:=q32.df (ps:=qR) X G (by walk_at "b2");obtain⟨_,_,D33⟩:=q33.df (ps:=qN) X G (by walk_at "b3");obtain⟨_,_,D34⟩:=q34.df (ps:=ol) X G (by walk_at "b1");obtain⟨_,_,D35⟩:=q35.df (ps:=pB) X G (by walk_at "b2");obtain⟨_,_,D36⟩:=q36.df (ps:=wH) X G (by walk_at "b4");obtain⟨_,_,D37⟩:=q37.df (ps:=wF) X G (by walk_at "b5");obtain⟨_,_,D38⟩:=q38.df (ps:=qO) X G (by walk_at "b3");obtain⟨_,_,D39⟩:=q39.df (ps:=ng) X G (by walk_at "b2");obtain⟨_,_,D40⟩:=q40.df (ps:=qS) X G (by walk_at "b2");obtain⟨_,_,D41⟩:=q41.df (ps:=pz) X G (by walk_at "b3");obtain⟨_,_,D42⟩:=q42.df (ps:=wG) X G (by walk_at "b4");obtain⟨fd,D43,hb⟩:=q43.law X G (by walk_at "b1") hfa fun _ _ _ _ _ _ _ _=>.of_eq rfl;obtain⟨_,_,D44⟩:=q44.di (ps:=iW) x17 x18 (by walk_at "b3");obtain⟨_,_,D45⟩:=q45.df (ps:=om) (by walk_at "b2");obtain⟨_,_,D46⟩:=q46.df (ps:=nZ) (by walk_at "b3");obtain⟨_,_,D47⟩:=q47.df (ps:=on) (by walk_at "b2");obtain⟨_,_,D48⟩:=q48.df (ps:=["self"]) (by walk_at "b1");obtain⟨_,_,D49⟩:=q49.df (ps:=qT) (by walk_at "b3");refine⟨fd,hb,fun base _ _=>?_⟩;have T:dG l.prog w K mg _:=B9 (Dv (aC:=0) x11 (Mt X G x1) x2 x3 x4 x5 x6 x7 x8 x9 x10) (Mt X G x12) x13 x14 x15 x16 x19 x20 x21 x22 x23 x24;exact Fu B D1 D2 D3 D4 D5 D6 D7 D8 D9 D10 D11 D12 D13 D14 D15 D16 D17 D18 D19 D20 D21 D22 D23 D24 D25 D26 D27 D28 D29 D30 D31 D32 D33 D34 D35 D36 D37 D38 D39 D40 D41 D42 D43 D44 D45 D46 D47 D48 D49 T (Mt X G y1) (Mt X G y2) (Mt X G y3) (Mt X G y4) (GX X G y5)
end Kc_k65
local macro_rules | `(tactic| walk_at "q1")=>`(tactic| exact ⟨_,by k_is,_,_,_,_,_,_,_,_,_,by k_is,by k_is,by k_is⟩)
local macro_rules | `(tactic| walk_at "q2")=>`(tactic| exact ⟨_,by k_is,by k_is,_,_,_,_,_,_,_,_,_,by k_is,by k_is,by k_is⟩)
noncomputable def PySem.W.Fast.tw10836205039158758354 : PySem.Program := PySem.Challenge.pw_knowcards_k65_whole_cards_exchanged
theorem PySem.W.Fast.te10836205039158758354 : PySem.Challenge.pw_knowcards_k65_whole_cards_exchanged = PySem.W.Fast.tw10836205039158758354 := rfl
noncomputable def PySem.W.Fast.tw1253850124544983545 : PySem.Params → PySem.W.Frag := fun _ => []
theorem PySem.W.Fast.te1253850124544983545 : (fun _ => [] : PySem.Params → PySem.W.Frag) = PySem.W.Fast.tw1253850124544983545 := rfl
noncomputable def PySem.W.Fast.tw15113890600448709300 : PySem.Program := PySem.Challenge.pw_knowcards_k65_whole_cards_exchanged
theorem PySem.W.Fast.te15113890600448709300 : PySem.Challenge.pw_knowcards_k65_whole_cards_exchanged = PySem.W.Fast.tw15113890600448709300 := rfl
noncomputable def PySem.W.Fast.tw480533301516817970 : PySem.Params → PySem.Obj := fun _ => default
theorem PySem.W.Fast.te480533301516817970 : (fun _ => default : PySem.Params → PySem.Obj) = PySem.W.Fast.tw480533301516817970 := rfl
noncomputable def PySem.W.Fast.tw1917398763322613786 : PySem.Params → PySem.Obj := fun _ => default
theorem PySem.W.Fast.te1917398763322613786 : (fun _ => default : PySem.Params → PySem.Obj) = PySem.W.Fast.tw1917398763322613786 := rfl
noncomputable def PySem.W.Fast.tw17433793852814026810 : PySem.Params → PySem.Obj := fun _ => default
theorem PySem.W.Fast.te17433793852814026810 : (fun _ => default : PySem.Params → PySem.Obj) = PySem.W.Fast.tw17433793852814026810 := rfl
noncomputable def PySem.W.Fast.tw3294390455121174034 : PySem.Params → PySem.Obj := fun _ => default
theorem PySem.W.Fast.te3294390455121174034 : (fun _ => default : PySem.Params → PySem.Obj) = PySem.W.Fast.tw3294390455121174034 := rfl
noncomputable def PySem.W.Fast.tw18196534349528065534 : PySem.Params → PySem.Obj := fun _ => default
theorem PySem.W.Fast.te18196534349528065534 : (fun _ => default : PySem.Params → PySem.Obj) = PySem.W.Fast.tw18196534349528065534 := rfl
noncomputable def PySem.W.Fast.tw13665930314323712781 : PySem.Params → PySem.Obj := fun _ => default
theorem PySem.W.Fast.te13665930314323712781 : (fun _ => default : PySem.Params → PySem.Obj) = PySem.W.Fast.tw13665930314323712781 := rfl
noncomputable def PySem.W.Fast.tw2306709234418921627 : PySem.Params → PySem.Obj := fun _ => default
theorem PySem.W.Fast.te2306709234418921627 : (fun _ => default : PySem.Params → PySem.Obj) = PySem.W.Fast.tw2306709234418921627 := rfl
noncomputable def PySem.W.Fast.tw14655269052846308091 : PySem.Params → PySem.Obj := fun _ => default
theorem PySem.W.Fast.te14655269052846308091 : (fun _ => default : PySem.Params → PySem.Obj) = PySem.W.Fast.tw14655269052846308091 := rfl
noncomputable def PySem.W.Fast.tw973403200240462377 : PySem.Params → PySem.Obj := fun _ => default
theorem PySem.W.Fast.te973403200240462377 : (fun _ => default : PySem.Params → PySem.Obj) = PySem.W.Fast.tw973403200240462377 := rfl
noncomputable def PySem.W.Fast.tw12428213568911577515 : PySem.Params → PySem.Obj := fun _ => default
theorem PySem.W.Fast.te12428213568911577515 : (fun _ => default : PySem.Params → PySem.Obj) = PySem.W.Fast.tw12428213568911577515 := rfl
noncomputable def PySem.W.Fast.tw13354461167356715594 : PySem.Params → PySem.Obj := fun _ => default
theorem PySem.W.Fast.te13354461167356715594 : (fun _ => default : PySem.Params → PySem.Obj) = PySem.W.Fast.tw13354461167356715594 := rfl
noncomputable def PySem.W.Fast.tw2220144814932936656 : PySem.Params → PySem.Obj := fun _ => default
theorem PySem.W.Fast.te2220144814932936656 : (fun _ => default : PySem.Params → PySem.Obj) = PySem.W.Fast.tw2220144814932936656 := rfl
noncomputable def PySem.W.Fast.tw7433841198197538204 : PySem.Params → PySem.Obj := fun _ => default
theorem PySem.W.Fast.te7433841198197538204 : (fun _ => default : PySem.Params → PySem.Obj) = PySem.W.Fast.tw7433841198197538204 := rfl
noncomputable def PySem.W.Fast.tw5150576356083413393 : PySem.Params → PySem.Obj := fun _ => default
theorem PySem.W.Fast.te5150576356083413393 : (fun _ => default : PySem.Params → PySem.Obj) = PySem.W.Fast.tw5150576356083413393 := rfl
noncomputable def PySem.W.Fast.tw15945646271884756214 : PySem.Params → PySem.Obj := fun _ => default
theorem PySem.W.Fast.te15945646271884756214 : (fun _ => default : PySem.Params → PySem.Obj) = PySem.W.Fast.tw15945646271884756214 := rfl
noncomputable def PySem.W.Fast.tw5020775747109639558 : PySem.Params → PySem.Obj := fun _ => default
theorem PySem.W.Fast.te5020775747109639558 : (fun _ => default : PySem.Params → PySem.Obj) = PySem.W.Fast.tw5020775747109639558 := rfl
noncomputable def PySem.W.Fast.tw16360330233601205491 : PySem.Params → PySem.Obj := fun _ => default
theorem PySem.W.Fast.te16360330233601205491 : (fun _ => default : PySem.Params → PySem.Obj) = PySem.W.Fast.tw16360330233601205491 := rfl
open PySem PySem.W PyProof.Rows
set_option maxRecDepth 100000 in
set_option maxHeartbeats 0 in
theorem PySem.Challenge.cw_knowcards_k65_whole_cards_exchanged_holds : PySem.Challenge.rw_knowcards_k65_whole_cards_exchanged.Holds := by
 w_on;o_law;k_head;(case hw=>w_witness2)
 k_fill
 refine L2.Bv (l:=PySem.Challenge.rw_knowcards_k65_whole_cards_exchanged) (k:=73) (x:="_law_script") rfl rfl ⟨rfl,by decide,by decide⟩ (fun w h Y=>PySem.W.kIn_of Y) ?F
 case F=>
  intro w mg fa h KX G hmg;refine' Kc_k65.all_mk KX G hmg ?q1 ?q2 ?q3 ?q4 ?q5 ?q6 ?q7 ?q8 ?q9 ?q10 ?q11 ?q12 ?q13 ?q14 ?q15 ?q16 ?q17 ?q18 ?q19 ?q20 ?q21 ?q22 ?q23 ?q24 ?q25 ?q26 ?q27 ?q28 ?q29 ?q30 ?q31 ?q32 ?q33 ?q34 ?q35 ?q36 ?q37 ?q38 ?q39 ?q40 ?q41 ?q42 ?q43 ?q44 ?q45 ?q46 ?q47 ?q48 ?q49 ?y1 ?y2 ?y3 ?y4 ?y5 ?x1 ?x2 ?x3 ?x4 ?x5 ?x6 ?x7 ?x8 ?x9 ?x10 ?x11 ?x12 ?x13 ?x14 ?x15 ?x16 ?x17 ?x18 ?x19 ?x20 ?x21 ?x22 ?x23 ?x24 ?z1 ?z2 ?z3 ?z4 ?z5 ?z6 ?z7 ?z8 ?z9 ?z10 ?z11 ?z12 ?z13 ?z14 ?z15 ?z16
  (case q1=>walk_at "q1")
  (case q2=>walk_at "q1")
  (case q3=>walk_at "q1")
  (case q4=>walk_at "q1")
  (case q5=>walk_at "q1")
  (case q6=>walk_at "q1")
  (case q7=>walk_at "q1")
  (case q8=>walk_at "q1")
  (case q9=>walk_at "q1")
  (case q10=>walk_at "q1")
  (case q11=>walk_at "q1")
  (case q12=>walk_at "q1")
  (case q13=>walk_at "q1")
  (case q14=>walk_at "q1")
  (case q15=>walk_at "q1")
  (case q16=>walk_at "q1")
  (case q17=>walk_at "q1")
  (case q18=>walk_at "q1")
  (case q19=>walk_at "q1")
  (case q20=>walk_at "q1")
  (case q21=>walk_at "q1")
  (case q22=>walk_at "q1")
  (case q23=>walk_at "q1")
  (case q24=>walk_at "q1")
  (case q25=>walk_at "q1")
  (case q26=>walk_at "q1")
  (case q27=>walk_at "q1")
  (case q28=>walk_at "q1")
  (case q29=>walk_at "q1")
  (case q30=>walk_at "q1")
  (case q31=>walk_at "q1")
  (case q32=>walk_at "q1")
  (case q33=>walk_at "q1")
  (case q34=>walk_at "q1")
  (case q35=>walk_at "q1")
  (case q36=>walk_at "q1")
  (case q37=>walk_at "q1")
  (case q38=>walk_at "q1")
  (case q39=>walk_at "q1")
  (case q40=>walk_at "q1")
  (case q41=>walk_at "q1")
  (case q42=>walk_at "q1")
  (case q43=>walk_at "q1")
  (case y1=>k_is)
  (case y2=>k_is)
  (case y3=>k_is)
  (case y4=>k_is)
  (case y5=>k_is)
  (case x1=>k_is)
  (case x2=>k_is)
  (case x3=>k_is)
  (case x4=>k_is)
  (case x5=>k_is)
  (case x6=>k_is)
  (case x7=>k_is)
  (case x8=>k_is)
  (case x9=>k_is)
  (case x10=>k_is)
  (case x11=>rfl)
  (case x12=>k_is)
  (case x13=>k_is)
  (case x14=>k_is)
  (case x15=>k_is)
  (case x16=>k_is)
  (case x17=>k_is)
  (case x18=>k_is)
  (case x19=>k_is)
  (case x20=>k_is)
  (case x21=>k_is)
  (case x22=>k_is)
  (case x23=>k_is)
  (case x24=>k_is)
  (case q44=>walk_at "q2")
  (case q45=>walk_at "q2")
  (case q46=>walk_at "q2")
  (case q47=>walk_at "q2")
  (case q48=>walk_at "q2")
  (case q49=>walk_at "q2")
  (case z1=>k_is);(case z2=>k_is);(case z3=>k_is);(case z4=>k_is);(case z5=>k_is);(case z6=>k_is);(case z7=>k_is);(case z8=>k_is);(case z9=>k_is);(case z10=>k_is);(case z11=>k_is);(case z12=>k_is);(case z13=>k_is);(case z14=>k_is);(case z15=>k_is);(case z16=>k_is)
