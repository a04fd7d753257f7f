import PyProof.Rows.All
import Wide.All
import OpenK.AllK
import Wide.FinOn
import Lean
import PyProof.EqAt
import PyProof.EqKinds
import PyProof.TupleCall
import PyProof.P3Eq
import PyProof.NeKinds
import PyProof.NeData
import PyProof.ZipIter
import PyProof.EnumMake
import PyProof.EnumFor
import OpenK.KTop
import PyProof.IsRules
import PyProof.AttrMissHeap
import PyProof.DictUpdate
import KE.KDictOf
import PyProof.Rows.SortStr
import PyProof.FString5
import PyProof.StrOps
import PyProof.ListRange
import PyProof.TupleOfGen
import PyProof.Rows.SumAny
import PyProof.Rows.CallKwBuiltin
import PyProof.StrLoop
import PyProof.StrWalks
import PyProof.StrOps2
import PyProof.SliceStr2
import PyProof.StrBlockI
import PyProof.StrLaws
import PyProof.StrBlock
import PyProof.StrBlockL
import PyProof.StrCalls2
import KE.KStrOpen
import KE.KDictList
import PyProof.DictValues
import PyProof.DictTruth
import PyProof.MeetsDict
import PyProof.DictIter
import PyProof.DictWalks
import KE.KEqDict
import KE.KPairComp
import KE.KRevIter
import PyProof.CallType
import PyProof.ListNew
import PySem.Challenge.RW_swellways_k59_what_even_hangs_on
set_option Elab.async false
set_option linter.all false
set_option maxRecDepth 100000
set_option maxHeartbeats 4000000
def zzS (t:String):Lean.MacroM (Lean.TSyntax `tactic):=do
 let a←(t.splitOn " ").toArray.mapM fun s=>if s.startsWith "↓" then `(Lean.Parser.Tactic.simpLemma| ↓ $(Lean.mkIdent (s.drop 1).toString.toName):term) else `(Lean.Parser.Tactic.simpLemma| $(Lean.mkIdent s.toName):term)
 `(tactic| try simp only [$a,*])
open PySem.Str renaming ofString → MK
open PySem.W renaming Frag → ML, mg_of → Oe, mg_none_of → OP, fnOf → Pf, keepIn → PH, methodObj → QV, cellsFrom_some → RF, OpenLaw → RX, codeIn → Se, plainGet → Uc, instObj → Uv, WalkO → U1, mg_of → U3, nsIn → Vf
open PySem renaming wpAny_bind → MM, Value → MN, Shared → MQ, wpAny → M4, starEach → M6, model → Nb, FuncData → Nd, Expr → Nf, Program → Nh, wpAny_field → Nu, World → Nw, wpAny_callSpecial?_slot → Nx, wpAny_setField_rec → ND, Around → NH, wpAny_newObj_type → NJ, wpAny_call_entry → NQ, foldedSetIterable → NS, behindInMarks → NU, wpAny_mono → NW, mem_of_lookup → NX, eval → N1, assignEach → N3, mainGlobals → N4, compareOp → N5, IsPair → N9, wpAny_seqItems → Oi, wpAny_passesOwn → OE, bootBuiltins → OF, wpAny_truthy_bool → OH, IsZip → OI, backTo → OL, rawInt → OQ, binaryOp → OR, wpAny_rule → OW, wpAny_holding → O1, attributeBase → O2, wpAny_attempt → O4, builtinLookup_eq_fast → O7, wpAny_pyIter_list → O8, sysModules → Pa, wpAny_of_eq → Pb, wpAny_updateSeq_pair → Pc, swapsWith → Pe, pyNext → Pk, wpAny_Call_Name_kw → Pr, tupleKind_room_in1 → Pu, sliceBounds → Py, wpAny_setField → PL, swapsWithSole → P7, swappedStores → P8, NameKind → Qb, wpAny_execs_nil → Qg, letOwnedTupleGo → Qh, wpAny_specialOf → Qi, typeLookup_type → Qo, getItem → Qw, Builtin → Qy, seqIndex? → QB, assign → QE, isSubtype_type → QO, holding → QX, codeAny → QY, wpAny_standAt → Q7, intBits_le_64 → Q8, wpAny_onRaise → Rb, noFill_tuple_add → Rm, DictEntry → Rp, wpAny_Call_method0_late → Ry, Paired → RC, wpAny_pyNext_list_item → RE, concat_meets → RG, callerA → RK, IsEnum → RP, codeAny_builtin → R0, wpAny_isTrue_Compare1 → R5, wpAny_pyNext_list_end → R6, wpAny_loadName_local → Sd, subscripted → Sf, field → Sh, firstArgMember → Sj, wpAny_letGo → Sk, isSubtype_stop → Sl, tupleKind → Sz, Keyword → SA, valueAt → SD, wpAny_loadName_cell → SF, evalArgs_none → SI, assignInOrder → SM, seq_tuple_add → SN, plainId_quiet → S1, typeLookup → S7, wpAny_pyIter_tuple → S9, getattributeRaised → Tj, BindsTo → Tw, codeAny_mono → Tx, wpAny_sequenceKey → TF, seqIndex_neg → TH, slot_list_getitem → TJ, setField → TZ, wpAny_pyIter_enum → T3, wpAny_execs_cons → Ua, PassesOwn → Ub, wpAny_pyIter_zip → Uj, CmpOp → Up, seqIndex_of → Uq, keywordEach → Ur, atKey → Us, builtinsNs → UG, wpAny_Name → UH, Operator → UI, bindName → UJ, bindL → UL, bindC → UM, call_meets → UO, call → UP, compEnvC → UR, compPost → US
open PySem.Heap renaming get?_push_of_some → MP, get?_push_size → MW, lt_size → M1, size_push → OS, SameBut → OV, get?_update_other → OY, get?_update_self → O5, ExtBut → Si
open False renaming elim → MR
open List renaming mem_cons_self → MS, mem_cons_of_mem → MU, mem_singleton → MV, length_map → MX, mem_cons → MY, getElem?_eq_getElem → MZ, mem_map → M3, size_toArray → M5, mem_filter → M8, mem_append_right → Ng, map_cons → Ni, length_cons → Nk, getElem?_eq_some_iff → Nm, length_append → Nt, getElem?_map → Nv, not_mem_nil → Ny, nodup_cons → NB, find?_cons → NC, map_append → NG, map_map → NL, mem_append → NM, append_nil → NN, mem_zipIdx_iff_getElem? → NP, length → NZ, replicate → N8, drop_eq_getElem_cons → Ob, lookup_cons → Od, mem_append_left → Og, mem_of_getElem? → Oh, filter_cons → Ot, any_eq_true → Ou, ext_getElem → Ov, getElem?_append_right → Ow, length_filter_le → OA, getElem?_append_left → OB, getElem?_set_ne → OG, range → OK, any_cons → O3, getElem?_eq_none_iff → Ph, map_congr_left → Pl, nil_append → Pq, getElem?_cons_zero → Pz, getElem?_cons_succ → PB, getElem?_set_self → PF, length_replicate → PR, length_take → PY, drop_length → P0, all_eq_true → P1, getElem_mem → P6, forIn_cons → Qk, filterMap_cons → Qp, length_reverse → Qt, filter_sublist → Qu, mem_range → QC, find?_eq_none → QM, mem_of_find?_eq_some → QS, nodup_append → Q4, reverse_perm → Q6, sublist_append_left → Rj, getElem?_replicate → Rk, cons_append → Rt, eraseIdx_cons_succ → RB, zipWith → RM, filter_eq_nil_iff → RU, sublist_cons_self → RV, of_mem_zip → RW, length_singleton → R7, getElem?_zipWith → R8, filterMap_eq_map → Sa, mem_iff_getElem → Sr, mem_of_mem_take → Sv, length_zipWith → SH, mem_filterMap → S4, pairwise_cons → Tn, take_sublist → Tz, reverse_cons → TK, map → TR, getElem?_inj → T7, getElem_inj → T9, length_drop → Ue, zipIdx_cons → Ui, map_reverse → Uo, append → Uu, zipIdx_nil → Uz, foldl_cons → UC, forIn_nil → UT, map_nil → Vd, set → Vp
open Iff renaming rfl → MT
open Nat renaming le_refl → M0, lt_of_lt_of_le → M9, ne_of_lt → Na, le_trans → NR, zero_le → N0, ne_of_gt → OX, lt_irrefl → Pn, succ_lt_succ_iff → Qc, min_le_left → Qj, succ_le_succ → Rn, reduceLeDiff → Ru, zero_lt_succ → Rv, le_of_lt → RD, sub_self → RL, zero_lt_one → RY, le_succ → Sg, lt_add_one → So, reduceSub → SR, reduceAdd → SS, lt_trans → TL, reduceLT → TU, le_of_dvd → U6, zero_add → Vj
open PySem.PyData renaming strOk → M7, eqv → ON, eqvAll → Ra, canLayAll0 → TM, depthAll → Uy, canLay0 → UQ
open Int renaming gcd → Nj, mul_le_mul_of_nonneg_right → NV, le_refl → N6, mul_left_comm → Oj, gcd_pos_of_ne_zero_right → Om, ediv_eq_of_eq_mul_right → Oo, mul_pos → Oq, natCast_nonneg → Oz, le_of_mul_le_mul_left → OD, mul_fdiv_cancel_left → OO, eq_ofNat_of_zero_le → OT, mul_neg_of_pos_of_neg → Pj, lt_trichotomy → PM, mul_assoc → P9, mul_le_mul_of_nonneg_left → Qe, mul_ediv_mul_of_pos_left → Qn, toNat_of_nonneg → Qs, dvd_gcd_mul_iff_dvd_mul → Qz, mul_lt_mul_of_pos_right → QA, lt_of_mul_lt_mul_right → QL, gcd_ediv_gcd_ediv_gcd → QR, lt_of_mul_lt_mul_left → QT, toNat_natCast → QZ, add_mul → Q2, ediv_one → RH, mul_comm → RO, reduceToNat → RZ, natAbs_dvd_natAbs → R9, mul_le_mul → Ss, mul_nonneg → Su, reducePow → SV, reduceNeg → SW, reduceSub → SX, reduceAdd → SY, reduceMul → S0, natAbs_natCast → Tf, gcd_zero_right → Tg, reduceEq → TV, le_of_lt → TX, gcd_dvd_right → TY, gcd_dvd_left → Uk, neg_mul_neg → UA, natAbs_mul → UW, gcd_comm → Vg
open Option.some renaming inj → Nl
open PySem.Builtin.SmallTypes renaming nextOf → Nn, ownedTupleIsFree → Nz, ownedTupleHandOut → NY
open Ne renaming symm → Np
open Rat renaming le_trans → Nq, intCast_le_intCast → NK, intCast_mul → NO, le_of_mul_le_mul_right → NT, natCast_add → N2, le_refl → Oa, zero_mul → OJ, mul_le_mul_of_nonneg_right → OU, le_of_lt → OZ, natCast_le_natCast → PQ, mul_le_mul_of_nonneg_left → Qf, divInt → QN, mul_one → Q3, add_zero → RR, not_le → RS, intCast_nonneg → Tp, inv_mul_cancel → Tq, not_lt → Tr, mul_comm → T4, zero_add → T5, le_antisymm → UB, mul_nonneg → UX, mul_assoc → U7
open PySem.Value renaming ref → Nr, isStrOf → O0, none → O9, str → Sy, bool → S2, int → T8, isInt → Vk, type → Vr
open PySem.PassesOwn renaming never → NA
open PyProof.Rows renaming slot_tuple_getitem → NF, callWith_type1 → N7, kindOf → PX, assignInOrder_cons → QF, envOfC → QH, AllBare → QW, intBits_le → Rq, subscriptTail_builtinR → RI, entry_tuple_getitem → SG, IsTup → SK, subscriptTail → SO, args_tuple_getitem → S6, assignInOrder_nil → Tu, callWith_builtin1 → Ud, IntsAre → UE, Subscript_ → UN, getItem_tuple → UY, len_tuple → Vi
open Bool renaming and_eq_true → NI, false_eq_true → Pw, beq_eq_decide_eq → PU, false_ne_true → QG, and_self → Rc, and_true → Rf, true_and → Rg, eq_iff_iff → R4, not_false → Sn, not_true → SU, false_and → UK, or_false → U0, false_or → U2, true_or → Ve
open Classical renaming byContradiction → Oc, propDecidable → PD
open PySem.NameKind renaming free → Of, cell → SQ
open ForInStep renaming yield → Ol
open PySem.F renaming slot_tuple_iterator_next → Ox, slot_enumerate_next → O6, plain_reversed_new → Pd, args_tuple_add_2 → Po, slot_list_getattribute → Pp, entry_tuple_add → Px, slot_tuple_add → PJ, args_tuple_iterator_next_1 → Ql, slot_zip_next → Qm, entry_tuple_iterator_next → Qx, slot_tuple_getitem → QP, slot_dict_values → Rh, plainAttrs_list → Rr, args_enumerate_next_1 → Rx, plainAttrs_dict → Rz, slot_dict_items → RA, entry_enumerate_next → RQ, made_reversed → Sb, args_zip_next_1 → TQ, entry_zip_next → Uh
open PySem.Obj renaming data_mapFields → Oy, isFreed_of_fields → PV, mapSeq → RJ, cls_mapFields → TN
open PySem.Builtin.Slice renaming slicePlaces → OC, sliceAdjust → Pg, sliceApplied → QI, slicePartIndex → Uw, sliceFields → UZ
open PySem.Builtin.Tuple renaming tupleExact → OM, tupleItemsOf → QJ, tupleIsExact → UU
open PySem.Calls renaming callWith_builtin → PK, Name_function_global → QD, spliced_cons → S5, spliced_nil → Tv
open Or renaming inr → PZ, inl → QK
open Prod.mk renaming injEq → Qa
open PySem.Around renaming under_plainId → Qd, in1_units → Um
open Array renaming length_toList → Qq, append_assoc → S3, toList → Vc
open PySem.Heap.SameBut renaming update → Qr
open Sum renaming inr → QU, inl → Sw
open Option renaming isSome_map → Q1, isSome_iff_exists → Q9, getD_none → Ug, none → Vn
open Function renaming comp_def → Q5
open List.cons renaming inj → Ri
open PySem.Builtin.Dict renaming updateFrom → Rw, addKeywords → U4, selfAndRest → U5, pairItems → Vh
open PySem.Paired renaming length → SJ, snoc → Vo
open True renaming intro → S8
open List.Pairwise renaming map → T6, of_map → Vq, nil → Vv
open PySem.SeqAt renaming eqAt_reads → Ul, EqAt → Vu
open PySem.Shared renaming heap → Ut
open PySem.Heap.DictOf renaming new → Ux
open List.Perm renaming trans → UD
open List.Sublist renaming append_left → U9, refl → Vx
open PySem.Builtin.Range renaming rangeSize → Va
open PySem.CmpOp renaming NotIn → Vm
open PySem.Heap.IsSliceOf renaming new → Vs
open PySem.W.WShape renaming has → Vt
open PySem.Slot renaming of → Vw
namespace L2
open PySem PySem.Spec PyProof.Rows
abbrev Key:=Sum Int Str
def lZ:Key->MN->Bool
 | .inl k,v=>Vk k v
 | .inr x,v=>O0 x v
def L7 (w:Nw):Key->Int
 | .inl k=>hashInt k
 | .inr x=>hashStr w x
theorem a8:∀ {k:Key} {v:MN},lZ k v=true->(∃ i t,k=Sw i/\v=T8 i t)∨(∃ x t,k=QU x/\v=Sy x t)
 | .inl i,v,h=>by
  obtain ⟨t,e⟩:=Value.isInt_shape (k:=i) (v:=v) h
  exact .inl ⟨i,t,rfl,e⟩
 | .inr x,v,h=>by
  obtain ⟨t,e⟩:=Value.isStrOf_shape (x:=x) (v:=v) h
  exact .inr ⟨x,t,rfl,e⟩
theorem yd (i:Int)(t:Tok):lZ (.inl i) (.int i t)=true:=by simp[lZ,Vk]
theorem yM (x:Str)(t:Tok):lZ (.inr x) (.str x t)=true:=by simp[lZ,O0]
theorem Ga (a b:Int):decide ((Sw a:Key)=Sw b)=(a == b):=by
 by_cases e:a=b
 ·subst e;simp
 ·have h:¬ (Sw a:Key)=Sw b:=λq=>e (Sum.inl.inj q)
  rw[decide_eq_false h]
  exact (beq_eq_false_iff_ne.mpr e).symm
theorem GG (a b:Str):decide ((QU a:Key)=QU b)=decide (a=b):=by
 by_cases e:a=b
 ·subst e;simp
 ·have h:¬ (QU a:Key)=QU b:=λq=>e (Sum.inr.inj q)
  rw[decide_eq_false h,decide_eq_false e]
theorem Ip (a:Int)(b:Str):decide ((Sw a:Key)=QU b)=false:=decide_eq_false (λq=>nomatch q)
theorem Jm (a:Str)(b:Int):decide ((QU a:Key)=Sw b)=false:=decide_eq_false (λq=>nomatch q)
def aS (prog:Nh)(w:Nw):PySem.KeyKind prog w Key where
 is:=lZ
 hash:=L7 w
 inj:=λv a b ha hb=>by
  rcases a8 ha with ⟨i,t,rfl,rfl⟩ | ⟨x,t,rfl,rfl⟩
  ·rcases a8 hb with ⟨j,u,rfl,e⟩ | ⟨y,u,rfl,e⟩
   ·injection e with e1 _;rw[e1]
   ·exact nomatch e
  ·rcases a8 hb with ⟨j,u,rfl,e⟩ | ⟨y,u,rfl,e⟩
   ·exact nomatch e
   ·injection e with e1 _;rw[e1]
 byValue:=λk v h=>by
  rcases a8 h with ⟨i,t,rfl,rfl⟩ | ⟨x,t,rfl,rfl⟩ <;> rfl
 pyHash:=λhv h=>by
  rcases a8 hv with ⟨i,t,rfl,rfl⟩ | ⟨x,t,rfl,rfl⟩
  ·exact wpAny_pyHash_int h
  ·exact wpAny_pyHash_str h
 eqBool:=λhu hv h=>by
  rcases a8 hu with ⟨i,t,rfl,rfl⟩ | ⟨x,t,rfl,rfl⟩
  ·rcases a8 hv with ⟨j,u,rfl,rfl⟩ | ⟨y,u,rfl,rfl⟩
   ·rw[Ga] at h;exact wpAny_eqBool_int h
   ·rw[Ip] at h;exact SeqAt.EqAt.int_str i t y u _ _ _ _ h
  ·rcases a8 hv with ⟨j,u,rfl,rfl⟩ | ⟨y,u,rfl,rfl⟩
   ·rw[Jm] at h;exact SeqAt.EqAt.str_int x t j u _ _ _ _ h
   ·rw[GG] at h;exact wpAny_eqBool_str h
 «strs»:=λk x t v h=>by
  rcases a8 h with ⟨i,u,rfl,e⟩ | ⟨y,u,rfl,e⟩
  ·exact nomatch e
  ·injection e with e1 _
   subst e1
   cases v<;>rfl
theorem sT (prog:Nh)(w:Nw)(i:Int)(t:Tok):(aS prog w).is (.inl i) (.int i t)=true:=yd i t
theorem tL (prog:Nh)(w:Nw)(x:Str)(t:Tok):(aS prog w).is (.inr x) (.str x t)=true:=yM x t
end L2
namespace L2
open PySem PySem.Spec PyProof.Rows
inductive V where
 | non | bl (b:Bool) | int (i:Int) | str (x:Str) | byt (b:Array UInt8) | flt (b:UInt64) | ref (a:Addr) | ty (n:String)
 deriving DecidableEq
def RelV:V->MN->Prop
 | .non,u=>u=O9
 | .bl b,u=>u=S2 b
 | .int i,u=>∃ t,u=T8 i t
 | .str x,u=>∃ t,u=Sy x t
 | .byt b,u=>∃ t,u=Value.bytes b t
 | .flt b,u=>∃ t,u=Value.float b t
 | .ref a,u=>u=Nr a
 | .ty n,u=>u=Vr n
abbrev Vals:List V->List MN->Prop:=RC RelV
theorem Vals.length {xs:List V}{us:List MN}(r:Vals xs us):xs.length=us.length:=SJ r
theorem Vals.get:∀ {xs:List V} {us:List MN} {i:Nat} {x:V},Vals xs us->xs[i]? = some x->∃ u,us[i]? = some u/\RelV x u
 | _,_,_,_,.nil,e=>by simp at e
 | _,_,0,_,.cons r _,e=>by simp at e;subst e;exact ⟨_,rfl,r⟩
 | _,_,i+1,x,.cons _ t,e=>by
  obtain ⟨u,h1,h2⟩:=Vals.get (i:=i) (x:=x) t (by simpa using e)
  exact ⟨u,by simpa using h1,h2⟩
theorem Vals.set {x:V}{u:MN}(r:RelV x u):∀ {xs:List V} {us:List MN} (i:Nat),Vals xs us->Vals (xs.set i x) (us.set i u)
 | _,_,_,.nil=>.nil
 | _,_,0,.cons _ t=>.cons r t
 | _,_,i+1,.cons q t=>.cons q (Vals.set r i t)
theorem Vals.append:∀ {xs ys:List V} {us ws:List MN},Vals xs us->Vals ys ws->Vals (xs++ys) (us++ws)
 | _,_,_,_,.nil,s=>s
 | _,_,_,_,.cons r t,s=>.cons r (Vals.append t s)
theorem Vals.take:∀ {xs:List V} {us:List MN} (n:Nat),Vals xs us->Vals (xs.take n) (us.take n)
 | _,_,0,_=>.nil
 | _,_,_+1,.nil=>.nil
 | _,_,n+1,.cons r t=>.cons r (Vals.take n t)
theorem Vals.drop:∀ {xs:List V} {us:List MN} (n:Nat),Vals xs us->Vals (xs.drop n) (us.drop n)
 | _,_,0,r=>r
 | _,_,_+1,.nil=>.nil
 | _,_,n+1,.cons _ t=>Vals.drop n t
def gD:Option V->Option MN->Prop
 | some v,some u=>RelV v u
 | none,none=>True
 | _,_=>False
def KV {κ:Type}:List (κ×V)->List (κ×MN)->Prop:=RC λ(p:κ×V) (q:κ×MN)=>p.1=q.1/\RelV p.2 q.2
def kV:Key->V
 | .inl i=>.int i
 | .inr x=>.str x
inductive HO where
  | lst (xs:List V)
  | tup (xs:List V)
  | dK (kvs:List (Key×V)) | dT (kvs:List (List Key×V))
  | set (S:Int->Bool) (n:Nat)
  | ins (C dx:Addr) (fs:List (Str×V))
  | own (x:Addr)
  | xd (fs:List (Str×V))
  | met (f x:Addr)
  | rng (lo hi:Int)
  | frz (o:Obj) (u:HO)
  | tbl (ps:Array MN)
  | ext (φ:Heap->Prop)
abbrev Hp:=Addr->Option HO
def upd (H:Hp)(a:Addr)(o:HO):Hp:=λb=>if b=a then some o else H b
theorem aC {H:Hp}{a:Addr}{o:HO}:upd H a o a=some o:=by unfold upd;rw[if_pos rfl]
theorem az {H:Hp}{a b:Addr}{o:HO}(h:b≠a):upd H a o b=H b:=by unfold upd;rw[if_neg h]
theorem qo {H:Hp}{a:Addr}{o u:HO}:upd (upd H a o) a u=upd H a u:=by
 funext b;unfold upd;split<;>rfl
theorem Kg {H:Hp}{a b:Addr}{o u:HO}(h:H a=some o)(h':H b=some u)(d:o≠u):a≠b:=by
 intro e;subst e;rw[h] at h';exact d (Nl h')
theorem aR {H:Hp}{a b:Addr}{o:HO}(h:H a=some o)(h':H b=none):a≠b:=by
 intro e;subst e;rw[h] at h';cases h'
def sY (h:Heap)(a:Addr)(items:Array MN):Prop:=∃ n,h.get? a=some { cls:=.type "tuple", data:=.seq items n }
theorem sY.tup {h:Heap}{a:Addr}{items:Array MN}(p:sY h a items):SK h a items:=by obtain ⟨n,e⟩:=p;exact ⟨_,e,rfl,n,rfl⟩
theorem sY.new (h:Heap)(items:Array MN):sY (h.push { cls:=.type "tuple", data:=.seq items }) h.objs.size items:=⟨_,MW _ rfl⟩
section
variable (P:Nh) (w:Nw)
def bj (H:Hp)(h:Heap)(a:Addr):HO->Prop
 | .lst xs=>xs.length<=sizeLine/\∃ (its:List MN) (n:Nat),Vals xs its/\h.get? a=some { cls:=.type "list", data:=.seq its.toArray n }
 | .tup xs=>xs.length<=sizeLine/\∃ its:List MN,Vals xs its/\sY h a its.toArray
 | .dK kvs=>kvs.length<=sizeLine/\(a == Pa)=false/\∃ vs,KV kvs vs/\h.DictOf (aS P w) a vs
 | .dT kvs=>kvs.length<=sizeLine/\(a == Pa)=false/\∃ xs:List (List Key×Addr×MN),
   RC (λ(p:List Key×V) (q:List Key×Addr×MN)=>p.1=q.1/\H q.2.1=some (.tup (p.1.map kV))/\RelV p.2 q.2.2) kvs xs/\
   ∃ o es ep,h.get? a=some o/\o.ExactDict/\o.data=.dict es ep/\es.toList=xs.map (entryOfKey (Sz (aS P w)))/\(xs.map (·.1)).Nodup
 | .set S n=>h.SetOf (intKind P w) a S n
 | .ins C dx fs=>H dx=some (.own a)/\fs.length<=1000/\dx≠a/\h.get? a=some (Uv C dx)/\
   ∃ mA,h.Ns1 dx mA/\(∀ f,gD (fs.lookup f) (mA f))/\PySem.Within mA (fs.map (·.1))
 | .own _=>∃ o,h.get? a=some o
 | .xd fs=>∃ mA,h.Ns1 a mA/\∀ f,gD (fs.lookup f) (mA f)
 | .rng lo hi=>∃ t u v,h.get? a=some { cls:=.type "range", data:=.fields #[.int lo t,.int hi u,.int 1 v] }
 | .frz o u=>h.get? a=some o/\bj H h a u
 | .tbl ps=>h.get? a=some { cls:=.none,data:=.fields ps }
 | .met f x=>h.get? a=some (QV (.ref f) (.ref x))
 | .ext φ=>φ h/\(∃ o,h.get? a=some o)/\∀ h1 h2:Heap,φ h1->(∀ o,h1.get? a=some o->h2.get? a=some o)->φ h2
def HOk (H:Hp)(h:Heap):Prop:=∀ a o,H a=some o->bj P w H h a o
end
section
variable {P:Nh} {w:Nw} {H H':Hp} {h h':Heap} {a:Addr} {o:HO}
theorem bj.lt (x:bj P w H h a o):a < h.objs.size:=by
 cases o with
 | lst xs=>obtain ⟨_,_,_,_,e⟩:=x;exact M1 e
 | tup xs=>obtain ⟨_,_,_,p⟩:=x;exact p.tup.lt
 | dK kvs=>obtain ⟨_,_,_,_,o,_,_,e,_⟩:=x;exact M1 e
 | dT kvs=>obtain ⟨_,_,_,_,o,_,_,e,_⟩:=x;exact M1 e
 | set S n=>obtain ⟨o,_,_,_,e,_⟩:=x;exact M1 e
 | ins C dx fs=>obtain ⟨_,_,_,e,_⟩:=x;exact M1 e
 | own y=>obtain ⟨_,e⟩:=x;exact M1 e
 | xd fs=>obtain ⟨_,⟨_,_,_,e,_⟩,_⟩:=x;exact M1 e
 | rng lo hi=>obtain ⟨_,_,_,e⟩:=x;exact M1 e
 | frz ob u=>obtain ⟨e,_⟩:=x;exact M1 e
 | tbl ps=>exact M1 (show h.get? a=some _ from x)
 | met f y=>exact M1 (show h.get? a=some _ from x)
 | ext φ=>obtain ⟨_,⟨_,e⟩,_⟩:=x;exact M1 e
theorem RC.Ik {α β:Type}{F G:α->β->Prop}:∀ {l₁:List α} {l₂:List β},RC F l₁ l₂->(∀ a b,F a b->G a b)->RC G l₁ l₂
 | _,_,.nil,_=>.nil
 | _,_,.cons r t,f=>.cons (f _ _ r) (RC.Ik t f)
theorem bj.jj (x:bj P w H h a o)(k:∀ b u,(b=a∨H b=some (.own a))->h.get? b=some u->h'.get? b=some u)
  (ho:∀ b,H b=some (.own a)->H' b=some (.own a)) (ht:∀ b xs,H b=some (.tup xs)->H' b=some (.tup xs)):bj P w H' h' a o:=by
 induction o with
 | lst xs=>obtain ⟨z,its,n,r,e⟩:=x;exact ⟨z,its,n,r,k _ _ (.inl rfl) e⟩
 | tup xs=>obtain ⟨z,its,r,m,e⟩:=x;exact ⟨z,its,r,m,k _ _ (.inl rfl) e⟩
 | dK kvs=>obtain ⟨z,y,vs,r,ob,es,ep,e,c⟩:=x;exact ⟨z,y,vs,r,ob,es,ep,k _ _ (.inl rfl) e,c⟩
 | dT kvs=>
  obtain ⟨z,y,xs,r,ob,es,ep,e,c⟩:=x
  exact ⟨z,y,xs,RC.Ik r λp q z=>⟨z.1,ht _ _ z.2.1,z.2.2⟩,ob,es,ep,k _ _ (.inl rfl) e,c⟩
 | set S n=>obtain ⟨ob,es,ep,t,e,c⟩:=x;exact ⟨ob,es,ep,t,k _ _ (.inl rfl) e,c⟩
 | ins C dx fs=>
  obtain ⟨d,z,ne,e,mA,⟨od,es,ep,e2,c⟩,r⟩:=x
  exact ⟨ho _ d,z,ne,k _ _ (.inl rfl) e,mA,⟨od,es,ep,k _ _ (.inr d) e2,c⟩,r⟩
 | own y=>obtain ⟨ob,e⟩:=x;exact ⟨ob,k _ _ (.inl rfl) e⟩
 | xd fs=>obtain ⟨mA,⟨od,es,ep,e,c⟩,r⟩:=x;exact ⟨mA,⟨od,es,ep,k _ _ (.inl rfl) e,c⟩,r⟩
 | rng lo hi=>obtain ⟨t,u,v,e⟩:=x;exact ⟨t,u,v,k _ _ (.inl rfl) e⟩
 | frz ob u ih=>obtain ⟨e,q⟩:=x;exact ⟨k _ _ (.inl rfl) e,ih q⟩
 | tbl ps=>
  have e:h.get? a=some { cls:=.none,data:=.fields ps }:=x
  show h'.get? a=some { cls:=.none,data:=.fields ps }
  exact k a _ (.inl rfl) e
 | met f y=>
  have e:h.get? a=some (QV (.ref f) (.ref y)):=x
  show h'.get? a=some (QV (.ref f) (.ref y))
  exact k a _ (.inl rfl) e
 | ext φ=>obtain ⟨p,⟨o,e⟩,st⟩:=x;exact ⟨st _ _ p λo q=>k _ _ (.inl rfl) q,⟨o,k _ _ (.inl rfl) e⟩,st⟩
theorem HOk.lt (x:HOk P w H h)(e:H a=some o):a < h.objs.size:=(x a o e).lt
theorem HOk.fresh (x:HOk P w H h)(e:h.objs.size<=a):H a=none:=by
 cases q:H a with
 | none=>rfl
 | some u=>exact absurd (M9 (x.lt q) e) (Pn _)
theorem HOk.kept (x:HOk P w H h)(k:∀ b u,h.get? b=some u->h'.get? b=some u):HOk P w H h':=λa o e=>
 (x a o e).jj (λb u _ q=>k b u q) (λ_ q=>q) λ_ _ q=>q
theorem HOk.laid (x:HOk P w H h)(k:∀ b u,h.get? b=some u->h'.get? b=some u)(hp:h.objs.size<=a)(new:bj P w (upd H a o) h' a o):HOk P w (upd H a o) h':=λb u e=>by
 have hn:=x.fresh hp
 by_cases hb:b=a
 ·subst hb;rw[aC] at e;cases e;exact new
 ·rw[az hb] at e
  exact (x b u e).jj (λc v _ q=>k c v q) (λc q=>by rw[az (aR q hn)];exact q) λc xs q=>by rw[az (aR q hn)];exact q
end
def Rd (H:Hp)(a:Addr)(u:HO):Prop:=H a=some u∨∃ o,H a=some (.frz o u)
theorem Rd.of {H:Hp}{a:Addr}{u:HO}(h:H a=some u):Rd H a u:=.inl h
theorem Rd.ok {P:Nh}{w:Nw}{H:Hp}{h:Heap}{a:Addr}{u:HO}(r:Rd H a u)(x:HOk P w H h):bj P w H h a u:=by
 rcases r with r | ⟨o,r⟩
 ·exact x a u r
 ·obtain ⟨_,q⟩:=x a _ r
  exact q
def Mut:Option HO->Prop
 | some (.lst _)=>True
 | some (.dK _)=>True
 | some (.dT _)=>True
 | some (.set _ _)=>True
 | some (.ins _ _ _)=>True
 | some (.ext _)=>True
 | _=>False
section
variable {P:Nh} {w:Nw} {H:Hp} {h h':Heap} {x e:Addr} {o':HO}
theorem HOk.write (ok:HOk P w H h)(mu:Mut (H x))(he:e=x∨H e=some (.own x))(k:∀ b u,b≠e->h.get? b=some u->h'.get? b=some u)(heo:∃ u,h'.get? e=some u)
  (new:bj P w (upd H x o') h' x o'):HOk P w (upd H x o') h':=λb u q=>by
 have Lw:∀ c y,H c=some (.own y)->c≠x:=λc y r z=>by subst z;rw[r] at mu;exact mu
 have ME:∀ c xs,H c=some (.tup xs)->c≠x:=λc xs r z=>by subst z;rw[r] at mu;exact mu
 by_cases hb:b=x
 ·subst hb;rw[aC] at q;cases q;exact new
 ·rw[az hb] at q
  by_cases hbe:b=e
  ·have q':H b=some (.own x):=by
    rcases he with z | z
    ·exact absurd (hbe.trans z) hb
    ·rw[hbe];exact z
   rw[q] at q';cases q'
   obtain ⟨v,hv⟩:=heo
   exact ⟨v,by rw[hbe];exact hv⟩
  ·refine (ok b u q).jj (λc v hc r=>k c v ?_ r) (λc r=>by rw[az (Lw c b r)];exact r) λc xs r=>by rw[az (ME c xs r)];exact r
   rcases hc with rfl | hc
   ·exact hbe
   ·rintro rfl
    rcases he with z | z
    ·exact Lw c b hc z
    ·rw[hc] at z;cases z;exact hb rfl
end
structure Un (fs ex:List Addr) (H H':Hp) (h h':Heap):Prop where
 keep:∀ b o,h.get? b=some o->H b=none->b ∉ fs->b ∉ ex->h'.get? b=some o
 slot:∀ b o,h.get? b=some o->H b=none->b∈fs->b ∉ ex->∃ sl,h'.get? b=some { o with slots:=sl }
 free:∀ b o,h.get? b=some o->H b=none->b ∉ ex->H' b=none
 there:∀ b o,h.get? b=some o->b ∉ ex->∃ o',h'.get? b=some o'
 j5:∀ b xs,H b=some (.tup xs)->H' b=some (.tup xs)
 js:∀ b o u,H b=some (.frz o u)->H' b=some (.frz o u)
 j6:∀ b ps,H b=some (.tbl ps)->∃ more,H' b=some (.tbl (ps++more))
section
variable {fs fs' ex ex':List Addr} {H H1 H2:Hp} {h h1 h2 h':Heap} {a x e:Addr} {o:HO}
theorem Un.any (u:Un fs ex H H1 h h1){b:Addr}{ob:Obj}(q:h.get? b=some ob)(n:H b=none)(hx:b ∉ ex):∃ sl,h1.get? b=some { ob with slots:=sl }:=by
 by_cases hb:b∈fs
 ·exact u.slot b ob q n hb hx
 ·exact ⟨ob.slots,u.keep b ob q n hb hx⟩
theorem Un.trans (a:Un fs ex H H1 h h1)(b:Un fs ex H1 H2 h1 h2):Un fs ex H H2 h h2 where
 keep:=λc ob q n hc hx=>b.keep c ob (a.keep c ob q n hc hx) (a.free c ob q n hx) hc hx
 slot:=λc ob q n hc hx=>by
  obtain ⟨sl,e1⟩:=a.slot c ob q n hc hx
  obtain ⟨sl',e2⟩:=b.slot c _ e1 (a.free c ob q n hx) hc hx
  exact ⟨sl',e2⟩
 free:=λc ob q n hx=>by
  obtain ⟨o',e1⟩:=a.there c ob q hx
  exact b.free c o' e1 (a.free c ob q n hx) hx
 there:=λc ob q hx=>by
  obtain ⟨o',e1⟩:=a.there c ob q hx
  exact b.there c o' e1 hx
 j5:=λc xs q=>b.j5 c xs (a.j5 c xs q)
 js:=λc ob xs q=>b.js c ob xs (a.js c ob xs q)
 j6:=λc ps q=>by
  obtain ⟨m1,e1⟩:=a.j6 c ps q
  obtain ⟨m2,e2⟩:=b.j6 c _ e1
  exact ⟨m1++m2,by rw[e2,S3]⟩
theorem Un.kept (k:∀ b u,h.get? b=some u->h'.get? b=some u):Un fs ex H H h h':=
 ⟨λb ob q _ _ _=>k b ob q,λb ob q _ _ _=>⟨ob.slots,k b ob q⟩,λ_ _ _ n _=>n,λb ob q _=>⟨ob,k b ob q⟩,λ_ _ q=>q,λ_ _ _ q=>q,λ_ ps q=>⟨#[],by rw[q];simp⟩⟩
theorem Un.refl:Un fs ex H H h h:=Un.kept λ_ _ q=>q
theorem Un.laid (k:∀ b u,h.get? b=some u->h'.get? b=some u)(hp:h.objs.size<=a)(hn:H a=none):Un fs ex H (upd H a o) h h' where
 keep:=λb u q _ _ _=>k b u q
 slot:=λb u q _ _ _=>⟨u.slots,k b u q⟩
 free:=λb u q n _=>by rw[az (Na (M9 (M1 q) hp))];exact n
 there:=λb u q _=>⟨u,k b u q⟩
 j5:=λb xs q=>by rw[az (aR q hn)];exact q
 js:=λb u xs q=>by rw[az (aR q hn)];exact q
 j6:=λb ps q=>⟨#[],by rw[az (aR q hn),q];simp⟩
theorem Un.write (mu:Mut (H x))(he:e=x∨H e=some (.own x))(k:∀ b u,b≠e->h.get? b=some u->h'.get? b=some u)(heo:∃ u,h'.get? e=some u):Un fs ex H (upd H x o) h h':=by
 have hx:∀ b,H b=none->b≠x:=λb n z=>by subst z;rw[n] at mu;exact mu
 have hb:∀ b,H b=none->b≠e:=λb n z=>by
  subst z
  rcases he with r | r
  ·exact hx b n r
  ·rw[n] at r;cases r
 have hm:∀ b u,H b=some u->¬ Mut (some u)->b≠x:=λb u q nm z=>by subst z;rw[q] at mu;exact nm mu
 refine ⟨λb u q n _ _=>k b u (hb b n) q,λb u q n _ _=>⟨u.slots,k b u (hb b n) q⟩,λb u q n _=>by rw[az (hx b n)];exact n,λb u q _=>?_,
  λb xs q=>by rw[az (hm b _ q λz=>z)];exact q,λb u xs q=>by rw[az (hm b _ q λz=>z)];exact q,λb ps q=>⟨#[],by rw[az (hm b _ q λz=>z),q];simp⟩⟩
 by_cases hbe:b=e
 ·subst hbe;exact heo
 ·exact ⟨u,k b u hbe q⟩
theorem Un.mono (u:Un fs ex H H1 h h1)(hs:∀ b∈fs,b∈fs')(hx:∀ b∈ex,b∈ex'):Un fs' ex' H H1 h h1:=
 ⟨λb ob q n hb he=>u.keep b ob q n (λz=>hb (hs b z)) λz=>he (hx b z),λ_ _ q n _ he=>u.any q n λz=>he (hx _ z),λb ob q n he=>u.free b ob q n λz=>he (hx b z),λb ob q he=>u.there b ob q λz=>he (hx b z),u.j5,u.js,u.j6⟩
end
def trk (h:Heap)(H:Hp):List Addr:=(OK h.objs.size).filter λa=>(H a).isSome
def qc (h:Heap)(H:Hp):Heap:=PySem.W.hideAll h (trk h H)
theorem yD (h:Heap)(H:Hp):(qc h H).objs.size=h.objs.size:=PySem.W.hideAll_size _ _
theorem BF {h:Heap}{H:Hp}{b:Addr}{o:Obj}(e:h.get? b=some o)(n:H b=none):(qc h H).get? b=some o:=
 PySem.W.hideAll_get _ e λhm=>by
  have q:(H b).isSome=true:=(M8.mp hm).2
  rw[n] at q;simp at q
theorem Es {h:Heap}{H:Hp}{b:Addr}{o:Obj}(e:(qc h H).get? b=some o):h.get? b=some o/\H b=none:=by
 have e':h.get? b=some o:=PySem.W.of_hideAll (trk h H) e
 refine ⟨e',?_⟩
 cases q:H b with
 | none=>rfl
 | some x=>
  have hm:b∈trk h H:=M8.mpr ⟨QC.mpr (M1 e'),by simp[q]⟩
  have z:(qc h H).get? b=none:=PySem.W.hideAll_none (trk h H) hm
  rw[z] at e;cases e
def Dw (g h:Heap)(L:Addr):List (Addr×Obj):=(OK h.objs.size).filterMap λa=>if a=L∨(g.get? a).isSome=true then none else (h.get? a).map λo=>(a,o)
def rest (g h:Heap)(L d:Addr):List (Addr×Obj):=(Dw g h L).filter λp=>decide (p.1≠d)
end L2
namespace L2
open PySem PySem.Spec PyProof.Rows
structure Mod (K:ML) (mg:Str->Option MN) (base:Heap):Prop where
 kin:K.In base
 glob:base.Ns N4 mg
 blt:∃ mb,base.Ns UG mb/\∀ x:Str,x ≠ "__name__" -> mb x=OF x
 nolimit:base.NoLimit
structure Cx where
 prog:Nh
 w:Nw
 K:ML
 mg:Str->Option MN
 base:Heap
 A:NH
 N:List Str
 s₀:MQ
 H₀:Hp
 env:Env
 outer:List Env
 stack:List Env
 ex:List Addr
 fn:Str->Bool
 calm:Bool
 pn:List (Addr×Obj)
 xe:MN->MQ->Prop
def frs (l:List Env):List Addr:=l.filterMap (·.frame)
abbrev Cx.fs (X:Cx):List Addr:=frs X.outer
def Vis (sc:Scope)(x:Str):Prop:=sc.names.lookup x=some .local∨sc.names.lookup x=some .cell∨sc.names.lookup x=some .free
def Loc (sc:Scope)(x:Str):Prop:=sc.names.lookup x=some .local∨sc.names.lookup x=some .cell
def Look (env:Env)(h:Heap)(m:Str->Option MN)(x:Str)(u:MN):Prop:=
 (env.kindOf x=some .local/\m x=some u)∨((env.kindOf x=some .cell∨env.kindOf x=some .free)/\∃ c,env.cells.lookup x=some c/\h.IsCell c (some u))
structure Cx.Ok (X:Cx):Prop where
 mod:Mod X.K X.mg X.base
 kind:X.env.scope.kind=.function
 glob:X.env.globals=N4
 blt:X.env.builtins=UG
 above:X.s₀.heap.objs.size<=X.env.locals
 inj:∀ x y c,X.env.cells.lookup x=some c->X.env.cells.lookup y=some c->x=y
 has:∀ x,(X.env.kindOf x=some .cell∨X.env.kindOf x=some .free)->∃ c,X.env.cells.lookup x=some c
 cab:∀ x c,X.fn x=true->X.env.cells.lookup x=some c->X.s₀.heap.objs.size<=c
 hd:X.calm=true->X.A.handled=none
 frames:X.A.frames=some X.stack
 stk:X.stack=X.outer∨(X.stack=X.env::X.outer/\X.env.frame=some X.env.locals)
 exf:∀ b∈X.ex,b≠X.env.locals/\∀ x c,X.env.cells.lookup x=some c->c≠b
 bs:∀ b o,X.base.get? b=some o->X.s₀.heap.get? b=some o/\X.H₀ b=none
 bsz:X.base.objs.size<=X.s₀.heap.objs.size
 Bk:∀ b o,X.base.get? b=some o->b ∉ X.ex
 CQ:∀ b∈X.ex,b ∉ X.fs
 mx:X.s₀.heap.FunFrames X.base X.outer
 frf:∀ b∈X.fs,X.H₀ b=none
structure Inv (X:Cx) (pins:List (Addr×Obj)) (σ:List (Option V)) (H:Hp) (s:MQ):Prop where
 ok:X.Ok
 os:s.os=X.s₀.os
 bare:QW s.gens
 base:Un X.fs X.ex X.H₀ H X.s₀.heap s.heap
 loc:∃ m,s.heap.Ns X.env.locals m/\∀ (i:Nat) (x:Str) (v:V),X.N[i]? = some x->σ[i]? = some (some v)->Vis X.env.scope x->∃ u,RelV v u/\Look X.env s.heap m x u
 cell:∀ x c,X.env.cells.lookup x=some c->∃ v,s.heap.IsCell c v
 free:H X.env.locals=none
 fJ:∀ x c,X.env.cells.lookup x=some c->H c=none
 pin:∀ p∈X.pn++pins,s.heap.get? p.1=some p.2/\H p.1=none/\p.1≠X.env.locals/\p.1 ∉ X.fs/\∀ v,p.2.data≠.cell v
 hok:HOk X.prog X.w H s.heap
 len:σ.length=X.N.length
section
variable {X:Cx} {pins:List (Addr×Obj)} {σ:List (Option V)} {H H':Hp} {s:MQ} {h':Heap}
theorem Cx.Ok.Mt (ok:X.Ok){b:Addr}{o:Obj}(e:X.base.get? b=some o):b ∉ X.fs:=λhb=>by
 have:=(ok.mx.mem hb).1
 rw[e] at this;cases this
theorem Inv.bs (I:Inv X pins σ H s):∀ b o,X.base.get? b=some o->s.heap.get? b=some o/\H b=none:=λb o e=>
 ⟨I.base.keep b o (I.ok.bs b o e).1 (I.ok.bs b o e).2 (I.ok.Mt e) (I.ok.Bk b o e),I.base.free b o (I.ok.bs b o e).1 (I.ok.bs b o e).2 (I.ok.Bk b o e)⟩
theorem Inv.bk (I:Inv X pins σ H s):∀ b o,X.base.get? b=some o->s.heap.get? b=some o:=λb o e=>(I.bs b o e).1
theorem Inv.mod (I:Inv X pins σ H s):Mod X.K X.mg X.base:=I.ok.mod
theorem Inv.kIn (I:Inv X pins σ H s):X.K.In s.heap:=I.ok.mod.kin.keeps I.bk
theorem Inv.nolimit (I:Inv X pins σ H s):s.heap.NoLimit:=I.ok.mod.nolimit.keeps I.bk
theorem Inv.fr (I:Inv X pins σ H s):∃ m,Fr X.base X.env.locals s.heap m:=
 let ⟨m,hn,_⟩:=I.loc
 ⟨m,hn,I.bk,NR I.ok.bsz I.ok.above⟩
theorem Inv.lt (I:Inv X pins σ H s):X.env.locals < s.heap.objs.size:=let ⟨_,hn,_⟩:=I.loc;hn.lt
theorem Inv.sz (I:Inv X pins σ H s):X.s₀.heap.objs.size<=s.heap.objs.size:=NR I.ok.above (RD I.lt)
theorem Inv.Mw (I:Inv X pins σ H s){a:Addr}(h:s.heap.objs.size<=a):a ∉ X.fs:=λhb=>by
 obtain ⟨_,o,ho,_⟩:=I.ok.mx.mem hb
 exact absurd (M9 (M1 ho) (NR I.sz h)) (Pn _)
theorem Inv.cne (I:Inv X pins σ H s):∀ x c,X.env.cells.lookup x=some c->c≠X.env.locals:=λx c e z=>by
 obtain ⟨v,o,ho,hd⟩:=I.cell x c e
 obtain ⟨m,⟨o',es,ep,ho',hd',_⟩,_⟩:=I.loc
 rw[z,ho'] at ho;cases ho;rw[hd'] at hd;cases hd
theorem Inv.mx (I:Inv X pins σ H s):s.heap.FunFrames X.base X.outer:=by
 have all:∀ (l:List Env),(∀ b∈frs l,b∈X.fs)->X.s₀.heap.FunFrames X.base l->s.heap.FunFrames X.base l:=by
  intro l
  induction l with
  | nil=>intro _ _;trivial
  | cons env r ih=>
   intro hs hl
   obtain ⟨hk,⟨L,o,hf,hn,ho,hd⟩,hr⟩:=hl
   have hL:L∈X.fs:=hs L (by unfold frs;rw[Qp,hf];exact MS)
   obtain ⟨sl,e⟩:=I.base.slot L o ho (I.ok.frf L hL) hL λz=>I.ok.CQ L z hL
   exact ⟨hk,⟨L,_,hf,hn,e,hd⟩,ih (λb hb=>hs b (by unfold frs;rw[Qp,hf];exact MU _ hb)) hr⟩
 exact all X.outer (λ_ hb=>hb) I.ok.mx
theorem Inv.stack (I:Inv X pins σ H s):s.heap.FunFrames X.base X.stack:=by
 rcases I.ok.stk with e | ⟨e,hf⟩
 ·rw[e];exact I.mx
 ·rw[e]
  obtain ⟨m,hn,_⟩:=I.loc
  refine .cons (by rw[I.ok.kind];decide) hf hn ?_ I.mx
  exact Heap.get?_none_of_le (NR I.ok.bsz I.ok.above)
theorem Inv.uM (I:Inv X pins σ H s):∀ b∈frs X.stack,b∈X.env.locals::X.fs:=λb hb=>by
 rcases I.ok.stk with e | ⟨e,hf⟩
 ·rw[e] at hb;exact MU _ hb
 ·rw[e] at hb
  unfold frs at hb
  rw[Qp,hf] at hb
  exact hb
theorem Inv.wY (I:Inv X pins σ H s):∀ b∈frs X.stack,H b=none:=λb hb=>by
 rcases MY.mp (I.uM b hb) with e | hb
 ·rw[e];exact I.free
 ·obtain ⟨_,o,ho,_⟩:=I.ok.mx.mem hb
  exact I.base.free b o ho (I.ok.frf b hb) λz=>I.ok.CQ b z hb
theorem Inv.step {g':Array GenState}{t':Nat}{d':Drawn}{ch:List Addr}(I:Inv X pins σ H s)
  (hch:∀ b∈ch,(b∈X.ex∨X.s₀.heap.objs.size<=b)/\b≠X.env.locals/\(∀ x c,X.env.cells.lookup x=some c->c≠b)/\∀ p∈X.pn++pins,p.1≠b)
  (keep:∀ b o,b≠X.env.locals->b ∉ X.fs->b ∉ ch->s.heap.get? b=some o->H b=none->h'.get? b=some o)
  (slot:∀ b o,b≠X.env.locals->b∈X.fs->b ∉ ch->s.heap.get? b=some o->H b=none->∃ sl,h'.get? b=some { o with slots:=sl }) (free:∀ b o,b ∉ ch->s.heap.get? b=some o->H b=none->H' b=none)
  (there:∀ b o,b ∉ ch->s.heap.get? b=some o->∃ o',h'.get? b=some o')
  (j5:∀ b xs,H b=some (.tup xs)->H' b=some (.tup xs)) (js:∀ b o u,H b=some (.frz o u)->H' b=some (.frz o u)) (j6:∀ b ps,H b=some (.tbl ps)->∃ more,H' b=some (.tbl (ps++more)))
  (ns:∀ m,s.heap.Ns X.env.locals m->h'.Ns X.env.locals m) (hok:HOk X.prog X.w H' h') (hg:QW g') :
  Inv X pins σ H' { s with heap:=h',gens:=g',drawn:=d',toks:=t' }:=by
 have neL:∀ b o,X.s₀.heap.get? b=some o->b≠X.env.locals:=λb o e=>Na (M9 (M1 e) I.ok.above)
 have neC:∀ b o,X.s₀.heap.get? b=some o->b ∉ X.ex->b ∉ ch:=λb o e hx hb=>by
  rcases (hch b hb).1 with z | z
  ·exact hx z
  ·exact absurd (M9 (M1 e) z) (Pn _)
 have cellK:∀ x c,X.env.cells.lookup x=some c->∀ v,s.heap.IsCell c v->h'.IsCell c v:=λx c e v ⟨o,ho,hd⟩=>by
  have nch:c ∉ ch:=λz=>(hch c z).2.2.1 x c e rfl
  by_cases hc:c∈X.fs
  ·obtain ⟨sl,q⟩:=slot c o (I.cne x c e) hc nch ho (I.fJ x c e)
   exact ⟨_,q,hd⟩
  ·exact ⟨o,keep c o (I.cne x c e) hc nch ho (I.fJ x c e),hd⟩
 refine ⟨I.ok,I.os,hg,⟨λb o e n hb hx=>?_,λb o e n hb hx=>?_,λb o e n hx=>?_,λb o e hx=>?_,λb xs e=>j5 b xs (I.base.j5 b xs e),λb o xs e=>js b o xs (I.base.js b o xs e),λb ps e=>?_⟩,?_,λx c e=>?_,?_,λx c e=>?_,λp hp=>?_,hok,I.len⟩
 ·exact keep b o (neL b o e) hb (neC b o e hx) (I.base.keep b o e n hb hx) (I.base.free b o e n hx)
 ·obtain ⟨sl,e1⟩:=I.base.slot b o e n hb hx
  obtain ⟨sl',e2⟩:=slot b _ (neL b o e) hb (neC b o e hx) e1 (I.base.free b o e n hx)
  exact ⟨sl',e2⟩
 ·obtain ⟨o',e1⟩:=I.base.there b o e hx
  exact free b o' (neC b o e hx) e1 (I.base.free b o e n hx)
 ·obtain ⟨o',e1⟩:=I.base.there b o e hx
  exact there b o' (neC b o e hx) e1
 ·obtain ⟨m1,e1⟩:=I.base.j6 b ps e
  obtain ⟨m2,e2⟩:=j6 b _ e1
  exact ⟨m1++m2,by rw[e2,S3]⟩
 ·obtain ⟨m,hn,hl⟩:=I.loc
  refine ⟨m,ns m hn,λi x v e1 e2 e3=>?_⟩
  obtain ⟨u,r,l⟩:=hl i x v e1 e2 e3
  refine ⟨u,r,?_⟩
  rcases l with l | ⟨k,c,e,z⟩
  ·exact .inl l
  ·exact .inr ⟨k,c,e,cellK x c e _ z⟩
 ·obtain ⟨v,z⟩:=I.cell x c e
  exact ⟨v,cellK x c e v z⟩
 ·obtain ⟨m,⟨o,_,_,ho,_⟩,_⟩:=I.loc
  exact free _ o (λz=>(hch _ z).2.1 rfl) ho I.free
 ·obtain ⟨v,o,ho,hd⟩:=I.cell x c e
  exact free c o (λz=>(hch c z).2.2.1 x c e rfl) ho (I.fJ x c e)
 ·obtain ⟨e,n,ne,nf,d⟩:=I.pin p hp
  have nch:p.1 ∉ ch:=λz=>(hch p.1 z).2.2.2 p hp rfl
  exact ⟨keep p.1 p.2 ne nf nch e n,free p.1 p.2 nch e n,ne,nf,d⟩
theorem Inv.un {t':Nat}(I:Inv X pins σ H s)(u:Un X.fs [] H H' s.heap h')(hok:HOk X.prog X.w H' h'):Inv X pins σ H' { s with heap:=h',toks:=t' }:=by
 obtain ⟨m,⟨o,es,ep,ho,r⟩,_⟩:=id I.loc
 obtain ⟨sl,hL⟩:=u.any ho I.free (by simp)
 exact I.step (g':=s.gens) (d':=s.drawn) (ch:=[]) (λ_ z=>nomatch z) (λb o _ hb _ e n=>u.keep b o e n hb (by simp)) (λb o _ hb _ e n=>u.slot b o e n hb (by simp)) (λb o _ e n=>u.free b o e n (by simp)) (λb o _ e=>u.there b o e (by simp)) u.j5 u.js u.j6 (λm' hm=>by
  obtain ⟨o',es',ep',ho',r'⟩:=hm
  rw[ho] at ho';cases ho'
  exact ⟨_,es',ep',hL,r'⟩) hok I.bare
theorem Inv.call {g':Array GenState}{t':Nat}{d':Drawn}{ch:List Addr}(I:Inv X pins σ H s)(u:Un (frs X.stack) ch H H' s.heap h')(hok:HOk X.prog X.w H' h')(hg:QW g')
  (hch:∀ b∈ch,(b∈X.ex∨X.s₀.heap.objs.size<=b)/\b≠X.env.locals/\(∀ x c,X.env.cells.lookup x=some c->c≠b)/\∀ p∈X.pn++pins,p.1≠b) :
  Inv X pins σ H' { s with heap:=h',gens:=g',drawn:=d',toks:=t' }:=by
 obtain ⟨m,⟨o,es,ep,ho,r⟩,_⟩:=id I.loc
 obtain ⟨sl,hL⟩:=u.any ho I.free λz=>(hch _ z).2.1 rfl
 exact I.step (ch:=ch) hch (λb o hL hb hc e n=>u.keep b o e n (λz=>(MY.mp (I.uM b z)).elim hL hb) hc) (λb o _ _ hc e n=>u.any e n hc) (λb o hc e n=>u.free b o e n hc) (λb o hc e=>u.there b o e hc) u.j5 u.js u.j6 (λm' hm=>by
  obtain ⟨o',es',ep',ho',r'⟩:=hm
  rw[ho] at ho';cases ho'
  exact ⟨_,es',ep',hL,r'⟩) hok hg
theorem Inv.turned {t':Nat}{it:Addr}(I:Inv X pins σ H s)(k:∀ b o,b≠it->s.heap.get? b=some o->h'.get? b=some o)(hn:H it=none)(hL:it≠X.env.locals)
  (h1:it∈X.ex∨X.s₀.heap.objs.size<=it) (h2:∀ x c,X.env.cells.lookup x=some c->c≠it) (h3:∀ p∈X.pn++pins,p.1≠it):Inv X pins σ H { s with heap:=h',toks:=t' }:=by
 have nit:∀ b u,H b=some u->b≠it:=λb u e z=>by rw[z,hn] at e;cases e
 refine I.step (g':=s.gens) (d':=s.drawn) (ch:=[it]) (λb hb=>?_) (λb o _ _ hc e _=>k b o (λz=>hc (by simp[z])) e) (λb o _ _ hc e _=>⟨o.slots,k b o (λz=>hc (by simp[z])) e⟩) (λ_ _ _ _ n=>n)
  (λb o hc e=>⟨o,k b o (λz=>hc (by simp[z])) e⟩) (λ_ _ e=>e) (λ_ _ _ e=>e) (λb ps e=>⟨#[],by rw[e];simp⟩) (λm hm=>?_) (λb u e=>?_) I.bare
 ·have e:b=it:=by simpa using hb
  subst e
  exact ⟨h1,hL,h2,h3⟩
 ·obtain ⟨o,es,ep,ho,r⟩:=hm
  exact ⟨o,es,ep,k _ o (Np hL) ho,r⟩
 ·refine (I.hok b u e).jj (λc v hc q=>k c v ?_ q) (λ_ q=>q) λ_ _ q=>q
  rcases hc with z | z
  ·rw[z];exact nit b u e
  ·exact nit c _ z
theorem Inv.tok (I:Inv X pins σ H s)(t:Nat):Inv X pins σ H { s with toks:=t }:=I.un (h':=s.heap) (t':=t) Un.refl I.hok
theorem Inv.kept {t':Nat}(I:Inv X pins σ H s)(k:∀ b u,s.heap.get? b=some u->h'.get? b=some u):Inv X pins σ H { s with heap:=h',toks:=t' }:=I.un (Un.kept k) (I.hok.kept k)
theorem Inv.laid {a:Addr}{o:HO}{t':Nat}(I:Inv X pins σ H s)(k:∀ b u,s.heap.get? b=some u->h'.get? b=some u)(hp:s.heap.objs.size<=a)(new:bj X.prog X.w (upd H a o) h' a o) :
  Inv X pins σ (upd H a o) { s with heap:=h',toks:=t' }:=I.un (Un.laid k hp (I.hok.fresh hp)) (I.hok.laid k hp new)
theorem Inv.write {x e:Addr}{o:HO}{t':Nat}(I:Inv X pins σ H s)(mu:Mut (H x))(he:e=x∨H e=some (.own x))(k:∀ b u,b≠e->s.heap.get? b=some u->h'.get? b=some u)(heo:∃ u,h'.get? e=some u)
  (new:bj X.prog X.w (upd H x o) h' x o):Inv X pins σ (upd H x o) { s with heap:=h',toks:=t' }:=I.un (Un.write mu he k heo) (I.hok.write mu he k heo new)
theorem Inv.weak {σ':List (Option V)}(I:Inv X pins σ H s)(hl:σ'.length=σ.length)(w:∀ (i:Nat) v,σ'[i]? = some (some v)->σ[i]? = some (some v)):Inv X pins σ' H s:=
 ⟨I.ok,I.os,I.bare,I.base,let ⟨m,hn,hl'⟩:=I.loc;⟨m,hn,λi x v e1 e2 e3=>hl' i x v e1 (w i v e2) e3⟩,I.cell,I.free,I.fJ,I.pin,I.hok,hl.trans I.len⟩
theorem Inv.wM {pins':List (Addr×Obj)}(I:Inv X pins σ H s)(h:∀ p∈pins',s.heap.get? p.1=some p.2/\H p.1=none/\p.1≠X.env.locals/\p.1 ∉ X.fs/\∀ v,p.2.data≠.cell v):Inv X pins' σ H s:=
 ⟨I.ok,I.os,I.bare,I.base,I.loc,I.cell,I.free,I.fJ,λp hp=>(NM.mp hp).elim (λz=>I.pin p (Og _ z)) (h p),I.hok,I.len⟩
theorem tu {N:List Str}(hN:N.Nodup){i j:Nat}{x:Str}(a:N[i]? = some x)(b:N[j]? = some x):i=j:=by
 obtain ⟨h1,e1⟩:=Nm.mp a
 obtain ⟨h2,e2⟩:=Nm.mp b
 exact (T9 hN).mp (e1.trans e2.symm)
theorem yr {M:Model}{A:NH}{E:MN->MQ->Prop}{i:Nat}{x:Str}{v:V}{u:MN}{Q:Unit->MQ->Prop}(I:Inv X pins σ H s)(hN:X.N.Nodup)(hi:X.N[i]? = some x)(hx:Loc X.env.scope x)(r:RelV v u)
  (h:∀ s',Inv X pins (σ.set i (some v)) H s'->(∃ a,OV a s.heap s'.heap/\(a=X.env.locals∨X.env.cells.lookup x=some a))->Q () s') (hf:X.fn x=true∨X.env.scope.names.lookup x=some .local:=by first | exact .inl rfl | exact .inr rfl | assumption):M4 M A (storeName X.env x u) Q E s:=by
 obtain ⟨m,hn,hl⟩:=id I.loc
 have Mm:(X.env.scope.kind == .class || (X.env.scope.kind == .module&&X.env.locals != X.env.globals))=false:=by rw[I.ok.kind];rfl
 have hiσ:i < σ.length:=by rw[I.len];exact (Nm.mp hi).1
 have cne:=I.cne
 have tracked:∀ {a:Addr} {h':Heap},(∃ o,s.heap.get? a=some o/\H a=none)->OV a s.heap h'->HOk X.prog X.w H h':=λ{a h'} ha hs b ob e=>by
  obtain ⟨_,_,hfree⟩:=ha
  refine (I.hok b ob e).jj (λc w' hc q=>(hs.2 c ?_).trans q) (λ_ q=>q) λ_ _ q=>q
  rintro rfl
  rcases hc with rfl | hc
  ·rw[hfree] at e;cases e
  ·rw[hfree] at hc;cases hc
 rcases hx with hk | hk
 ·refine wpAny_storeName_local hk hn (λh' hn' hs=>?_) Mm
  obtain ⟨oL,_,_,hoL,_⟩:=id hn
  refine h _ ⟨I.ok,I.os,I.bare,⟨λb o e n hb hx=>?_,λb o e n hb hx=>?_,I.base.free,λb o e hx=>?_,I.base.j5,I.base.js,I.base.j6⟩,⟨_,hn',λj y v' e1 e2 e3=>?_⟩,λy c e=>?_,I.free,I.fJ,λp hp=>?_,tracked ⟨oL,hoL,I.free⟩ hs,by simpa using I.len⟩ ⟨_,hs,.inl rfl⟩
  ·exact (hs.2 b (Na (M9 (M1 e) I.ok.above))).trans (I.base.keep b o e n hb hx)
  ·obtain ⟨sl,e1⟩:=I.base.slot b o e n hb hx
   exact ⟨sl,(hs.2 b (Na (M9 (M1 e) I.ok.above))).trans e1⟩
  ·obtain ⟨o',e1⟩:=I.base.there b o e hx
   exact ⟨o',(hs.2 b (Na (M9 (M1 e) I.ok.above))).trans e1⟩
  ·by_cases hj:j=i
   ·subst hj
    rw[hi] at e1;cases e1
    rw[PF hiσ] at e2
    cases e2
    exact ⟨u,r,.inl ⟨hk,by simp⟩⟩
   ·rw[OG (Np hj)] at e2
    obtain ⟨u',r',q⟩:=hl j y v' e1 e2 e3
    refine ⟨u',r',?_⟩
    rcases q with ⟨k,e⟩ | ⟨k,c,e,z⟩
    ·refine .inl ⟨k,?_⟩
     have:y≠x:=λe=>hj (tu hN e1 (e ▸ hi))
     simp[this,e]
    ·exact .inr ⟨k,c,e,z.sameBut hs (cne y c e)⟩
  ·obtain ⟨w',z⟩:=I.cell y c e
   exact ⟨w',z.sameBut hs (cne y c e)⟩
  ·obtain ⟨e,n,ne,nf,d⟩:=I.pin p hp
   exact ⟨(hs.2 p.1 ne).trans e,n,ne,nf,d⟩
 ·have hfn:X.fn x=true:=by
   rcases hf with z | z
   ·exact z
   ·rw[z] at hk;cases hk
  obtain ⟨c,hc⟩:=I.ok.has x (.inl hk)
  obtain ⟨w',z⟩:=I.cell x c hc
  refine wpAny_storeName_cell I.ok.kind hk hc z (λh' hc' hs=>?_)
  obtain ⟨oc,hoc,hocd⟩:=id z
  refine h { s with heap:=h' } ⟨I.ok,I.os,I.bare,⟨λb o e n hb hx=>?_,λb o e n hb hx=>?_,I.base.free,λb o e hx=>?_,I.base.j5,I.base.js,I.base.j6⟩,⟨m,hn.sameBut hs (Np (cne x c hc)),λj y v' e1 e2 e3=>?_⟩,λy c' e=>?_,I.free,I.fJ,λp hp=>?_,tracked ⟨oc,hoc,I.fJ x c hc⟩ hs,by simpa using I.len⟩ ⟨c,hs,.inr hc⟩
  ·exact (hs.2 b (Na (M9 (M1 e) (I.ok.cab x c hfn hc)))).trans (I.base.keep b o e n hb hx)
  ·obtain ⟨sl,e1⟩:=I.base.slot b o e n hb hx
   exact ⟨sl,(hs.2 b (Na (M9 (M1 e) (I.ok.cab x c hfn hc)))).trans e1⟩
  ·obtain ⟨o',e1⟩:=I.base.there b o e hx
   exact ⟨o',(hs.2 b (Na (M9 (M1 e) (I.ok.cab x c hfn hc)))).trans e1⟩
  ·by_cases hj:j=i
   ·subst hj
    rw[hi] at e1;cases e1
    rw[PF hiσ] at e2
    cases e2
    exact ⟨u,r,.inr ⟨.inl hk,c,hc,hc'⟩⟩
   ·rw[OG (Np hj)] at e2
    obtain ⟨u',r',q⟩:=hl j y v' e1 e2 e3
    refine ⟨u',r',?_⟩
    rcases q with q | ⟨k,c',e,z'⟩
    ·exact .inl q
    ·refine .inr ⟨k,c',e,z'.sameBut hs ?_⟩
     rintro rfl
     exact hj (tu hN e1 (I.ok.inj _ _ _ e hc ▸ hi))
  ·by_cases hcc:c'=c
   ·subst hcc;exact ⟨_,hc'⟩
   ·obtain ⟨w2,z2⟩:=I.cell y c' e
    exact ⟨w2,z2.sameBut hs hcc⟩
  ·obtain ⟨e,n,ne,nf,d⟩:=I.pin p hp
   refine ⟨(hs.2 p.1 ?_).trans e,n,ne,nf,d⟩
   intro q
   rw[q,hoc] at e
   have q':oc=p.2:=Nl e
   exact d w' (by rw[← q'];exact hocd)
theorem fQ {M:Model}{A:NH}{E:MN->MQ->Prop}{i:Nat}{x:Str}{v:V}{u:MN}{Q:Unit->MQ->Prop}(I:Inv X pins σ H s)(hN:X.N.Nodup)(hi:X.N[i]? = some x)(hx:Loc X.env.scope x)(r:RelV v u)
  (h:∀ s',Inv X pins (σ.set i (some v)) H s'->Q () s') (hf:X.fn x=true∨X.env.scope.names.lookup x=some .local:=by first | exact .inl rfl | exact .inr rfl | assumption):M4 M A (storeName X.env x u) Q E s:=
 yr I hN hi hx r (λs' I' _=>h s' I') hf
theorem Inv.Fg {s':MQ}{ch:List Addr}(I:Inv X pins σ H s)(ho:s'.os=s.os)(u:Un (frs X.stack) ch H H' s.heap s'.heap)(hok:HOk X.prog X.w H' s'.heap)(hg:QW s'.gens)
  (hch:∀ b∈ch,(b∈X.ex∨X.s₀.heap.objs.size<=b)/\b≠X.env.locals/\(∀ x c,X.env.cells.lookup x=some c->c≠b)/\∀ p∈X.pn++pins,p.1≠b):Inv X pins σ H' s':=by
 obtain ⟨h',g',d',t',o'⟩:=s'
 have e:o'=s.os:=ho
 subst e
 exact I.call (g':=g') (t':=t') (d':=d') u hok hg hch
end
abbrev XK:=MN->Option Addr->Hp->Prop
abbrev St:=List (Option V)
abbrev VK:=V->Hp->Prop
abbrev TE:=St->Hp->VK->Prop
abbrev TT:=St->Hp->(Bool->Hp->Prop)->Prop
abbrev TA:=St->Hp->(List V->Hp->Prop)->Prop
structure Ends where
 nx:St->Hp->Prop
 rt:VK
 bk:St->Hp->Prop:=λ_ _=>False
 ct:St->Hp->Prop:=λ_ _=>False
abbrev TS:=Ends->St->Hp->Prop
def EP (X:Cx)(pins:List (Addr×Obj))(σ:St)(Q:VK)(u:MN)(s':MQ):Prop:=∃ v H',Inv X pins σ H' s'/\RelV v u/\Q v H'
def TP (X:Cx)(pins:List (Addr×Obj))(σ:St)(Q:Bool->Hp->Prop)(b:Bool)(s':MQ):Prop:=∃ H',Inv X pins σ H' s'/\Q b H'
def AP (X:Cx)(pins:List (Addr×Obj))(σ:St)(Q:List V->Hp->Prop)(us:List MN)(s':MQ):Prop:=∃ vs H',Inv X pins σ H' s'/\Vals vs us/\Q vs H'
def SP (X:Cx)(pins:List (Addr×Obj))(D:Ends)(f:Flow)(s':MQ):Prop:=
 match f with
 | .next=>∃ σ' H',Inv X pins σ' H' s'/\D.nx σ' H'
 | .brk=>∃ σ' H',Inv X pins σ' H' s'/\D.bk σ' H'
 | .cont=>∃ σ' H',Inv X pins σ' H' s'/\D.ct σ' H'
 | .ret u=>∃ v σ' H',Inv X pins σ' H' s'/\RelV v u/\D.rt v H'
def PE (X:Cx)(e:Nf)(t:TE):Prop:=
 ∀ (pins:List (Addr×Obj)) (s:MQ) (σ:St) (H:Hp) (Q:VK),Inv X pins σ H s->t σ H Q->M4 (Nb X.prog X.w) X.A (N1 e X.env) (EP X pins σ Q) X.xe s
def PT (X:Cx)(e:Nf)(t:TT):Prop:=
 ∀ (pins:List (Addr×Obj)) (s:MQ) (σ:St) (H:Hp) (Q:Bool->Hp->Prop),Inv X pins σ H s->t σ H Q->M4 (Nb X.prog X.w) X.A (isTrue e X.env (N1 e X.env)) (TP X pins σ Q) X.xe s
def PW (X:Cx)(e:Nf)(t:TT):Prop:=
 ∀ (whole:Sem MN) (pins:List (Addr×Obj)) (s:MQ) (σ:St) (H:Hp) (Q:Bool->Hp->Prop),Inv X pins σ H s->t σ H Q->M4 (Nb X.prog X.w) X.A (isTrue e X.env whole) (TP X pins σ Q) X.xe s
theorem PW.pt {X:Cx}{e:Nf}{t:TT}(h:PW X e t):PT X e t:=h _
def PA (X:Cx)(es:List Nf)(t:TA):Prop:=
 ∀ (pos:Pos) (pins:List (Addr×Obj)) (s:MQ) (σ:St) (H:Hp) (Q:List V->Hp->Prop),Inv X pins σ H s->t σ H Q->M4 (Nb X.prog X.w) X.A (spliced (OL pos (M6 es X.env))) (AP X pins σ Q) X.xe s
def PS (X:Cx)(st:Stmt)(t:TS):Prop:=
 ∀ (pins:List (Addr×Obj)) (s:MQ) (σ:St) (H:Hp) (D:Ends),Inv X pins σ H s->t D σ H->M4 (Nb X.prog X.w) X.A (exec st X.env) (SP X pins D) X.xe s
def PSs (X:Cx)(st:List Stmt)(t:TS):Prop:=
 ∀ (pins:List (Addr×Obj)) (s:MQ) (σ:St) (H:Hp) (D:Ends),Inv X pins σ H s->t D σ H->M4 (Nb X.prog X.w) X.A (execs st X.env) (SP X pins D) X.xe s
theorem thn {α:Type}{t:Sem α}{Q Q':α->MQ->Prop}{M:Model}{A:NH}{E:MN->MQ->Prop}{s:MQ}(h:M4 M A t Q E s)(hQ:∀ a s,Q a s->Q' a s):M4 M A t Q' E s:=NW h hQ λ_ _ x=>x
end L2
namespace L2
open PySem PySem.Spec PyProof.Rows
section
variable {X:Cx}
theorem bin {a b:Nf}{ta tb:TE}(ha:PE X a ta)(hb:PE X b tb){pins:List (Addr×Obj)}{s:MQ}{σ:St}{H:Hp}{R:V->V->Hp->Prop}(I:Inv X pins σ H s)(h:ta σ H λx H1=>tb σ H1 λy H2=>R x y H2)
  {α:Type} {Q:α->MQ->Prop} {f:MN->MN->Sem α}
  (hf:∀ v u s2 x y H2,Inv X pins σ H2 s2->RelV x v->RelV y u->R x y H2->M4 (Nb X.prog X.w) X.A (f v u) Q X.xe s2) :
  M4 (Nb X.prog X.w) X.A (N1 a X.env) (λv s₁=>M4 (Nb X.prog X.w) X.A (N1 b X.env) (λu s₂=>M4 (Nb X.prog X.w) X.A (f v u) Q X.xe s₂) X.xe s₁) X.xe s:=by
 refine thn (ha pins s σ H _ I h) λv s1 ⟨x,H1,I1,r1,q1⟩=>?_
 refine thn (hb pins s1 σ H1 _ I1 q1) λu s2 ⟨y,H2,I2,r2,q2⟩=>?_
 exact hf v u s2 x y H2 I2 r1 r2 q2
def JL (i:Nat):TE:=λσ H Q=>∃ v,σ[i]? = some (some v)/\Q v H
def tC (v:V):TE:=λ_ H Q=>Q v H
theorem BK {i:Nat}{x:Str}{pos:Pos}(hN:X.N[i]? = some x)(hv:Vis X.env.scope x)(hd:(x == ("__debug__" : Str))=false:=by decide)(hcd:(x == ("__classdict__" : Str))=false:=by decide):PE X (.Name x pos) (JL i):=by
 intro pins s σ H Q I h
 obtain ⟨v,e,h⟩:=h
 obtain ⟨m,hn,hl⟩:=I.loc
 obtain ⟨u,r,l⟩:=hl i x v hN e hv
 have fin:EP X pins σ Q u s:=⟨v,H,I,r,h⟩
 rcases l with ⟨hk,hm⟩ | ⟨hk,c,hc,hcell⟩
 ·exact UH (Sd I.ok.kind hk hn hm fin) hd
 ·rcases hk with hk | hk
  ·exact UH (SF I.ok.kind hk hc hcell fin) hd
  ·exact UH (wpAny_loadName_free I.ok.kind hk hc hcell fin hcd) hd
theorem Gf {i j pos}:PE X (.Constant (.int i) j pos) (tC (.int i)):=λ_ _ _ H _ I h=>wpAny_Constant_int ⟨.int i,H,I.tok _,⟨_,rfl⟩,h⟩
theorem Lf {b j pos}:PE X (.Constant (.bool b) j pos) (tC (.bl b)):=λ_ _ _ H _ I h=>Constant_bool ⟨.bl b,H,I,rfl,h⟩
theorem Ia {j pos}:PE X (.Constant .none j pos) (tC .non):=λ_ _ _ H _ I h=>Constant_none ⟨.non,H,I,rfl,h⟩
theorem HV {x j pos}:PE X (.Constant (.str x) j pos) (tC (.str x)):=λ_ _ _ H _ I h=>Calls.Constant_str ⟨.str x,H,I.tok _,⟨_,rfl⟩,h⟩
def Gl (X:Cx)(x:Str):Prop:=X.env.kindOf x=some .globalImplicit
theorem xD {E:MN->MQ->Prop}{pins:List (Addr×Obj)}{s:MQ}{σ:St}{H:Hp}{x:Str}{u:MN}{pos:Pos}{Q:MN->MQ->Prop}(I:Inv X pins σ H s)(hg:Gl X x)(hm:X.mg x=some u)(h:Q u s)
  (hd:(x == ("__debug__" : Str))=false:=by decide):M4 (Nb X.prog X.w) X.A (N1 (.Name x pos) X.env) Q E s:=
 QD I.ok.kind hg (Calls.loadGlobal_global (by rw[I.ok.glob];exact I.mod.glob.keeps I.bk) hm h) hd
theorem jn {E:MN->MQ->Prop}{pins:List (Addr×Obj)}{s:MQ}{σ:St}{H:Hp}{x:Str}{u:MN}{pos:Pos}{Q:MN->MQ->Prop}(I:Inv X pins σ H s)(hg:Gl X x)(hm:X.mg x=none)(hv:OF x=some u)(h:Q u s)
  (hn:x ≠ "__name__" := by decide) (hd:(x == ("__debug__" : Str))=false:=by decide):M4 (Nb X.prog X.w) X.A (N1 (.Name x pos) X.env) Q E s:=by
 obtain ⟨mb,h1,h2⟩:=I.mod.blt
 exact QD I.ok.kind hg (Calls.loadGlobal_builtin (by rw[I.ok.glob];exact I.mod.glob.keeps I.bk) hm (by rw[I.ok.blt];exact h1.keeps I.bk) ((h2 x hn).trans hv) h) hd
theorem Ez {x:Str}{v:V}{u:MN}{pos:Pos}(hg:Gl X x)(hm:X.mg x=some u)(r:RelV v u)(hd:(x == ("__debug__" : Str))=false:=by decide):PE X (.Name x pos) (tC v):=
 λ_ _ _ H _ I h=>xD I hg hm ⟨v,H,I,r,h⟩ hd
def t2I (ta tb:TE)(k:Int->Int->Hp->Prop):St->Hp->Prop:=λσ H=>ta σ H λx H1=>tb σ H1 λy H2=>∃ i j,x=.int i/\y=.int j/\k i j H2
def LH (ta tb:TE):TE:=λσ H Q=>t2I ta tb (λi j H2=>Q (.int (i - j)) H2) σ H
variable {a b:Nf} {ta tb:TE} {pos:Pos}
theorem zP (ha:PE X a ta)(hb:PE X b tb):PE X (.BinOp a .Sub b pos) (LH ta tb):=by
 intro pins s σ H Q I h
 refine wpAny_BinOp (bin ha hb I h λv u s2 x y H2 I2 rx ry q=>?_)
 obtain ⟨i,j,rfl,rfl,q⟩:=q
 obtain ⟨t,rfl⟩:=rx
 obtain ⟨t',rfl⟩:=ry
 exact sub_int ⟨.int _,H2,I2.tok _,⟨_,rfl⟩,q⟩
def PC (X:Cx)(op:Up)(a b:Nf)(t:TE):Prop:=
 ∀ (pins:List (Addr×Obj)) (s:MQ) (σ:St) (H:Hp) (Q:VK),Inv X pins σ H s->t σ H Q->
  M4 (Nb X.prog X.w) X.A (N1 a X.env) (λv s₁=>M4 (Nb X.prog X.w) X.A (N1 b X.env) (λu s₂=>M4 (Nb X.prog X.w) X.A (N5 op v u) (EP X pins σ Q) X.xe s₂) X.xe s₁) X.xe s
theorem CK (b:Nf){op:Up}(h:op≠.In)(h2:op≠.NotIn):NU op b=false:=by
 have e1:(op == CmpOp.In)=false:=by cases op<;>first | rfl | exact absurd rfl h
 have e2:(op == Vm)=false:=by cases op<;>first | rfl | exact absurd rfl h2
 cases b<;>simp[NU,e1,e2]
def tB (t:TE):TT:=λσ H Q=>t σ H λx H1=>∃ c,x=.bl c/\Q c H1
theorem CD {op:Up}{t:TE}(h:PC X op a b t)(h1:NU op b=false:=by first | exact CK _ (by decide) (by decide) | rfl):PT X (.Compare a [op] [b] pos) (tB t):=by
 intro pins s σ H Q I hw
 refine R5 (thn (h pins s σ H _ I hw) λv s1 h1=>thn h1 λu s2 h2=>thn h2 λc s3 ⟨x,H1,I1,r1,q1⟩=>?_) h1
 obtain ⟨d,rfl,q⟩:=q1
 cases r1
 exact OH ⟨H1,I1,q⟩
theorem Gv {e:Nf}{t:TE}(h:PE X e t)(he:∀ whole,isTrue e X.env whole=(do let v ← whole;standAt e.pos;QX [v] (truthy v)):=by intro _;rfl):PT X e (tB t):=by
 intro pins s σ H Q I hw
 refine isTrue_plain (thn (h pins s σ H _ I hw) λv s1 ⟨x,H1,I1,r1,q1⟩=>?_) (he _)
 obtain ⟨d,rfl,q⟩:=q1
 cases r1
 exact OH ⟨H1,I1,q⟩
variable {tA tB':TT} {rest:List Nf}
def LB (t u:TT):TT:=λσ H Q=>t σ H λc H1=>if c=true then u σ H1 Q else Q false H1
def tOr (t u:TT):TT:=λσ H Q=>t σ H λc H1=>if c=true then Q true H1 else u σ H1 Q
def L6 (t:TT):TT:=λσ H Q=>t σ H λc H1=>Q (!c) H1
theorem pw_and1 (ha:PT X a tA):PW X (.BoolOp .And [a] pos) tA:=by
 intro wh pins s σ H Q I h
 refine isTrue_and (thn (ha pins s σ H Q I h) λc s1 e=>?_)
 cases c with
 | true=>exact isTrue_and_nil e
 | false=>exact e
theorem pw_or1 (ha:PT X a tA):PW X (.BoolOp .Or [a] pos) tA:=by
 intro wh pins s σ H Q I h
 refine isTrue_or (thn (ha pins s σ H Q I h) λc s1 e=>?_)
 cases c with
 | false=>exact isTrue_or_nil e
 | true=>exact e
theorem pw_and (ha:PT X a tA)(hb:PW X (.BoolOp .And (b::rest) pos) tB'):PW X (.BoolOp .And (a::b::rest) pos) (LB tA tB'):=by
 intro wh pins s σ H Q I h
 refine isTrue_and (thn (ha pins s σ H _ I h) λc s1 ⟨H1,I1,q1⟩=>?_)
 cases c with
 | true=>exact hb wh pins s1 σ H1 Q I1 q1
 | false=>exact ⟨H1,I1,q1⟩
theorem pw_or (ha:PT X a tA)(hb:PW X (.BoolOp .Or (b::rest) pos) tB'):PW X (.BoolOp .Or (a::b::rest) pos) (tOr tA tB'):=by
 intro wh pins s σ H Q I h
 refine isTrue_or (thn (ha pins s σ H _ I h) λc s1 ⟨H1,I1,q1⟩=>?_)
 cases c with
 | true=>exact ⟨H1,I1,q1⟩
 | false=>exact hb wh pins s1 σ H1 Q I1 q1
theorem JA (ha:PT X a tA):PT X (.UnaryOp .Not a pos) (L6 tA):=by
 intro pins s σ H Q I h
 exact isTrue_not (ha pins s σ H (λc H1=>Q (!c) H1) I h)
def Mc (ta tb:TE):TE:=λσ H Q=>ta σ H λx H1=>∃ c,x=.bl c/\if c=true then Q (.bl true) H1 else tb σ H1 Q
def JK (ta:TE):TE:=λσ H Q=>ta σ H λx H1=>∃ c,x=.bl c/\Q (.bl (!c)) H1
theorem F9 {op}{t:TE}(h:PE X a t):PE X (.BoolOp op [a] pos) t:=λpins s σ H Q I hw=>BoolOp_one (h pins s σ H Q I hw)
theorem Kd (ha:PE X a ta)(hb:PE X (.BoolOp .Or (b::rest) pos) tb):PE X (.BoolOp .Or (a::b::rest) pos) (Mc ta tb):=by
 intro pins s σ H Q I h
 refine BoolOp_or (thn (ha pins s σ H _ I h) λv s1 ⟨x,H1,I1,r1,q1⟩=>?_)
 obtain ⟨c,rfl,q1⟩:=q1
 cases r1
 refine OH ?_
 cases c with
 | false=>exact hb pins s1 σ H1 Q I1 q1
 | true=>exact ⟨.bl true,H1,I1,rfl,q1⟩
theorem HJ (ha:PE X a ta):PE X (.UnaryOp .Not a pos) (JK ta):=by
 intro pins s σ H Q I h
 refine UnaryOp_ (thn (ha pins s σ H _ I h) λv s1 ⟨x,H1,I1,r1,q1⟩=>?_)
 obtain ⟨c,rfl,q1⟩:=q1
 cases r1
 exact not_of (OH ⟨.bl (!c),H1,I1,rfl,q1⟩)
def tIf (t:TT)(ta tb:TE):TE:=λσ H Q=>t σ H λc H1=>if c=true then ta σ H1 Q else tb σ H1 Q
theorem zK {c:Nf}(hc:PT X c tA)(ha:PE X a ta)(hb:PE X b tb):PE X (.IfExp c a b pos) (tIf tA ta tb):=by
 intro pins s σ H Q I h
 refine wpAny_IfExp (thn (hc pins s σ H _ I h) λd s1 ⟨H1,I1,q1⟩=>?_)
 cases d with
 | true=>exact ha pins s1 σ H1 Q I1 q1
 | false=>exact hb pins s1 σ H1 Q I1 q1
end
end L2
namespace L2
open PySem PySem.Spec PyProof.Rows
def SqL (K:ML)(H:Hp)(a:Addr)(xs:List V):Prop:=
 Rd H a (.lst xs)∨
  ∃ (o:Obj) (its:Array MN) (n:Nat),K.lookup a=some o/\o.cls=.type "list" /\ o.dict=none/\o.data=.seq its n/\its.size<=sizeLine/\Vals xs its.toList
def SqT (K:ML)(H:Hp)(a:Addr)(xs:List V):Prop:=
 Rd H a (.tup xs)∨
  ∃ (o:Obj) (its:Array MN) (n:Nat),K.lookup a=some o/\o.cls=.type "tuple" /\ o.dict=none/\o.data=.seq its n/\its.size<=sizeLine/\Vals xs its.toList
def MD:MN->Option V
 | .none=>some .non
 | .bool b=>some (.bl b)
 | .int i _=>some (.int i)
 | .str x _=>some (.str x)
 | .bytes b _=>some (.byt b)
 | .float b _=>some (.flt b)
 | .ref a=>some (.ref a)
 | .type n=>some (.ty n)
 | _=>none
theorem RelV.abs {x:V}{u:MN}(r:RelV x u):MD u=some x:=by
 cases x with
 | non=>cases r;rfl
 | bl _=>cases r;rfl
 | int _=>obtain ⟨t,rfl⟩:=r;rfl
 | str _=>obtain ⟨t,rfl⟩:=r;rfl
 | byt _=>obtain ⟨t,rfl⟩:=r;rfl
 | flt _=>obtain ⟨t,rfl⟩:=r;rfl
 | ref _=>cases r;rfl
 | ty _=>cases r;rfl
theorem RelV.inj {x y:V}{u:MN}(r:RelV x u)(q:RelV y u):x=y:=Nl (r.abs.symm.trans q.abs)
theorem Vals.inj:∀ {xs ys:List V} {us:List MN},Vals xs us->Vals ys us->xs=ys
 | _,_,_,.nil,.nil=>rfl
 | _,_,_,.cons r t,.cons r' t'=>by rw[r.inj r',Vals.inj t t']
section
variable {X:Cx} {pins:List (Addr×Obj)} {σ:St} {H:Hp} {s:MQ} {a:Addr} {xs ys:List V}
theorem SqL.of {K:ML}(h:H a=some (.lst xs)):SqL K H a xs:=.inl (.inl h)
theorem SqT.of {K:ML}(h:H a=some (.tup xs)):SqT K H a xs:=.inl (.inl h)
theorem Inv.list (I:Inv X pins σ H s)(h:SqL X.K H a xs):∃ its:List MN,Vals xs its/\PlainL s.heap a its.toArray/\xs.length<=sizeLine:=by
 rcases h with h | ⟨o,its,n,hk,hc,hd,hs,hz,r⟩
 ·obtain ⟨z,its,n,r,e⟩:=h.ok I.hok
  exact ⟨its,r,⟨_,n,e,rfl,rfl,rfl⟩,z⟩
 ·refine ⟨its.toList,r,⟨o,n,I.kIn a o hk,hc,hd,by simpa using hs⟩,?_⟩
  have e:=r.length
  simp only[Qq] at e
  omega
theorem Inv.tuple (I:Inv X pins σ H s)(h:SqT X.K H a xs):∃ its:List MN,Vals xs its/\SK s.heap a its.toArray/\xs.length<=sizeLine:=by
 rcases h with h | ⟨o,its,n,hk,hc,hdn,hs,hz,r⟩
 ·obtain ⟨z,its,r,p⟩:=h.ok I.hok
  exact ⟨its,r,p.tup,z⟩
 ·refine ⟨its.toList,r,⟨o,I.kIn a o hk,hc,n,by simpa using hs⟩,?_⟩
  have e:=r.length
  simp only[Qq] at e
  omega
theorem Inv.sF (I:Inv X pins σ H s)(h:SqL X.K H a xs)(h':SqL X.K H a ys):xs=ys:=by
 obtain ⟨its,r,⟨o,n,e,_,_,d⟩,_⟩:=I.list h
 obtain ⟨its',r',⟨o',n',e',_,_,d'⟩,_⟩:=I.list h'
 rw[e] at e';cases e'
 rw[d] at d'
 injection d' with d1 _
 have:its=its':=by simpa using congrArg Vc d1
 subst this
 exact r.inj r'
theorem Inv.jv (I:Inv X pins σ H s)(h:SqT X.K H a xs)(h':SqT X.K H a ys):xs=ys:=by
 obtain ⟨its,r,⟨o,e,_,n,d⟩,_⟩:=I.tuple h
 obtain ⟨its',r',⟨o',e',_,n',d'⟩,_⟩:=I.tuple h'
 rw[e] at e';cases e'
 rw[d] at d'
 injection d' with d1 _
 have:its=its':=by simpa using congrArg Vc d1
 subst this
 exact r.inj r'
end
abbrev Cx.j7 (X:Cx)(E:MN->MQ->Prop):Cx:={ X with xe:=E }
abbrev Cx.nox (X:Cx):Cx:=X.j7 λ_ _=>False
theorem Cx.Ok.j7 {X:Cx}(ok:X.Ok)(E:MN->MQ->Prop):(X.j7 E).Ok:=
 ⟨ok.mod,ok.kind,ok.glob,ok.blt,ok.above,ok.inj,ok.has,ok.cab,ok.hd,ok.frames,ok.stk,ok.exf,ok.bs,ok.bsz,ok.Bk,ok.CQ,ok.mx,ok.frf⟩
theorem Cx.Ok.dS {X:Cx}{E:MN->MQ->Prop}(ok:(X.j7 E).Ok):X.Ok:=
 ⟨ok.mod,ok.kind,ok.glob,ok.blt,ok.above,ok.inj,ok.has,ok.cab,ok.hd,ok.frames,ok.stk,ok.exf,ok.bs,ok.bsz,ok.Bk,ok.CQ,ok.mx,ok.frf⟩
section
variable {X:Cx} {pins:List (Addr×Obj)} {σ:St} {H:Hp} {s:MQ} {E:MN->MQ->Prop}
theorem Inv.j7 (I:Inv X pins σ H s)(E:MN->MQ->Prop):Inv (X.j7 E) pins σ H s:=⟨I.ok.j7 E,I.os,I.bare,I.base,I.loc,I.cell,I.free,I.fJ,I.pin,I.hok,I.len⟩
theorem Inv.dS (I:Inv (X.j7 E) pins σ H s):Inv X pins σ H s:=⟨I.ok.dS,I.os,I.bare,I.base,I.loc,I.cell,I.free,I.fJ,I.pin,I.hok,I.len⟩
theorem SP.dS {D:Ends}{f:Flow}{s':MQ}(h:SP (X.j7 E) pins D f s'):SP X pins D f s':=by
 cases f with
 | next=>obtain ⟨σ',H',I,q⟩:=h;exact ⟨σ',H',I.dS,q⟩
 | brk=>obtain ⟨σ',H',I,q⟩:=h;exact ⟨σ',H',I.dS,q⟩
 | cont=>obtain ⟨σ',H',I,q⟩:=h;exact ⟨σ',H',I.dS,q⟩
 | ret u=>obtain ⟨v,σ',H',I,r,q⟩:=h;exact ⟨v,σ',H',I.dS,r,q⟩
theorem PE.nox {e:Nf}{t:TE}(h:PE X.nox e t):PE X e t:=λpins s σ H Q I hw=>
 NW (h pins s σ H Q (I.j7 _) hw) (λ_ _ ⟨v,H',I',r,q⟩=>⟨v,H',I'.dS,r,q⟩) λ_ _ z=>MR z
theorem PT.nox {e:Nf}{t:TT}(h:PT X.nox e t):PT X e t:=λpins s σ H Q I hw=>
 NW (h pins s σ H Q (I.j7 _) hw) (λ_ _ ⟨H',I',q⟩=>⟨H',I'.dS,q⟩) λ_ _ z=>MR z
theorem PSs.nox {st:List Stmt}{t:TS}(h:PSs X.nox st t):PSs X st t:=λpins s σ H D I hw=>
 NW (h pins s σ H D (I.j7 _) hw) (λ_ _ q=>q.dS) λ_ _ z=>MR z
end
section
variable {X:Cx} {st:Stmt} {rest:List Stmt} {t u:TS} {e:Nf} {te:TE} {pos:Pos}
def Lc:TS:=λD σ H=>D.nx σ H
def Mg (t u:TS):TS:=λD σ H=>t { D with nx:=u D } σ H
theorem D8:PSs X [] Lc:=λ_ _ σ H _ I h=>Qg ⟨σ,H,I,h⟩
theorem CC (h1:PS X st t)(h2:PSs X rest u):PSs X (st::rest) (Mg t u):=by
 intro pins s σ H D I h
 refine Ua (thn (h1 pins s σ H { D with nx:=u D } I h) λf s1 q=>?_)
 cases f with
 | next=>
  obtain ⟨σ',H',I',q⟩:=q
  exact h2 pins s1 σ' H' D I' q
 | ret v=>exact q
 | brk=>exact q
 | cont=>exact q
theorem Ei (h1:PS X st t):PSs X [st] t:=by
 intro pins s σ H D I h
 refine Ua (thn (h1 pins s σ H D I h) λf s1 q=>?_)
 cases f with
 | next=>exact Qg q
 | ret v=>exact q
 | brk=>exact q
 | cont=>exact q
theorem Inv.quiet {pins:List (Addr×Obj)}{σ:St}{H:Hp}{s:MQ}(I:Inv X pins σ H s):interactive X.env=false:=by simp[interactive,I.ok.kind]
def JX (te:TE):TS:=λD σ H=>te σ H λ_ H1=>D.nx σ H1
theorem DU (he:PE X e te)(hs:Pe e none pos.line X.env=pure false:=by rfl):PS X (.Expr e pos) (JX te):=by
 intro pins s σ H D I h
 exact wpAny_Expr_any (thn (he pins s σ H _ I h) λv s1 ⟨x,H1,I1,r1,q1⟩=>⟨σ,H1,I1,q1⟩) I.quiet hs
def Mi (te:TE):TS:=λD σ H=>te σ H D.rt
theorem HM (he:PE X e te):PS X (.Return (some e) pos) (Mi te):=by
 intro pins s σ H D I h
 exact wpAny_Return_some (thn (he pins s σ H _ I h) λv s1 ⟨x,H1,I1,r1,q1⟩=>⟨x,σ,H1,I1,r1,q1⟩)
def LQ (c:TT)(t u:TS):TS:=λD σ H=>c σ H λb H1=>if b=true then t D σ H1 else u D σ H1
theorem JJ {c:Nf}{a b:List Stmt}{tc:TT}(hc:PT X c tc)(ha:PSs X a t)(hb:PSs X b u):PS X (.If c a b pos) (LQ tc t u):=by
 intro pins s σ H D I h
 refine wpAny_If (thn (hc pins s σ H _ I h) λd s1 ⟨H1,I1,q1⟩=>?_)
 cases d with
 | true=>exact ha pins s1 σ H1 D I1 q1
 | false=>exact hb pins s1 σ H1 D I1 q1
end
abbrev TG:=V->St->Hp->(St->Hp->Prop)->Prop
abbrev TGs:=List V->St->Hp->(St->Hp->Prop)->Prop
def PG (X:Cx)(target:Nf)(t:TG):Prop:=
 ∀ (pins:List (Addr×Obj)) (s:MQ) (σ:St) (H:Hp) (v:V) (u:MN) (Q:St->Hp->Prop),Inv X pins σ H s->RelV v u->t v σ H Q->
  M4 (Nb X.prog X.w) X.A (QE target X.env u) (λ_ s'=>∃ σ' H',Inv X pins σ' H' s'/\Q σ' H') X.xe s
def PGs (X:Cx)(ts:List Nf)(t:TGs):Prop:=
 ∀ (pins:List (Addr×Obj)) (s:MQ) (σ:St) (H:Hp) (vs:List V) (us:List MN) (Q:St->Hp->Prop),Inv X pins σ H s->Vals vs us->t vs σ H Q->
  M4 (Nb X.prog X.w) X.A (SM ((N3 ts X.env).map (·.2)) us) (λ_ s'=>∃ σ' H',Inv X pins σ' H' s'/\Q σ' H') X.xe s
abbrev Jf:=V->V->V->Hp->(Hp->Prop)->Prop
def Lk (X:Cx)(t:Jf):Prop:=
 ∀ (pins:List (Addr×Obj)) (s:MQ) (σ:St) (H:Hp) (o i v:V) (ov iv u:MN) (Q:Hp->Prop),Inv X pins σ H s->RelV o ov->RelV i iv->RelV v u->t o i v H Q->
  M4 (Nb X.prog X.w) X.A (setItem ov iv u) (λ_ s'=>∃ H',Inv X pins σ H' s'/\Q H') X.xe s
abbrev TIp:=V->V->Hp->VK->Prop
def PIp (X:Cx)(op:UI)(t:TIp):Prop:=
 ∀ (pins:List (Addr×Obj)) (s:MQ) (σ:St) (H:Hp) (x y:V) (v u:MN) (Q:VK),Inv X pins σ H s->RelV x v->RelV y u->t x y H Q->
  M4 (Nb X.prog X.w) X.A (inplaceOp op v u) (EP X pins σ Q) X.xe s
section
variable {X:Cx} {pos:Pos}
def kJ (i:Nat):TG:=λv σ H Q=>Q (σ.set i (some v)) H
theorem gj {i:Nat}{x:Str}(hN:X.N.Nodup)(hi:X.N[i]? = some x)(hx:Loc X.env.scope x)(hf:X.fn x=true∨X.env.scope.names.lookup x=some .local:=by first | exact .inl rfl | exact .inr rfl | assumption):PG X (.Name x pos) (kJ i):=by
 intro pins s σ H v u Q I r h
 exact wpAny_assign_Name (fQ I hN hi hx r (λs' I'=>⟨_,H,I',h⟩) hf)
def Mp:TGs:=λvs σ H Q=>vs=[]/\Q σ H
def Kx (t:TG)(u:TGs):TGs:=λvs σ H Q=>∃ v r,vs=v::r/\t v σ H λσ' H'=>u r σ' H' Q
theorem xF:PGs X [] Mp:=by
 intro pins s σ H vs us Q I r h
 obtain ⟨e,h⟩:=h
 subst e
 cases r
 exact Tu ⟨σ,H,I,h⟩
theorem tq {e:Nf}{es:List Nf}{t:TG}{u:TGs}(h1:PG X e t)(h2:PGs X es u)
  (hs:(N3 (e::es) X.env).map (·.2)=QE e X.env::(N3 es X.env).map (·.2):=by rfl):PGs X (e::es) (Kx t u):=by
 intro pins s σ H vs us Q I r h
 obtain ⟨v,vr,e1,h⟩:=h
 subst e1
 cases r with
 | cons r rr=>
  rw[hs]
  refine QF (thn (h1 pins s σ H _ _ _ I r h) λ_ s1 ⟨σ1,H1,I1,q1⟩=>?_)
  exact h2 pins s1 σ1 H1 _ _ Q I1 rr q1
def Mx (K:ML)(n:Nat)(t:TGs):TG:=λv σ H Q=>∃ a xs,v=.ref a/\SqT K H a xs/\xs.length=n/\t xs σ H Q
theorem BV {es:List Nf}{k:Nat}{t:TGs}{n:Nat}(hc:X.calm=true)(h:PGs X es t)
  (hn:(N3 es X.env).length=n:=by rfl) (hst:(N3 es X.env).findIdx? (·.1)=none:=by rfl):PG X (.Tuple es k pos) (Mx X.K n t):=by
 intro pins s σ H v u Q I r hw
 obtain ⟨a,xs,e1,hq,hl,hw⟩:=hw
 subst e1
 cases r
 obtain ⟨its,rv,ht,hz⟩:=I.tuple hq
 refine assign_Tuple_tuple (I.ok.hd hc) ht (by simp[hn,← hl,rv.length]) hst λh' hx=>?_
 have I1:Inv X pins σ H { s with heap:=h' }:=I.kept (t':=s.toks) λb o e=>hx b o (Na (M1 e)) e
 exact h pins _ σ H xs _ Q I1 (by simpa using rv) hw
def LR (to ti:TE)(t:Jf):TG:=λv σ H Q=>to σ H λo H1=>ti σ H1 λi H2=>t o i v H2 λH3=>Q σ H3
theorem II {o i:Nf}{to ti:TE}{t:Jf}(ho:PE X o to)(hi:PE X i ti)(hs:Lk X t)
  (ha:∀ v,QE (.Subscript o i pos) X.env v=(do
   let ov ← QX [v] (N1 o X.env)
   let iv ← QX [v,ov] (N1 i X.env)
   standAt pos
   QX [v,ov,iv] (setItem ov iv v)
   release [v,ov,iv] []):=by intro _;rfl):PG X (.Subscript o i pos) (LR to ti t):=by
 intro pins s σ H v u Q I r h
 rw[ha]
 refine MM (O1 (thn (ho pins s σ H _ I h) λov s1 ⟨x,H1,I1,r1,q1⟩=>?_))
 refine MM (O1 (thn (hi pins s1 σ H1 _ I1 q1) λiv s2 ⟨y,H2,I2,r2,q2⟩=>?_))
 refine MM (Q7 (MM (O1 (thn (hs pins s2 σ H2 x y v ov iv u _ I2 r1 r2 r q2) λ_ s3 ⟨H3,I3,q3⟩=>?_))))
 exact wpAny_release ⟨σ,H3,I3,q3⟩
def CZ (te:TE)(g:TG):TS:=λD σ H=>te σ H λx H1=>g x σ H1 D.nx
theorem zB {tg e:Nf}{te:TE}{g:TG}(he:PE X e te)(hg:PG X tg g)(hs:P7 [tg] e pos.line X.env=pure false:=by rfl)(hw:P8 [tg] e X.env=pure none:=by rfl)
  (h1:(N3 [tg] X.env).map (·.2)=[QE tg X.env]:=by rfl):PS X (.Assign [tg] e pos) (CZ te g):=by
 intro pins s σ H D I h
 refine wpAny_Assign_stores (thn (he pins s σ H _ I h) λv s1 ⟨x,H1,I1,r1,q1⟩=>?_) hs hw
 rw[h1]
 exact thn (hg pins s1 σ H1 x v _ I1 r1 q1) λ_ s2 q=>q
theorem Jz {i:Nat}{x:Str}{e:Nf}{te:TE}{pos':Pos}(hN:X.N.Nodup)(hi:X.N[i]? = some x)(hx:Loc X.env.scope x)(he:PE X e te)(hs:Pe e (some (.Name x pos')) pos.line X.env=pure false:=by rfl)(hf:X.fn x=true∨X.env.scope.names.lookup x=some .local:=by first | exact .inl rfl | exact .inr rfl | assumption) :
  PS X (.Assign [.Name x pos'] e pos) (CZ te (kJ i)):=by
 intro pins s σ H D I h
 refine wpAny_Assign_Name (thn (he pins s σ H _ I h) λv s1 ⟨y,H1,I1,r1,q1⟩=>?_) hs
 exact fQ I1 hN hi hx r1 (λs2 I2=>⟨_,H1,I2,q1⟩) hf
def Ma (i j:Nat)(ta:TA):TS:=λD σ H=>ta σ H λvs H1=>∃ v w,vs=[v,w]/\D.nx ((σ.set i (some v)).set j (some w)) H1
theorem Gy {i j:Nat}{x y:Str}{a b:Nf}{ta:TA}{px py pt:Pos}{kt k2 pt2}(hc:X.calm=true)(hN:X.N.Nodup)(hi:X.N[i]? = some x)(hj:X.N[j]? = some y)(hij:i≠j)
  (hx:X.env.scope.names.lookup x=some .local) (hy:X.env.scope.names.lookup y=some .local) (ha:PA X [a,b] ta)
  (hw:P8 [.Tuple [.Name x px,.Name y py] kt pt] (.Tuple [a,b] k2 pt2) X.env=pure (some [x,y]))
  (hs:P7 [.Tuple [.Name x px,.Name y py] kt pt] (.Tuple [a,b] k2 pt2) pos.line X.env=pure false:=by rfl) :
  PS X (.Assign [.Tuple [.Name x px,.Name y py] kt pt] (.Tuple [a,b] k2 pt2) pos) (Ma i j ta):=by
 intro pins s σ H D I h
 rw[exec_Assign_arm]
 refine MM (Q7 ?_)
 rw[hs]
 refine MM (wpAny_pure ?_)
 rw[if_neg (by decide)]
 refine MM (Tuple_ (thn (ha _ pins s σ H _ I h) λus s1 ⟨vs,H1,I1,r1,q1⟩=>?_))
 obtain ⟨v,w,e1,q1⟩:=q1
 subst e1
 obtain ⟨u1,u2,rfl,rv,rw'⟩:∃ u1 u2,us=[u1,u2]/\RelV v u1/\RelV w u2:=by
  cases r1 with
  | cons p q=>
   cases q with
   | cons p' q'=>
    cases q'
    exact ⟨_,_,rfl,p,p'⟩
 refine NJ ?_ (by show 2<=sizeLine;decide)
 have I2:Inv X pins σ H1 { s1 with heap:=s1.heap.push { cls:=.type "tuple", data:=.seq [u1,u2].toArray } }:=I1.kept (t':=s1.toks) λb o e=>MP _ e
 rw[hw]
 refine MM (wpAny_pure ?_)
 show M4 (Nb X.prog X.w) X.A (do rule "assign.swapped-stores";let items ← unpackItems (.ref s1.heap.objs.size) 2 none;SM [λv=>UJ X.env y v,λv=>UJ X.env x v] items.reverse;pure Flow.next) _ _ _
 refine MM (OW (MM (unpackItems_tuple (items:=#[u1,u2]) (I.ok.hd hc) (IsTup.new s1.heap _) λh' hx'=>?_)))
 have I3:=I2.kept (h':=h') (t':=s1.toks) λb o e=>hx' b o (Na (M1 e)) e
 show M4 _ _ (SM [λv=>UJ X.env y v,λv=>UJ X.env x v] [u2,u1] >>= λ_=>pure Flow.next) _ _ _
 refine MM (QF (wpAny_bindName (fQ I3 hN hj (.inl hy) rw' (λs2 I4=>?_) (.inr hy))))
 refine QF (wpAny_bindName (fQ I4 hN hi (.inl hx) rv (λs3 I5=>Tu (wpAny_pure ?_)) (.inr hx)))
 rw[List.set_comm _ _ (Np hij)] at I5
 exact ⟨_,H1,I5,q1⟩
def KL (i:Nat)(te:TE)(ti:TIp):TS:=λD σ H=>∃ x,σ[i]? = some (some x)/\te σ H λy H1=>ti x y H1 λz H2=>D.nx (σ.set i (some z)) H2
theorem IA {i:Nat}{x:Str}{e:Nf}{te:TE}{op:UI}{ti:TIp}{pos':Pos}(hN:X.N.Nodup)(hi:X.N[i]? = some x)(hx:Loc X.env.scope x)(he:PE X e te)(ho:PIp X op ti)(hf:X.fn x=true∨X.env.scope.names.lookup x=some .local:=by first | exact .inl rfl | exact .inr rfl | assumption) :
  PS X (.AugAssign (.Name x pos') op e pos) (KL i te ti):=by
 intro pins s σ H D I h
 obtain ⟨v,e1,h⟩:=h
 obtain ⟨m,hn,hl⟩:=I.loc
 have vis:Vis X.env.scope x:=by rcases hx with k | k;exact .inl k;exact .inr (.inl k)
 obtain ⟨u,r,l⟩:=hl i x v hi e1 vis
 refine wpAny_AugAssign_Name ?_
 have go:M4 (Nb X.prog X.w) X.A (N1 e X.env) (λw s₂=>M4 (Nb X.prog X.w) X.A (inplaceOp op u w) (λr s₃=>M4 (Nb X.prog X.w) X.A (storeName X.env x r) (λ_=>SP X pins D .next) X.xe s₃) X.xe s₂) X.xe s:=by
  refine thn (he pins s σ H _ I h) λw s1 ⟨y,H1,I1,r1,q1⟩=>?_
  refine thn (ho pins s1 σ H1 v y u w _ I1 r r1 q1) λz s2 ⟨zv,H2,I2,r2,q2⟩=>?_
  exact fQ I2 hN hi hx r2 (λs3 I3=>⟨_,H2,I3,q2⟩) hf
 rcases l with ⟨hk,hm⟩ | ⟨hk,c,hc,hcell⟩
 ·exact Sd I.ok.kind hk hn hm go
 ·rcases hk with hk | hk
  ·exact SF I.ok.kind hk hc hcell go
  ·rcases hx with k | k
   ·have:X.env.scope.names.lookup x=some .free:=hk
    rw[k] at this;cases this
   ·have:X.env.scope.names.lookup x=some .free:=hk
    rw[k] at this;cases this
def ipI (f:Int->Int->Int):TIp:=λx y H Q=>∃ i j,x=.int i/\y=.int j/\Q (.int (f i j)) H
theorem Jl:PIp X .Add (ipI λi j=>i+j):=by
 intro pins s σ H x y v u Q I r1 r2 h
 obtain ⟨i,j,e1,e2,q⟩:=h
 subst e1;subst e2
 obtain ⟨t,rfl⟩:=r1
 obtain ⟨t',rfl⟩:=r2
 exact iadd_int ⟨.int _,H,I.tok _,⟨_,rfl⟩,q⟩
end
section
variable {X:Cx} {pos:Pos}
def Hf (c:TT)(tb:TS):TS:=λD σ H=>∃ W:Nat->St->Hp->Prop,(∃ m,W m σ H)/\∀ m σ H,W m σ H->
 c σ H λb H1=>if b=true then ∃ N:St->Hp->Prop,(∀ σ' H',N σ' H'->∃ m',m' < m/\W m' σ' H')/\tb { D with nx:=N,ct:=N,bk:=D.nx } σ H1 else D.nx σ H1
theorem AQ {c:Nf}{body:List Stmt}{tc:TT}{tb:TS}(hp:Ub (Nb X.prog X.w) X.A X.env X.xe)(hc:PT X c tc)(hb:PSs X body tb):PS X (.While c body [] pos) (Hf tc tb):=by
 intro pins s σ H D I h
 obtain ⟨W,⟨m0,w0⟩,turn⟩:=h
 refine wpAny_While (codeAny_whileLoop (λn s'=>∃ σ' H',Inv X pins σ' H' s'/\W n σ' H') ?_ m0 ⟨σ,H,I,w0⟩)
 rintro n s1 ⟨σ1,H1,I1,w1⟩
 refine OE hp (thn (hc pins s1 σ1 H1 _ I1 (turn n σ1 H1 w1)) λb s2 ⟨H2,I2,q2⟩=>?_)
 cases b with
 | true=>
  obtain ⟨N,hN,q2⟩:=q2
  rw[if_pos rfl]
  refine OE hp (thn (hb pins s2 σ1 H2 _ I2 q2) λf s3 q3=>?_)
  cases f with
  | next=>
   obtain ⟨σ3,H3,I3,n3⟩:=q3
   obtain ⟨m',hm,w3⟩:=hN σ3 H3 n3
   exact ⟨m',hm,σ3,H3,I3,w3⟩
  | cont=>
   obtain ⟨σ3,H3,I3,n3⟩:=q3
   obtain ⟨m',hm,w3⟩:=hN σ3 H3 n3
   exact ⟨m',hm,σ3,H3,I3,w3⟩
  | brk=>exact q3
  | ret v=>exact q3
 | false=>
  rw[if_neg QG]
  exact Qg ⟨σ1,H2,I2,q2⟩
end
structure It where
 go:Nat->Hp->Prop
 yld:Nat->Hp->V->Hp->Prop
 stop:Nat->Hp->Prop
def lq (X:Cx)(pins:List (Addr×Obj))(H:Hp)(b:Addr):Prop:=
 H b=none/\b≠X.env.locals/\b ∉ X.fs/\(b∈X.ex∨X.s₀.heap.objs.size<=b)/\(∀ x c,X.env.cells.lookup x=some c->c≠b)/\∀ p∈X.pn++pins,p.1≠b
theorem Inv.pz {X:Cx}{pins:List (Addr×Obj)}{σ:St}{H H':Hp}{s:MQ}{b:Addr}(I:Inv X pins σ H s)(hb:s.heap.objs.size<=b)(hn:H' b=none):lq X pins H' b:=by
 refine ⟨hn,OX (M9 I.lt hb),I.Mw hb,.inr (NR I.sz hb),λx c e z=>?_,λp hp z=>?_⟩
 ·obtain ⟨v,q⟩:=I.cell x c e
  exact absurd (M9 q.lt (by rw[z];exact hb)) (Pn _)
 ·exact absurd (M9 (M1 (I.pin p hp).1) (by rw[z];exact hb)) (Pn _)
structure Turn (P:Nh) (w:Nw) (K:ML) (tg:Nf) (J:It) (fp:List Addr) (it:Addr) (tn:Nat->Heap->Prop):Prop where
 mem:it∈fp
 obj:∀ i h,tn i h->∀ b∈fp,∃ o,h.get? b=some o/\∀ v,o.data≠.cell v
 keep:∀ i h h',tn i h->(∀ b∈fp,∀ o,h.get? b=some o->h'.get? b=some o)->tn i h'
 item:∀ (X:Cx),X.prog=P->X.w=w->X.K=K->X.calm=true->∀ (i:Nat) (pins:List (Addr×Obj)) (s:MQ) (σ:St) (H:Hp) (E:MN->MQ->Prop),Inv X pins σ H s->(∀ b∈fp,lq X pins H b)->tn i s.heap->J.go i H->
  M4 (Nb P w) X.A (Pk (.ref it)) (λr s1=>∃ u,r=some u/\
   M4 (Nb P w) X.A (Qh tg (.ref it) u) (λ_ s2=>∃ x H',Inv X pins σ H' s2/\RelV x u/\J.yld i H x H'/\tn (i+1) s2.heap/\∀ b∈fp,H' b=none) E s1) E s
 done:∀ (X:Cx),X.prog=P->X.w=w->X.K=K->X.calm=true->∀ (i:Nat) (pins:List (Addr×Obj)) (s:MQ) (σ:St) (H:Hp) (E:MN->MQ->Prop),Inv X pins σ H s->(∀ b∈fp,lq X pins H b)->tn i s.heap->J.stop i H->
  M4 (Nb P w) X.A (Pk (.ref it)) (λr s1=>r=none/\Inv X pins σ H s1) E s
 self:∀ (A:NH) (i:Nat) (s:MQ) (Q:MN->MQ->Prop) (E:MN->MQ->Prop),tn i s.heap->Q (.ref it) s->M4 (Nb P w) A (pyIter (.ref it)) Q E s
abbrev TI:=St->Hp->(It->Hp->Prop)->Prop
def PIE (X:Cx)(pins:List (Addr×Obj))(σ:St)(tg:Nf)(R:It->Hp->Prop)(itv:MN)(s2:MQ):Prop:=
 ∃ (it:Addr) (fp:List Addr) (tn:Nat->Heap->Prop) (J:It) (H':Hp),itv=.ref it/\Inv X pins σ H' s2/\Turn X.prog X.w X.K tg J fp it tn/\tn 0 s2.heap/\(∀ b∈fp,lq X pins H' b)/\R J H'
def PI (X:Cx)(tg iter:Nf)(wi:TI):Prop:=
 ∀ (pins:List (Addr×Obj)) (s:MQ) (σ:St) (H:Hp) (R:It->Hp->Prop),Inv X pins σ H s->wi σ H R->
  M4 (Nb X.prog X.w) X.A (N1 iter X.env) (λv s1=>M4 (Nb X.prog X.w) X.A (pyIter v) (PIE X pins σ tg R) X.xe s1) X.xe s
theorem sR {M:Model}{A:NH}{E:MN->MQ->Prop}{s:MQ}{tg:Nf}{it:Addr}{u:MN}{o:Obj}{n:String}{vs:Array MN}{Q:Unit->MQ->Prop}(ho:s.heap.get? it=some o)(hc:o.cls=.type n)(hd:o.data=.fields vs)
  (hn:["enumerate", "zip", "dict_itemiterator", "dict_reverseitemiterator", "odict_iterator", "itertools.zip_longest", "itertools.pairwise"].contains n=false) (hQ:Q () s):M4 M A (Qh tg (.ref it) u) Q E s:=by
 unfold Qh
 cases tg<;>first
  | exact wpAny_pure hQ
  | (cases u<;>first
    | exact wpAny_pure hQ
    | (refine MM (wpAny_load ho ?_)
       rw[hc,hd]
       show M4 M A (if (["enumerate", "zip", "dict_itemiterator", "dict_reverseitemiterator", "odict_iterator", "itertools.zip_longest", "itertools.pairwise"].contains n&&vs[0]? == some (OQ _))=true then _ else _) Q E s
       rw[if_neg (by intro h;rw[hn,UK] at h;cases h)]
       exact wpAny_pure hQ))
def Itl (K:ML)(a:Addr):It:=
 ⟨λi H=>∃ xs x,SqL K H a xs/\xs[i]? = some x,λi H x H'=>H'=H/\∀ xs,SqL K H a xs->xs[i]? = some x,λi H=>∃ xs,SqL K H a xs/\xs.length<=i⟩
def Itt (K:ML)(a:Addr):It:=
 ⟨λi H=>∃ xs x,SqT K H a xs/\xs[i]? = some x,λi H x H'=>H'=H/\∀ xs,SqT K H a xs->xs[i]? = some x,λi H=>∃ xs,SqT K H a xs/\xs.length<=i⟩
def Itr (lo:Int)(n:Nat):It:=⟨λi _=>i < n,λi H x H'=>H'=H/\x=.int (lo+i),λi _=>n<=i⟩
theorem oB {P:Nh}{w:Nw}{K:ML}{tg:Nf}(a it:Addr):Turn P w K tg (Itl K a) [it] it (λi h=>h.IsListIter it a i) where
 mem:=by simp
 obj:=λi h st b hb=>by
  have e:b=it:=by simpa using hb
  subst e
  obtain ⟨o,e,c,d⟩:=st
  exact ⟨o,e,λv z=>by rw[d] at z;cases z⟩
 keep:=λi h h' st k=>st.at λo e=>k it (by simp) o e
 item:=by
  intro X hP hw hK hc i pins s σ H E I hf st hg
  subst hP hw hK
  obtain ⟨xs,x,hq,hx⟩:=hg
  obtain ⟨its,rv,p,hz⟩:=I.list hq
  obtain ⟨u,hu,ru⟩:=rv.get hx
  obtain ⟨f0,f1,f2,f3,f4,f5⟩:=hf it (by simp)
  refine RE st p.isList (x:=u) (by simpa using hu) λh' st' sb=>?_
  have I1:Inv X pins σ H { s with heap:=h' }:=I.turned (t':=s.toks) (λb o hb e=>(sb.2 b hb).trans e) f0 f1 f3 f4 f5
  obtain ⟨o,e,c,d⟩:=id st'
  exact ⟨u,rfl,sR (s:={ s with heap:=h' }) e c d (by decide) ⟨x,H,I1,ru,⟨rfl,λys hy=>by rw[I.sF hy hq];exact hx⟩,st',λb hb=>(hf b hb).1⟩⟩
 done:=by
  intro X hP hw hK hc i pins s σ H E I hf st hg
  subst hP hw hK
  obtain ⟨xs,hq,hx⟩:=hg
  obtain ⟨its,rv,p,hz⟩:=I.list hq
  obtain ⟨f0,f1,f2,f3,f4,f5⟩:=hf it (by simp)
  have hl:=rv.length
  exact R6 (I.ok.hd hc) st p.isList (by simp;omega) λh' eb=>⟨rfl,I.turned (t':=s.toks) (λb o hb e=>eb b o hb e) f0 f1 f3 f4 f5⟩
 self:=λ_ _ _ _ _ st h=>wpAny_pyIter_listiter st h
theorem vV {P:Nh}{w:Nw}{K:ML}{tg:Nf}(a it:Addr):Turn P w K tg (Itt K a) [it] it (λi h=>h.IsTupleIter it a i) where
 mem:=by simp
 obj:=λi h st b hb=>by
  have e:b=it:=by simpa using hb
  subst e
  obtain ⟨o,e,c,d⟩:=st
  exact ⟨o,e,λv z=>by rw[d] at z;cases z⟩
 keep:=λi h h' st k=>st.at λo e=>k it (by simp) o e
 item:=by
  intro X hP hw hK hc i pins s σ H E I hf st hg
  subst hP hw hK
  obtain ⟨xs,x,hq,hx⟩:=hg
  obtain ⟨its,rv,p,hz⟩:=I.tuple hq
  obtain ⟨u,hu,ru⟩:=rv.get hx
  obtain ⟨f0,f1,f2,f3,f4,f5⟩:=hf it (by simp)
  refine wpAny_pyNext_tuple_item st (show s.heap.IsTuple a its.toArray from p) (x:=u) (by simpa using hu) λh' st' sb=>?_
  have I1:Inv X pins σ H { s with heap:=h' }:=I.turned (t':=s.toks) (λb o hb e=>(sb.2 b hb).trans e) f0 f1 f3 f4 f5
  obtain ⟨o,e,c,d⟩:=id st'
  exact ⟨u,rfl,sR (s:={ s with heap:=h' }) e c d (by decide) ⟨x,H,I1,ru,⟨rfl,λys hy=>by rw[I.jv hy hq];exact hx⟩,st',λb hb=>(hf b hb).1⟩⟩
 done:=by
  intro X hP hw hK hc i pins s σ H E I hf st hg
  subst hP hw hK
  obtain ⟨xs,hq,hx⟩:=hg
  obtain ⟨its,rv,p,hz⟩:=I.tuple hq
  obtain ⟨f0,f1,f2,f3,f4,f5⟩:=hf it (by simp)
  have hl:=rv.length
  exact wpAny_pyNext_tuple_end (I.ok.hd hc) st (show s.heap.IsTuple a its.toArray from p) (by simp;omega) λh' eb=>⟨rfl,I.turned (t':=s.toks) (λb o hb e=>eb b o hb e) f0 f1 f3 f4 f5⟩
 self:=λ_ _ _ _ _ st h=>wpAny_pyIter_tupleiter st h
theorem vY {P:Nh}{w:Nw}{K:ML}{tg:Nf}(it:Addr)(lo:Int)(n:Nat):Turn P w K tg (Itr lo n) [it] it (λi h=>IsRangeIter h it (lo+(i:Nat)*1) ((n:Int) - (i:Nat)) 1) where
 mem:=by simp
 obj:=λi h st b hb=>by
  have e:b=it:=by simpa using hb
  subst e
  exact ⟨_,st,λv z=>by
   have z':Data.fields _=Data.cell v:=z
   cases z'⟩
 keep:=λi h h' st k=>k it (by simp) _ st
 item:=by
  intro X hP hw hK hc i pins s σ H E I hf st hg
  subst hP hw hK
  obtain ⟨f0,f1,f2,f3,f4,f5⟩:=hf it (by simp)
  have W:=Walks.range (prog:=X.prog) (w:=X.w) (I.ok.hd hc) it lo 1 n
  refine W.item i s _ _ hg st λv h' tk hv st' kk=>?_
  obtain ⟨t,rfl⟩:=hv
  have I1:Inv X pins σ H { s with heap:=h',toks:=tk }:=I.turned (λb o hb e=>kk b o (by simpa using hb) e) f0 f1 f3 f4 f5
  refine ⟨_,rfl,sR (s:={ s with heap:=h',toks:=tk }) (n := "range_iterator") st' rfl rfl (by decide) ⟨.int (lo+i),H,I1,⟨t,?_⟩,⟨rfl,rfl⟩,st',λb hb=>(hf b hb).1⟩⟩
  rw[Int.mul_one]
 done:=by
  intro X hP hw hK hc i pins s σ H E I hf st hg
  subst hP hw hK
  obtain ⟨f0,f1,f2,f3,f4,f5⟩:=hf it (by simp)
  exact wpAny_pyNext_range_end (I.ok.hd hc) st (by have:n<=i:=hg;omega) λh' eb=>⟨rfl,I.turned (t':=s.toks) (λb o hb e=>eb b o hb e) f0 f1 f3 f4 f5⟩
 self:=λ_ _ _ _ _ st h=>wpAny_pyIter_rangeiter st h
end L2
namespace L2
open PySem PySem.Spec PyProof.Rows
section
variable {X:Cx} {tg:Nf}
def FP (K:ML)(tl:TE):TI:=λσ H R=>tl σ H λx H1=>∃ a,x=.ref a/\(∃ xs,SqL K H1 a xs)/\R (Itl K a) H1
theorem DF {l:Nf}{tl:TE}(hl:PE X l tl):PI X tg l (FP X.K tl):=by
 intro pins s σ H R I h
 refine thn (hl pins s σ H _ I h) λv s1 ⟨x,H1,I1,r1,q1⟩=>?_
 obtain ⟨a,e,⟨xs,hq⟩,q⟩:=q1
 subst e
 cases r1
 obtain ⟨its,rv,p,hz⟩:=I1.list hq
 refine O8 p.isList ?_
 refine ⟨s1.heap.objs.size,[s1.heap.objs.size],_,_,H1,rfl,I1.kept (t':=s1.toks) λb o e=>MP _ e,oB a _,⟨_,MW _ rfl,rfl,rfl⟩,λb hb=>?_,q⟩
 have e:b=s1.heap.objs.size:=by simpa using hb
 subst e
 exact I1.pz (M0 _) (I1.hok.fresh (M0 _))
theorem Ar {pins:List (Addr×Obj)}{σ:St}{H:Hp}{s:MQ}{R:It->Hp->Prop}{E:MN->MQ->Prop}{lo hi:Int}{t u v:Tok}{tk:Nat}(I:Inv X pins σ H s)(h1:-(2 ^ 62)<=lo)(h2:lo < 2 ^ 62)(h3:-(2 ^ 62)<=hi)(h4:hi < 2 ^ 62)
  (q:R (Itr lo (hi - lo).toNat) H):M4 (Nb X.prog X.w) X.A (pyIter (.ref s.heap.objs.size)) (PIE X pins σ tg R) E { s with heap:=s.heap.push { cls:=.type "range", data:=.fields #[.int lo t,.int hi u,.int 1 v] },toks:=tk }:=by
 refine wpAny_pyIter_range (IsRange.new ..) (small_one h1 h2 h3 h4) ?_
 have I1:Inv X pins σ H { s with heap:=s.heap.push { cls:=.type "range", data:=.fields #[.int lo t,.int hi u,.int 1 v] },toks:=tk }:=I.kept λb o e=>MP _ e
 refine ⟨(s.heap.push { cls:=.type "range", data:=.fields #[.int lo t,.int hi u,.int 1 v] }).objs.size,[(s.heap.push { cls:=.type "range", data:=.fields #[.int lo t,.int hi u,.int 1 v] }).objs.size],_,_,H,rfl,
  I1.kept (t':=tk) λb o e=>MP _ e,vY _ lo (hi - lo).toNat,?_,λb hb=>?_,q⟩
 ·have e1:lo+((0:Nat):Int)*1=lo:=by simp
  have e2:(((hi - lo).toNat:Nat):Int) - ((0:Nat):Int)=Va lo hi 1:=by rw[rangeSize_one];split<;>omega
  show IsRangeIter _ _ (lo+((0:Nat):Int)*1) ((((hi - lo).toNat:Nat):Int) - ((0:Nat):Int)) 1
  rw[e1,e2]
  exact MW _ rfl
 ·have e:b=(s.heap.push { cls:=.type "range", data:=.fields #[.int lo t,.int hi u,.int 1 v] }).objs.size:=by simpa using hb
  subst e
  exact I1.pz (M0 _) (I1.hok.fresh (M0 _))
def JQ (ta:TA):TI:=λσ H R=>ta σ H λvs H1=>∃ j:Int,vs=[.int j]/\-(2 ^ 62)<=j/\j < 2 ^ 62/\R (Itr 0 j.toNat) H1
theorem xJ {a:Nf}{ta:TA}{p pos:Pos}(hg:Gl X "range")(hm:X.mg "range" = none)(ha:PA X [a] ta)(hs:M6 [a] X.env=[(false,N1 a X.env)]:=by rfl):PI X tg (.Call (.Name "range" p) [a] [] pos) (JQ ta):=by
 intro pins s σ H R I h
 refine Call_ (jn I hg hm boot_range (N7 (thn (ha pos pins s σ H _ I h) λus s1 ⟨vs,H1,I1,r1,q1⟩=>?_) hs rfl))
 obtain ⟨j,e,q1,q2,q⟩:=q1
 subst e
 cases r1 with
 | cons r rr=>
  cases rr
  obtain ⟨t,rfl⟩:=r
  exact call_range_1 (Ar I1 (by omega) (by omega) q1 q2 (by simpa using q))
def Ly (wi:TI)(g:TG)(tb:TS):TS:=λD σ H=>wi σ H λJ H1=>∃ W:Nat->Nat->St->Hp->Prop,(∃ m,W 0 m σ H1)/\∀ i m σ H,W i m σ H->
 (J.stop i H/\D.nx σ H)∨(J.go i H/\∃ N:St->Hp->Prop,(∀ σ' H',N σ' H'->∃ m',m' < m/\W (i+1) m' σ' H')/\∀ x H',J.yld i H x H'->g x σ H' λσ2 H2=>tb { D with nx:=N,ct:=N,bk:=D.nx } σ2 H2)
def k9 (fp:List Addr)(h:Heap):List (Addr×Obj):=fp.filterMap λb=>(h.get? b).map λo=>(b,o)
theorem cX {fp:List Addr}{h:Heap}{b:Addr}{o:Obj}(hb:b∈fp)(e:h.get? b=some o):(b,o)∈k9 fp h:=S4.mpr ⟨b,hb,by rw[e];rfl⟩
theorem yl {fp:List Addr}{h:Heap}{p:Addr×Obj}(hp:p∈k9 fp h):p.1∈fp/\h.get? p.1=some p.2:=by
 obtain ⟨b,hb,e⟩:=S4.mp hp
 cases q:h.get? b with
 | none=>rw[q] at e;cases e
 | some o=>
  rw[q] at e
  have e':(b,o)=p:=Nl e
  subst e'
  exact ⟨hb,q⟩
theorem Inv.pinned {pins:List (Addr×Obj)}{σ:St}{H:Hp}{s:MQ}{fp:List Addr}(I:Inv X pins σ H s)(hf:∀ b∈fp,lq X pins H b)(ho:∀ b∈fp,∃ o,s.heap.get? b=some o/\∀ v,o.data≠.cell v):Inv X (pins++k9 fp s.heap) σ H s:=
 I.wM λp hp=>(NM.mp hp).elim (λz=>I.pin p (Ng _ z)) λz=>by
  obtain ⟨hb,e⟩:=yl z
  obtain ⟨f0,f1,f2,_⟩:=hf p.1 hb
  obtain ⟨o,e',d⟩:=ho p.1 hb
  rw[e] at e';cases e'
  exact ⟨e,f0,f1,f2,d⟩
theorem Inv.fY {pins pl:List (Addr×Obj)}{σ:St}{H:Hp}{s:MQ}(I:Inv X (pins++pl) σ H s):Inv X pins σ H s:=I.wM λp hp=>I.pin p (Ng _ (Og _ hp))
theorem GN {iter:Nf}{body:List Stmt}{wi:TI}{g:TG}{tb:TS}{pos:Pos}(hp:Ub (Nb X.prog X.w) X.A X.env X.xe)(hc:X.calm=true)(hi:PI X tg iter wi)(hg:PG X tg g)(hb:PSs X body tb)
  (hs:∀ x,NS iter X.env x=pure x:=by intro _;rfl):PS X (.For tg iter body [] pos) (Ly wi g tb):=by
 intro pins s σ H D I h
 refine wpAny_For (thn (hi pins s σ H _ I h) λv s1 h1=>thn h1 λitv s2 h2=>?_) hs
 obtain ⟨it,fp,tn,J,H2,e,I2,T,st2,f2,W,⟨m0,w0⟩,turn⟩:=h2
 subst e
 -- what stays true of the iterator's objects through the loop
 have vG:∀ {H':Hp},(∀ b∈fp,H' b=none)->∀ b∈fp,lq X pins H' b:=λhn b hb=>⟨hn b hb,(f2 b hb).2⟩
 refine codeAny_forLoop_any (λn s'=>∃ i σ' H',Inv X pins σ' H' s'/\tn i s'.heap/\(∀ b∈fp,H' b=none)/\W i n σ' H') ?_ m0 ⟨0,σ,H2,I2,st2,λb hb=>(f2 b hb).1,w0⟩
 rintro n s3 ⟨i,σ3,H3,I3,st3,fr3,w3⟩
 rcases turn i n σ3 H3 w3 with ⟨stop,qn⟩ | ⟨go,N,hN,step⟩
 ·refine OE hp (thn (T.done X rfl rfl rfl hc i pins s3 σ3 H3 X.xe I3 (vG fr3) st3 stop) λr s4 ⟨hr,I4⟩=>?_)
  subst hr
  exact Qg ⟨σ3,H3,I4,qn⟩
 ·refine OE hp (thn (T.item X rfl rfl rfl hc i pins s3 σ3 H3 X.xe I3 (vG fr3) st3 go) λr s4 ⟨u,hr,h4⟩=>?_)
  subst hr
  refine OE hp (thn h4 λ_ s5 ⟨x,H5,I5,r5,y5,st5,fr5⟩=>?_)
  have I5':=I5.pinned (vG fr5) (T.obj _ _ st5)
  refine OE hp (thn (hg _ s5 σ3 H5 x u _ I5' r5 (step x H5 y5)) λ_ s6 ⟨σ6,H6,I6,q6⟩=>?_)
  refine OE hp (thn (hb _ s6 σ6 H6 _ I6 q6) λf s7 q7=>?_)
  have again:∀ {σ7:St} {H7:Hp},Inv X (pins++k9 fp s5.heap) σ7 H7 s7->N σ7 H7->∃ m,m < n/\∃ i σ' H',Inv X pins σ' H' s7/\tn i s7.heap/\(∀ b∈fp,H' b=none)/\W i m σ' H':=λ{σ7 H7} I7 n7=>by
   obtain ⟨m',hm,w7⟩:=hN σ7 H7 n7
   refine ⟨m',hm,i+1,σ7,H7,I7.fY,T.keep _ _ _ st5 λb hb o e=>(I7.pin (b,o) (Ng _ (Ng _ (cX hb e)))).1,λb hb=>?_,w7⟩
   obtain ⟨o,e,d⟩:=T.obj _ _ st5 b hb
   exact (I7.pin (b,o) (Ng _ (Ng _ (cX hb e)))).2.1
  cases f with
  | next=>obtain ⟨σ7,H7,I7,n7⟩:=q7;exact again I7 n7
  | cont=>obtain ⟨σ7,H7,I7,n7⟩:=q7;exact again I7 n7
  | brk=>obtain ⟨σ7,H7,I7,q7⟩:=q7;exact ⟨σ7,H7,I7.fY,q7⟩
  | ret v=>obtain ⟨x7,σ7,H7,I7,r7,q7⟩:=q7;exact ⟨x7,σ7,H7,I7.fY,r7,q7⟩
end
end L2
namespace L2
open PySem PySem.Spec PyProof.Rows
abbrev R2:=V->V->Hp->VK->Prop
def OpR (X:Cx)(f:MN->MN->Sem MN)(r:R2):Prop:=
 ∀ (pins:List (Addr×Obj)) (s:MQ) (σ:St) (H:Hp) (x y:V) (v u:MN) (Q:VK),Inv X pins σ H s->RelV x v->RelV y u->r x y H Q->
  M4 (Nb X.prog X.w) X.A (f v u) (EP X pins σ Q) X.xe s
def UnR (X:Cx)(f:MN->Sem MN)(r:V->Hp->VK->Prop):Prop:=
 ∀ (pins:List (Addr×Obj)) (s:MQ) (σ:St) (H:Hp) (x:V) (v:MN) (Q:VK),Inv X pins σ H s->RelV x v->r x H Q->
  M4 (Nb X.prog X.w) X.A (f v) (EP X pins σ Q) X.xe s
def bL (X:Cx)(f:MN)(r:List V->Hp->VK->Prop):Prop:=
 ∀ (pins:List (Addr×Obj)) (s:MQ) (σ:St) (H:Hp) (xs:List V) (us:List MN) (Q:VK),Inv X pins σ H s->Vals xs us->r xs H Q->
  M4 (Nb X.prog X.w) X.A (call f us) (EP X pins σ Q) X.xe s
def tOp (r:R2)(ta tb:TE):TE:=λσ H Q=>ta σ H λx H1=>tb σ H1 λy H2=>r x y H2 Q
def tUn (r:V->Hp->VK->Prop)(ta:TE):TE:=λσ H Q=>ta σ H λx H1=>r x H1 Q
def rI (C:Int->Int->Prop)(g:Int->Int->V):R2:=λx y H Q=>∃ i j,x=.int i/\y=.int j/\C i j/\Q (g i j) H
def rI0 (g:Int->Int->V):R2:=λx y H Q=>∃ i j,x=.int i/\y=.int j/\Q (g i j) H
def rU (g:Int->V):V->Hp->VK->Prop:=λx H Q=>∃ i,x=.int i/\Q (g i) H
section
variable {X:Cx} {a b c:Nf} {ta tb tc:TE} {pos:Pos}
theorem GB (ha:PE X a ta)(hb:PE X b tb){pins:List (Addr×Obj)}{s:MQ}{σ:St}{H:Hp}{R:V->V->Hp->Prop}(I:Inv X pins σ H s)
  (h:ta σ H λx H1=>tb σ H1 λy H2=>R x y H2) {Q:MN->MQ->Prop} {f:MN->MN->Sem MN}
  (hf:∀ v u s2 x y H2,Inv X pins σ H2 s2->RelV x v->RelV y u->R x y H2->M4 (Nb X.prog X.w) X.A (f v u) Q X.xe s2) :
  M4 (Nb X.prog X.w) X.A (N1 a X.env) (λv s₁=>M4 (Nb X.prog X.w) X.A (N1 b X.env) (λu s₂=>M4 (Nb X.prog X.w) X.A (f v u) Q X.xe s₂) X.xe s₁) X.xe s:=by
 refine thn (ha pins s σ H _ I h) λv s1 ⟨x,H1,I1,r1,q1⟩=>?_
 refine thn (hb pins s1 σ H1 _ I1 q1) λu s2 ⟨y,H2,I2,r2,q2⟩=>?_
 exact hf v u s2 x y H2 I2 r1 r2 q2
theorem Fy {op:UI}{r:R2}(ho:OpR X (OR op) r)(ha:PE X a ta)(hb:PE X b tb):PE X (.BinOp a op b pos) (tOp r ta tb):=by
 intro pins s σ H Q I h
 exact wpAny_BinOp (GB ha hb I h λv u s2 x y H2 I2 rx ry q=>ho pins s2 σ H2 x y v u Q I2 rx ry q)
theorem Ke {op:UnaryOp}{r:V->Hp->VK->Prop}(ho:UnR X (unaryOp op) r)(ha:PE X a ta):PE X (.UnaryOp op a pos) (tUn r ta):=by
 intro pins s σ H Q I h
 exact UnaryOp_ (thn (ha pins s σ H _ I h) λv s1 ⟨x,H1,I1,r1,q1⟩=>ho pins s1 σ H1 x v Q I1 r1 q1)
theorem opI {f:MN->MN->Sem MN}{C:Int->Int->Prop}{g:Int->Int->Int}
  (rule:∀ (i j:Int) (t u:Tok) (s:MQ) (Q:MN->MQ->Prop) (E:MN->MQ->Prop),C i j->Q (.int (g i j) s.toks) { s with toks:=s.toks+1 }->M4 (Nb X.prog X.w) X.A (f (.int i t) (.int j u)) Q E s) :
  OpR X f (rI C λi j=>.int (g i j)):=by
 intro pins s σ H x y v u Q I rx ry h
 obtain ⟨i,j,rfl,rfl,hc,q⟩:=h
 obtain ⟨t,rfl⟩:=rx
 obtain ⟨t',rfl⟩:=ry
 exact rule i j t t' s _ _ hc ⟨.int (g i j),H,I.tok _,⟨_,rfl⟩,q⟩
theorem J5 {f:MN->MN->Sem MN}{g:Int->Int->Int}
  (rule:∀ (i j:Int) (t u:Tok) (s:MQ) (Q:MN->MQ->Prop) (E:MN->MQ->Prop),Q (.int (g i j) s.toks) { s with toks:=s.toks+1 }->M4 (Nb X.prog X.w) X.A (f (.int i t) (.int j u)) Q E s) :
  OpR X f (rI0 λi j=>.int (g i j)):=by
 intro pins s σ H x y v u Q I rx ry h
 obtain ⟨i,j,rfl,rfl,q⟩:=h
 obtain ⟨t,rfl⟩:=rx
 obtain ⟨t',rfl⟩:=ry
 exact rule i j t t' s _ _ ⟨.int (g i j),H,I.tok _,⟨_,rfl⟩,q⟩
theorem D7 {f:MN->MN->Sem MN}{g:Int->Int->Bool}
  (rule:∀ (i j:Int) (t u:Tok) (s:MQ) (Q:MN->MQ->Prop) (E:MN->MQ->Prop),Q (.bool (g i j)) s->M4 (Nb X.prog X.w) X.A (f (.int i t) (.int j u)) Q E s) :
  OpR X f (rI0 λi j=>.bl (g i j)):=by
 intro pins s σ H x y v u Q I rx ry h
 obtain ⟨i,j,rfl,rfl,q⟩:=h
 obtain ⟨t,rfl⟩:=rx
 obtain ⟨t',rfl⟩:=ry
 exact rule i j t t' s _ _ ⟨.bl (g i j),H,I,rfl,q⟩
def L4 (i j:Int):Prop:=0<=j/\j<=1000000/\i.natAbs < 2 ^ 64
def J1 (i j:Int):Prop:=(-(2 ^ 64) < i/\i < 2 ^ 64)∨(-(2 ^ 64) < j/\j < 2 ^ 64)
theorem J1.ok {i j:Int}(h:J1 i j):IntMulOk i j:=by
 rcases h with ⟨h1,h2⟩ | ⟨h1,h2⟩
 ·exact .of_left (Q8 h1 h2)
 ·exact .of_right (Q8 h1 h2)
theorem HH:OpR X (OR .Add) (rI0 λi j=>.int (i+j)):=J5 λ_ _ _ _ _ _ _ q=>add_int q
theorem Ge:OpR X (OR .Sub) (rI0 λi j=>.int (i - j)):=J5 λ_ _ _ _ _ _ _ q=>sub_int q
theorem Dh:OpR X (OR .Mod) (rI (λ_ j=>j≠0) λi j=>.int (i.fmod j)):=opI λ_ _ _ _ _ _ _ hc q=>mod_int' hc q
theorem Gi:OpR X (OR .Pow) (rI L4 λi j=>.int (i ^ j.toNat)):=opI λ_ _ _ _ _ _ _ hc q=>pow_int_small hc.1 hc.2.1 hc.2.2 q
theorem unI {f:MN->Sem MN}{g:Int->Int}
  (rule:∀ (i:Int) (t:Tok) (s:MQ) (Q:MN->MQ->Prop) (E:MN->MQ->Prop),Q (.int (g i) s.toks) { s with toks:=s.toks+1 }->M4 (Nb X.prog X.w) X.A (f (.int i t)) Q E s) :
  UnR X f (rU λi=>.int (g i)):=by
 intro pins s σ H x v Q I rx h
 obtain ⟨i,rfl,q⟩:=h
 obtain ⟨t,rfl⟩:=rx
 exact rule i t s _ _ ⟨.int (g i),H,I.tok _,⟨_,rfl⟩,q⟩
theorem GH:UnR X (unaryOp .USub) (rU λi=>.int (-i)):=unI λ_ _ _ _ _ q=>neg_int q
end
def KQ:V->V->Bool
 | .non,.non=>true | .non,.int _=>true | .int _,.non=>true | .non,.bl _=>true | .bl _,.non=>true | .non,.str _=>true | .str _,.non=>true
 | .int _,.int _=>true | .bl _,.bl _=>true | .str _,.str _=>true | .byt _,.byt _=>true
 | .int _,.str _=>true | .str _,.int _=>true | .bl _,.str _=>true | .str _,.bl _=>true
 | _,_=>false
def rEq:R2:=λx y H Q=>KQ x y=true/\Q (.bl (decide (x=y))) H
def rNe:R2:=λx y H Q=>KQ x y=true/\Q (.bl (!decide (x=y))) H
section
variable {X:Cx} {a b c:Nf} {ta tb tc:TE} {pos:Pos}
theorem Gp {pins:List (Addr×Obj)}{σ:St}{H:Hp}{s:MQ}{Q:VK}{k k':Bool}(I:Inv X pins σ H s)(q:Q (.bl k) H)(e:k=k'):EP X pins σ Q (.bool k') s:=by
 subst e
 exact ⟨.bl k,H,I,rfl,q⟩
theorem FF:OpR X (N5 .Lt) (rI0 λi j=>.bl (decide (i < j))):=D7 λ_ _ _ _ _ _ _ q=>lt_int q
theorem Fv:OpR X (N5 .LtE) (rI0 λi j=>.bl (decide (i<=j))):=D7 λ_ _ _ _ _ _ _ q=>le_int q
theorem JE:OpR X (N5 .Gt) (rI0 λi j=>.bl (decide (j < i))):=D7 λ_ _ _ _ _ _ _ q=>gt_int q
theorem K0:OpR X (N5 .GtE) (rI0 λi j=>.bl (decide (j<=i))):=D7 λ_ _ _ _ _ _ _ q=>ge_int q
theorem Ay:OpR X (N5 .Is) (λx y H Q=>y=.non/\Q (.bl (decide (x=.non))) H):=by
 intro pins s σ H x y v u Q I rx ry h
 obtain ⟨rfl,q⟩:=h
 cases ry
 refine is_none_gen (Gp I q ?_)
 cases x<;>first
  | (cases rx;rfl)
  | (obtain ⟨t,rfl⟩:=rx;rfl)
theorem ck (b:Nf){op:Up}(h:op≠.In:=by decide)(h2:op≠.NotIn:=by decide):NU op b=false:=by
 have e1:(op == CmpOp.In)=false:=by cases op<;>first | rfl | exact absurd rfl h
 have e2:(op == Vm)=false:=by cases op<;>first | rfl | exact absurd rfl h2
 cases b<;>simp[NU,e1,e2]
theorem EK {op:Up}{r:R2}(ho:OpR X (N5 op) r)(ha:PE X a ta)(hb:PE X b tb)(hm:NU op b=false):PE X (.Compare a [op] [b] pos) (tOp r ta tb):=by
 intro pins s σ H Q I h
 exact wpAny_Compare1 (GB ha hb I h λv u s2 x y H2 I2 rx ry q=>ho pins s2 σ H2 x y v u Q I2 rx ry q) hm
def FR (t:TE):TT:=λσ H Q=>t σ H λx H'=>∃ k,x=.bl k/\Q k H'
theorem EU {op:Up}{r:R2}(ho:OpR X (N5 op) r)(ha:PE X a ta)(hb:PE X b tb)(hm:NU op b=false):PT X (.Compare a [op] [b] pos) (FR (tOp r ta tb)):=by
 intro pins s σ H Q I h
 refine R5 (thn (ha pins s σ H _ I h) λv s1 ⟨x,H1,I1,r1,q1⟩=>thn (hb pins s1 σ H1 _ I1 q1) λu s2 ⟨y,H2,I2,r2,q2⟩=>
  thn (ho pins s2 σ H2 x y v u _ I2 r1 r2 q2) λc s3 ⟨z,H3,I3,r3,k,e,q3⟩=>?_) hm
 subst e
 cases r3
 exact OH ⟨H3,I3,q3⟩
theorem hV:(sizeLine:Nat) < 2 ^ 63:=by rw[sizeLine_eq];decide
theorem uw:OpR X (OR .Add) (λx y H Q=>∃ i j,x=.str i/\y=.str j/\i.length+j.length<=sizeLine/\Q (.str (i++j)) H):=by
 intro pins s σ H x y v u Q I rx ry h
 obtain ⟨i,j,rfl,rfl,hz,q⟩:=h
 obtain ⟨t,rfl⟩:=rx
 obtain ⟨t',rfl⟩:=ry
 exact add_str (λt' tk=>⟨.str (i++j),H,I.tok _,⟨_,rfl⟩,q⟩) hz
theorem vals1 {x:V}{us:List MN}(r:Vals [x] us):∃ u,us=[u]/\RelV x u:=by
 cases r with
 | cons r1 r2=>cases r2;exact ⟨_,rfl,r1⟩
theorem f9:bL X (.builtin "abs") (λxs H Q=>∃ i,xs=[.int i]/\Q (.int (if i < 0 then -i else i)) H):=by
 intro pins s σ H xs us Q I r h
 obtain ⟨i,rfl,q⟩:=h
 obtain ⟨u,rfl,t,rfl⟩:=vals1 r
 exact call_abs_int λu tk=>⟨.int (if i < 0 then -i else i),H,I.tok _,⟨_,rfl⟩,q⟩
theorem yE:bL X (.type "int") (λxs H Q=>(∃ i,xs=[.int i]/\Q (.int i) H)∨∃ k,xs=[.bl k]/\Q (.int (if k then 1 else 0)) H):=by
 intro pins s σ H xs us Q I r h
 rcases h with ⟨i,rfl,q⟩ | ⟨k,rfl,q⟩
 ·obtain ⟨u,rfl,t,rfl⟩:=vals1 r
  exact call_int_int ⟨.int i,H,I,⟨_,rfl⟩,q⟩
 ·obtain ⟨u,rfl,r1⟩:=vals1 r
  cases r1
  exact call_int_bool ⟨.int (if k then 1 else 0),H,I.tok _,⟨_,rfl⟩,q⟩
end
end L2
namespace L2
open PySem PySem.Spec PyProof.Rows
structure MH (h:Heap) (x dx C:Addr) (mA:Str->Option MN):Prop where
 obj:h.get? x=some (Uv C dx)
 ns:h.Ns1 dx mA
 ne:dx≠x
section
variable {prog:Nh} {w:Nw} {A:NH} {E:MN->MQ->Prop} {s:MQ} {K:ML} {x dx C f:Addr} {mA:Str->Option MN} {name:Str} {v:MN}
end
theorem gD.some_of {v:V}{o:Option MN}(r:gD (some v) o):∃ u,o=some u/\RelV v u:=by
 cases o with
 | none=>exact (show False from r).elim
 | some u=>exact ⟨u,rfl,r⟩
theorem gD.none_of {o:Option MN}(r:gD none o):o=none:=by
 cases o with
 | none=>rfl
 | some u=>exact (show False from r).elim
section
variable {P:Nh} {w:Nw} {H H':Hp} {h h':Heap} {a C dx:Addr} {fs fs':List (Str×V)}
end
structure Cls (K:ML) (C:Addr):Prop where
 pg:Uc K C Str.empty=true
 hd:PySem.W.hasDictIn K C=true
 po:PySem.W.plainOver K C=true
 sa:PySem.W.findIn K (.ref C) "__setattr__" = some (some (.builtin "object.__setattr__"))
theorem Cls.get {K:ML}{C:Addr}(c:Cls K C)(f:Str):Uc K C f=true:=c.pg
section
variable {X:Cx} {pins:List (Addr×Obj)} {σ:St} {H:Hp} {s:MQ} {a C dx:Addr} {fs:List (Str×V)} {f:Str} {v:V} {A:NH} {E:MN->MQ->Prop}
end
section
variable {X:Cx} {o e value:Nf} {f:Str} {pos pos' tpos:Pos} {ta tv:TE}
def uP:V->V->Hp->VK->Prop:=λx y H Q=>∃ i j,x=.int i/\y=.int j/\Q (.int (i - j)) H
end
section
variable {X:Cx} {pins:List (Addr×Obj)} {σ:St} {H:Hp} {s:MQ} {A:NH} {E:MN->MQ->Prop} {Q:MN->MQ->Prop} {c:MN} {b:Bool}
end
end L2
namespace L2
open PySem PySem.Spec PyProof.Rows
structure di (k:Nat) (A:NH):Prop where
 hd:A.handled=none
 dp:A.depth+3*k+5 < recursionLimit
 un:A.units+16*k+200 < cLine
theorem di.mono {j k:Nat}{A:NH}(r:di k A)(h:j<=k):di j A:=⟨r.hd,by have:=r.dp;omega,by have:=r.un;omega⟩
theorem di.deeper {k:Nat}{A:NH}(r:di (k+1) A)(env:Env):di k (A.deeper env):=
 ⟨r.hd,by have:=r.dp;show A.depth+1+3*k+5 < _;omega,by have:=r.un;show A.units+3+16*k+200 < _;omega⟩
theorem di.depth {k:Nat}{A:NH}(r:di k A):A.depth < recursionLimit:=by have:=r.dp;omega
theorem di.units {k:Nat}{A:NH}(r:di k A):A.units+64 < cLine:=by have:=r.un;omega
def L8:TA:=λ_ H Q=>Q [] H
def JR (ta:TE)(tr:TA):TA:=λσ H Q=>ta σ H λx H1=>tr σ H1 λxs H2=>Q (x::xs) H2
section
variable {X:Cx} {e:Nf} {es:List Nf} {te:TE} {t:TA} {pos:Pos}
theorem qI:PA X [] L8:=λ_ _ _ _ H Q I h=>Tv ⟨[],H,I,.nil,h⟩
theorem kd (ha:PE X e te)(hr:PA X es t)(hs:M6 (e::es) X.env=(false,N1 e X.env)::M6 es X.env:=by rfl):PA X (e::es) (JR te t):=by
 intro pos pins s σ H Q I h
 rw[hs]
 show M4 _ _ (spliced ((false,N1 e X.env)::OL pos (M6 es X.env))) _ _ s
 refine S5 (thn (ha pins s σ H _ I h) λu s1 ⟨x,H1,I1,r1,q1⟩=>?_)
 exact thn (hr pos pins s1 σ H1 _ I1 q1) λus s2 ⟨xs,H2,I2,r2,q2⟩=>⟨x::xs,H2,I2,.cons r1 r2,q2⟩
def Mn (t:TA):TE:=λσ H Q=>t σ H λxs H1=>xs.length<=sizeLine/\∀ p,H1 p=none->Q (.ref p) (upd H1 p (.tup xs))
def Mh (t:TA):TE:=λσ H Q=>t σ H λxs H1=>xs.length<=sizeLine/\∀ p,H1 p=none->Q (.ref p) (upd H1 p (.lst xs))
theorem Hl {x1}(h:PA X es t):PE X (.Tuple es x1 pos) (Mn t):=by
 intro pins s σ H Q I hq
 refine wpAny_Tuple_spliced (thn (h pos pins s σ H _ I hq) λus s1 ⟨xs,H1,I1,r,z,q⟩=>⟨by rw[← r.length];exact z,?_⟩)
 have hf:H1 s1.heap.objs.size=none:=I1.hok.fresh (M0 _)
 refine ⟨.ref s1.heap.objs.size,upd H1 s1.heap.objs.size (.tup xs),I1.laid (t':=s1.toks) (λb u e=>MP _ e) (M0 _) ?_,rfl,q _ hf⟩
 exact ⟨z,us,r,⟨_,MW _ rfl⟩⟩
theorem AB (h:PA X es t):PE X (.List es pos) (Mh t):=by
 intro pins s σ H Q I hq
 refine wpAny_List_spliced (thn (h pos pins s σ H _ I hq) λus s1 ⟨xs,H1,I1,r,z,q⟩=>⟨by rw[← r.length];exact z,?_⟩)
 have hf:H1 s1.heap.objs.size=none:=I1.hok.fresh (M0 _)
 refine ⟨.ref s1.heap.objs.size,upd H1 s1.heap.objs.size (.lst xs),I1.laid (t':=s1.toks) (λb u e=>MP _ e) (M0 _) ?_,rfl,q _ hf⟩
 exact ⟨z,us,0,r,MW _ rfl⟩
end
abbrev Sp:=List V->Hp->VK->XK->Prop
abbrev CXT:=List Env->Hp->MQ->XK->MN->MQ->Prop
structure C7 (P:Nh) (w:Nw) (K:ML) (mg:Str->Option MN) (base:Heap) (A:NH) (outer:List Env) (s:MQ) (H:Hp):Prop where
 frames:A.frames=some outer
 mod:Mod K mg base
 bs:∀ b o,base.get? b=some o->s.heap.get? b=some o/\H b=none
 bsz:base.objs.size<=s.heap.objs.size
 mx:s.heap.FunFrames base outer
 frf:∀ b∈frs outer,H b=none
 hok:HOk P w H s.heap
 bare:QW s.gens
def CE (outer:List Env)(P:Nh)(w:Nw)(H:Hp)(s:MQ)(Q:VK)(u:MN)(s':MQ):Prop:=
 ∃ v H',s'.os=s.os/\QW s'.gens/\Un (frs outer) [] H H' s.heap s'.heap/\HOk P w H' s'.heap/\RelV v u/\Q v H'
def CR (CX:CXT)(outer:List Env)(P:Nh)(w:Nw)(H:Hp)(s:MQ)(Q:VK)(E:XK)(r:Result)(s':MQ):Prop:=
 match r with
 | .ok (.ret u)=>CE outer P w H s Q u s'
 | .ok _=>False
 | .error e=>CX outer H s E e s'
structure gX (P:Nh) (w:Nw) (K:ML) (mg:Str->Option MN) (base:Heap) (CX:CXT) (k:Nat) (f:Addr) (fd:Nd) (ps:List Str) (sp:Sp):Prop where
 len:∀ vs H Q E,sp vs H Q E->vs.length=ps.length
 run:∀ (A:NH) (outer:List Env) (s:MQ) (H:Hp) (args:Args) (us:List MN) (vs:List V) (Q:VK) (E:XK),di k A->C7 P w K mg base A outer s H->Tw s fd args (ps.zip us)->Vals vs us->sp vs H Q E->
  QY (Nb P w) A (.call (.ref f) args) (CR CX outer P w H s Q E) s
theorem gX.mono {P:Nh}{w:Nw}{K:ML}{mg:Str->Option MN}{base:Heap}{CX:CXT}{j k:Nat}{f:Addr}{fd:Nd}{ps:List Str}{sp:Sp}(F:gX P w K mg base CX j f fd ps sp)(h:j<=k) :
  gX P w K mg base CX k f fd ps sp:=⟨F.len,λA outer s H args us vs Q E hr=>F.run A outer s H args us vs Q E (hr.mono h)⟩
section
variable {X:Cx} {pins:List (Addr×Obj)} {σ:St} {H:Hp} {s s':MQ}
theorem Inv.LC (I:Inv X pins σ H s):C7 X.prog X.w X.K X.mg X.base X.A X.stack s H:=
 ⟨I.ok.frames,I.ok.mod,I.bs,NR I.ok.bsz I.sz,I.stack,I.wY,I.hok,I.bare⟩
theorem Inv.after {Q:VK}{u:MN}(I:Inv X pins σ H s)(h:CE X.stack X.prog X.w H s Q u s'):EP X pins σ Q u s':=by
 obtain ⟨v,H',os,bare,un,hok,r,q⟩:=h
 obtain ⟨hh,g,d,t,os'⟩:=s'
 obtain rfl:os'=s.os:=os
 exact ⟨v,H',I.call (h':=hh) (g':=g) (d':=d) (t':=t) (ch:=[]) un hok bare (λb z=>absurd z (by simp)),r,q⟩
end
def JC (sp:Sp)(dvs:List V)(E:XK)(t:TA):TE:=λσ H Q=>t σ H λvs H1=>sp (vs++dvs) H1 Q E
def Binds (K:ML)(fd:Nd)(ps:List Str)(ds:List MN):Prop:=
 ∀ (s:MQ) (us:List MN),K.In s.heap->(us++ds).length=ps.length->Tw s fd ⟨us,[]⟩ (ps.zip (us++ds))
theorem Binds.all {K:ML}{fd:Nd}{ps:List Str}(h:∀ us:List MN,us.length=ps.length->bindArgs fd ⟨us,[]⟩=pure (ps.zip us)):Binds K fd ps []:=λs us _ hl=>by
 rw[NN] at hl ⊢
 exact .of_eq (h us hl)
def Passes (CX:CXT)(X:Cx)(E:XK):Prop:=∀ (pins:List (Addr×Obj)) (σ:St) (H:Hp) (s:MQ) (e:MN) (s':MQ),Inv X pins σ H s->CX X.stack H s E e s'->X.xe e s'
section
variable {X:Cx} {CX:CXT} {k:Nat} {f C:Addr} {fd:Nd} {ps:List Str} {sp:Sp} {dvs:List V} {ds:List MN} {E:XK} {x m:Str} {p pos apos:Pos} {e o:Nf} {es:List Nf} {ta:TE} {t:TA}
theorem Iz {pins:List (Addr×Obj)}{σ:St}{H:Hp}{s:MQ}{Q:VK}{us:List MN}{vs:List V}(F:gX X.prog X.w X.K X.mg X.base CX k f fd ps sp)(hr:di k X.A)(hb:Binds X.K fd ps ds)(hd:Vals dvs ds)(hx:Passes CX X E)
  (I:Inv X pins σ H s) (r:Vals vs us) (h:sp (vs++dvs) H Q E):M4 (Nb X.prog X.w) X.A (call (.ref f) us) (EP X pins σ Q) X.xe s:=by
 have r2:Vals (vs++dvs) (us++ds):=r.append hd
 have hl:(us++ds).length=ps.length:=by rw[← r2.length];exact F.len _ _ _ _ h
 refine wpAny_call (Tx (F.run X.A X.stack s H ⟨us,[]⟩ (us++ds) (vs++dvs) Q E hr I.LC (hb s us I.kIn hl) r2 h) λr s' hq=>?_)
 cases r with
 | error e=>exact hx pins σ H s e s' I hq
 | ok fl=>
  cases fl with
  | ret u=>exact I.after hq
  | next=>exact MR hq
  | brk=>exact MR hq
  | cont=>exact MR hq
theorem CW (F:gX X.prog X.w X.K X.mg X.base CX k f fd ps sp)(hr:di k X.A)(hg:Gl X x)(hm:X.mg x=some (.ref f))(hk:PH X.K (.ref f)=true)(hb:Binds X.K fd ps ds)(hd:Vals dvs ds)(hx:Passes CX X E)
  (ha:PA X (e::es) t) (hdb:(x == ("__debug__" : Str))=false:=by decide) (he:M6 (e::es) X.env=(false,N1 e X.env)::M6 es X.env:=by rfl) (hpl:(OL pos (M6 es X.env)).any (·.1)=false:=by rfl) :
  PE X (.Call (.Name x p) (e::es) [] pos) (JC sp dvs E t):=by
 intro pins s σ H Q I h
 refine Pr (xD I hg hm ?_ hdb)
 refine PySem.W.callWith_K (h₀:=X.base) I.ok.mod.kin hk (thn (ha pos pins s σ H _ I h) λus s1 ⟨vs,H1,I1,r,q⟩=>⟨I1.kIn,?_⟩) he hpl
 exact Iz F hr hb hd hx I1 r q
end
section
variable {X:Cx} {CX:CXT} {k:Nat} {f C:Addr} {fd:Nd} {ps ks:List Str} {sp:Sp} {E:XK} {x m:Str} {p pos apos kpos:Pos} {e o:Nf} {es:List Nf} {kws:List SA} {te ta:TE} {t tk:TA} {nm:Option Str}
variable {g:List MN->List MN->List MN} {gV:List V->List V->List V}
end
structure aE (N P:List Str) (sc:Scope):Prop where
 kind:sc.kind=.function
 co:sc.isCoroutine=false
 gen:sc.isGenerator=false
 nd:N.Nodup
 pre:N.take P.length=P
 par:∀ x∈P,sc.names.lookup x=some .local∨sc.names.lookup x=some .cell
 Ji:∀ y∈sc.names,y.2≠.free
theorem oQ {PX:Str->Option Qb}{x:Str}:∀ {binds:List (Str×MN)} {m:Str->Option MN},(∀ v,(x,v) ∉ binds)->UL PX binds m x=m x
 | [],_,_=>rfl
 | (n,v)::r,m,h=>by
  unfold UL
  rw[oQ λw hw=>h w (MU _ hw)]
  split
  ·have:x≠n:=by rintro rfl;exact h v MS
   simp[this]
  ·rfl
theorem ou {PX:Str->Option Qb}{x:Str}:∀ {binds:List (Str×MN)} {m:Str->Option MN},(∀ v,(x,v) ∉ binds)->UM PX binds m x=m x
 | [],_,_=>rfl
 | (n,v)::r,m,h=>by
  unfold UM
  rw[ou λw hw=>h w (MU _ hw)]
  split
  ·rfl
  ·have:x≠n:=by rintro rfl;exact h v MS
   simp[this]
theorem oK {PX:Str->Option Qb}{x:Str}{v:MN}:∀ {P:List Str} {vs:List MN} {i:Nat} {m:Str->Option MN},P.Nodup->P[i]? = some x->vs[i]? = some v->PX x=some .local->
  UL PX (P.zip vs) m x=some v
 | [],_,_,_,_,h,_,_=>by simp at h
 | _::_,[],_,_,_,_,h,_=>by simp at h
 | p::P,w::vs,0,m,nd,h1,h2,hk=>by
  simp at h1 h2;subst h1;subst h2
  show UL PX ((p,w)::P.zip vs) m p=_
  unfold UL
  rw[oQ λv hv=>(NB.mp nd).1 (RW hv).1,if_pos hk]
  simp
 | p::P,w::vs,i+1,m,nd,h1,h2,hk=>by
  show UL PX ((p,w)::P.zip vs) m x=_
  unfold UL
  exact oK (i:=i) (NB.mp nd).2 (by simpa using h1) (by simpa using h2) hk
theorem oP {PX:Str->Option Qb}{x:Str}{v:MN}:∀ {P:List Str} {vs:List MN} {i:Nat} {m:Str->Option MN},P.Nodup->P[i]? = some x->vs[i]? = some v->PX x≠some .local->
  UM PX (P.zip vs) m x=some v
 | [],_,_,_,_,h,_,_=>by simp at h
 | _::_,[],_,_,_,_,h,_=>by simp at h
 | p::P,w::vs,0,m,nd,h1,h2,hk=>by
  simp at h1 h2;subst h1;subst h2
  show UM PX ((p,w)::P.zip vs) m p=_
  unfold UM
  rw[ou λv hv=>(NB.mp nd).1 (RW hv).1,if_neg hk]
  simp
 | p::P,w::vs,i+1,m,nd,h1,h2,hk=>by
  show UM PX ((p,w)::P.zip vs) m x=_
  unfold UM
  exact oP (i:=i) (NB.mp nd).2 (by simpa using h1) (by simpa using h2) hk
def start (N:List Str)(vs:List V):St:=vs.map some++N8 (N.length - vs.length) none
def sC (CX:CXT)(P:Nh)(w:Nw)(K:ML)(mg:Str->Option MN)(base:Heap)(N:List Str)(qual:Str)(scope:Scope)(f:Addr)(cd:MN)(A:NH)(outer:List Env)(s:MQ)(H:Hp)(E:XK):Cx where
 prog:=P
 w:=w
 K:=K
 mg:=mg
 base:=base
 A:=A.deeper (QH qual scope s.heap.objs.size f cd)
 N:=N
 s₀:=s
 H₀:=H
 env:=QH qual scope s.heap.objs.size f cd
 outer:=outer
 stack:=QH qual scope s.heap.objs.size f cd::outer
 ex:=[]
 calm:=true
 fn:=λ_=>true
 pn:=[]
 xe:=λe s'=>M4 (Nb P w) (A.deeper (QH qual scope s.heap.objs.size f cd)) (leaving (QH qual scope s.heap.objs.size f cd) e) (λ_ s''=>CX outer H s E e s'') (λe' s''=>CX outer H s E e' s'') s'
theorem rk {sc:Scope}{n:Nat}{x:Str}(h:sc.names.lookup x=some .cell):∃ c,(cellsFrom n sc.names []).lookup x=some c:=by
 have q:=RF sc.names n [] (.inl h)
 exact Q9.mp q
theorem xQ {CX:CXT}{P:Nh}{w:Nw}{K:ML}{mg:Str->Option MN}{base:Heap}{N ps:List Str}{qual:Str}{scope:Scope}{f:Addr}{cd:MN}{A:NH}{outer:List Env}{s s1:MQ}{H:Hp}{E:XK}{us:List MN}{vs:List V}
  (S:aE N ps scope) (hd:A.handled=none) (e0:C7 P w K mg base A outer s H) (hl:vs.length=ps.length) (r:Vals vs us)
  (x:InCallC s s.heap.objs.size (UL (QH qual scope s.heap.objs.size f cd).kindOf (ps.zip us) λ_=>none) (cellsFrom (s.heap.objs.size+1) scope.names []) (UM (QH qual scope s.heap.objs.size f cd).kindOf (ps.zip us) λ_=>none) s1) :
  Inv (sC CX P w K mg base N qual scope f cd A outer s H E) [] (start N vs) H s1:=by
 have hpl:ps.length<=N.length:=by have:=congrArg NZ S.pre;rw[PY] at this;omega
 obtain ⟨h1,tk,rfl,hk⟩:=x.done
 have noA:∀ b:Addr,b ∉ (sC CX P w K mg base N qual scope f cd A outer s H E).ex:=λb z=>absurd (show b∈([]:List Addr) from z) (by simp)
 refine ⟨⟨e0.mod,S.kind,rfl,rfl,M0 _,λy z c h1 h2=>?_,λy hy=>?_,λy c _ h=>?_,λ_=>hd,Around.frames_deeper e0.frames,.inr ⟨rfl,rfl⟩,λb z=>absurd z (noA b),e0.bs,e0.bsz,λb _ _=>noA b,λb z=>absurd z (noA b),e0.mx,e0.frf⟩,
  rfl,e0.bare,Un.kept hk,⟨_,x.toInCall.ns,λi y v h1 h2 h3=>?_⟩,λy c h=>⟨_,x.cell y c h⟩,e0.hok.fresh (M0 _),λy c h=>?_,λp hp=>absurd (show p∈([]:List (Addr×Obj)) from hp) (by simp),e0.hok.kept hk,?_⟩
 ·exact name_of_addr x.apart (NX h1) (NX h2)
 ·have hy:scope.names.lookup y=some .cell∨scope.names.lookup y=some .free:=hy
  rcases hy with hy | hy
  ·exact rk hy
  ·exact absurd rfl (S.Ji _ (NX hy))
 ·exact RD (x.above y c (NX h))
 ·have hi:i < vs.length:=by
   unfold start at h2
   by_cases hi:i < vs.length
   ·exact hi
   ·rw[Ow (by simpa using hi)] at h2
    rw[Rk] at h2
    split at h2<;>cases h2
  have ha:vs[i]? = some v:=by
   unfold start at h2
   rw[OB (by simpa using hi),Nv] at h2
   cases e:vs[i]? with
   | none=>rw[e] at h2;cases h2
   | some a=>rw[e] at h2;cases h2;rfl
  obtain ⟨u,hu,rv⟩:=r.get ha
  have hp:ps[i]? = some y:=by
   rw[← S.pre,List.getElem?_take_of_lt (by omega)];exact h1
  have ndP:ps.Nodup:=by rw[← S.pre];exact S.nd.sublist (Tz _ _)
  refine ⟨u,rv,?_⟩
  rcases S.par y (Oh hp) with k | k
  ·exact .inl ⟨k,oK ndP hp hu k⟩
  ·obtain ⟨c,e⟩:=rk (n:=s.heap.objs.size+1) k
   refine .inr ⟨.inl k,c,e,?_⟩
   have q:=x.cell y c e
   rw[oP ndP hp hu (by show scope.names.lookup y≠_;rw[k];decide)] at q
   exact q
 ·exact e0.hok.fresh (RD (x.above y c (NX h)))
 ·unfold start
  show _=N.length
  rw[Nt,MX,PR]
  omega
theorem KZ {CX:CXT}{P:Nh}{w:Nw}{K:ML}{mg:Str->Option MN}{base:Heap}{k:Nat}{f:Addr}{name qual:Str}{params:Arguments}{body:List Stmt}{scope:Scope}{dV kV doc pm cdv ct oc:MN}{an od:Option Addr}
  {osl:Array (Option MN)} {N ps:List Str} {sp:Sp} (lk:K.lookup f=some ⟨oc,od,.func (Pf name qual params body scope dV kV doc pm an cdv ct),osl⟩) (hcd:Se K cdv qual=true) (S:aE N ps scope)
  (len:∀ vs H Q E,sp vs H Q E->vs.length=ps.length)
  (hbody:∀ (A:NH) (outer:List Env) (s:MQ) (H:Hp) (vs:List V) (Q:VK) (E:XK),di k (A.deeper (QH qual scope s.heap.objs.size f cdv))->sp vs H Q E->
   ∃ t,PSs (sC CX P w K mg base N qual scope f cdv A outer s H E) body t/\t { nx:=λ_ H'=>Q .non H',rt:=Q } (start N vs) H) :
  gX P w K mg base CX (k+1) f (Pf name qual params body scope dV kV doc pm an cdv ct) ps sp:=by
 refine ⟨len,λA outer s H args us vs Q E hr e0 hb r hsp=>?_⟩
 have hl:=len _ _ _ _ hsp
 have KX:K.In s.heap:=e0.mod.kin.keeps λb o e=>(e0.bs b o e).1
 have lim:s.heap.NoLimit:=e0.mod.nolimit.keeps λb o e=>(e0.bs b o e).1
 have eF:∀ y∈ps.zip us,scope.names.lookup y.1=some .local∨(scope.names.lookup y.1=some .cell/\((cellsFrom (s.heap.objs.size+1) scope.names []).lookup y.1).isSome=true):=λ⟨n,v⟩ hy=>by
  rcases S.par n (RW hy).1 with q | q
  ·exact .inl q
  ·exact .inr ⟨q,RF _ _ _ (.inl q)⟩
 refine codeAny_call_function hr.depth (KX _ _ lk) rfl S.co S.gen rfl (PySem.W.codeRec_of KX hcd) (hb _ _ _ _ ?_)
 refine wpAny_newFunctionEnv_cells S.kind eF λenv he s1 x=>?_
 subst he
 refine ⟨lim.keeps x.toInCall.keep,codeAny_func ?_⟩
 obtain ⟨t,ht,hq⟩:=hbody A outer s H vs Q E (hr.deeper _) hsp
 have I:Inv (sC CX P w K mg base N qual scope f cdv A outer s H E) [] (start N vs) H s1:=xQ S hr.hd e0 hl r x
 refine NW (ht [] s1 (start N vs) H _ I hq) (λfl s' hs=>?_) λe s' hs=>hs
 have fin:∀ {σ':St} {H':Hp} {v:V} {u:MN},Inv (sC CX P w K mg base N qual scope f cdv A outer s H E) [] σ' H' s'->RelV v u->Q v H'->CE outer P w H s Q u s':=
  λ{σ' H' v u} J rv q=>⟨v,H',J.os,J.bare,J.base,J.hok,rv,q⟩
 cases fl with
 | ret u=>
  obtain ⟨v,σ',H',J,rv,q⟩:=hs
  exact fin J rv q
 | next=>
  obtain ⟨σ',H',J,q⟩:=hs
  exact fin (v:=V.non) (u:=O9) J rfl q
 | brk=>
  obtain ⟨_,_,_,q⟩:=hs
  exact MR q
 | cont=>
  obtain ⟨_,_,_,q⟩:=hs
  exact MR q
end L2
namespace L2
open PySem PySem.Spec PyProof.Rows
section
variable {X:Cx} {x:Str} {p pos:Pos} {e:Nf} {es:List Nf} {t:TA} {id T:String} {r:List V->Hp->VK->Prop}
def tCB (r:List V->Hp->VK->Prop)(t:TA):TE:=λσ H Q=>t σ H λvs H1=>r vs H1 Q
theorem qS (hc:bL X (.builtin id) r)(hg:Gl X x)(hm:X.mg x=none)(hv:OF x=some (.builtin id))(ha:PA X (e::es) t)(hn:x ≠ "__name__" := by decide)(hdb:(x == ("__debug__" : Str))=false:=by decide)
  (he:M6 (e::es) X.env=(false,N1 e X.env)::M6 es X.env:=by rfl) (hpl:(OL pos (M6 es X.env)).any (·.1)=false:=by rfl):PE X (.Call (.Name x p) (e::es) [] pos) (tCB r t):=by
 intro pins s σ H Q I h
 refine Pr (jn I hg hm hv ?_ hn hdb)
 exact Ud (thn (ha pos pins s σ H _ I h) λus s1 ⟨vs,H1,I1,r1,q1⟩=>hc pins s1 σ H1 vs us Q I1 r1 q1) he hpl
theorem yQ (hc:bL X (.type T) r)(hg:Gl X x)(hm:X.mg x=none)(hv:OF x=some (.type T))(ha:PA X (e::es) t)(hn:x ≠ "__name__" := by decide)(hdb:(x == ("__debug__" : Str))=false:=by decide)
  (he:M6 (e::es) X.env=(false,N1 e X.env)::M6 es X.env:=by rfl) (hpl:(OL pos (M6 es X.env)).any (·.1)=false:=by rfl):PE X (.Call (.Name x p) (e::es) [] pos) (tCB r t):=by
 intro pins s σ H Q I h
 refine Pr (jn I hg hm hv ?_ hn hdb)
 exact N7 (thn (ha pos pins s σ H _ I h) λus s1 ⟨vs,H1,I1,r1,q1⟩=>hc pins s1 σ H1 vs us Q I1 r1 q1) he hpl
end
end L2
namespace HT
open PySem PyProof.Rows
section
open PySem.SeqAt
open PySem.AutoSeq1 (wpAny_loadPart')
open PySem.MeetsSeq PySem.MeetsSeq2 PySem.MeetsSeq3
end
section
variable {prog:Nh} {w:Nw} {A:NH} {E:MN->MQ->Prop} {s:MQ}
theorem DI {t b:Addr}{vs ws:List MN}{Q:MN->MQ->Prop}(ht:SK s.heap t vs.toArray)(hb:SK s.heap b ws.toArray)(hv:vs≠[])
  (h1:ws=[]->Q (.ref t) s) (h2:ws≠[]->Q (.ref s.heap.objs.size) { s with heap:=s.heap.push { cls:=.type "tuple", data:=.seq (vs++ws).toArray } })
  (hsz:vs.length+ws.length<=sizeLine):M4 (Nb prog w) A (OR .Add (.ref t) (.ref b)) Q E s:=by
 obtain ⟨⟨cls,dd,data,sl⟩,ho,hc,n,hd⟩:=id ht
 obtain ⟨⟨cls2,dd2,data2,sl2⟩,ho2,hc2,n2,hd2⟩:=id hb
 simp only at hc hd hc2 hd2
 subst hc hd hc2 hd2
 have e:vs.toArray++ws.toArray=(vs++ws).toArray:=by simp
 by_cases hw:ws=[]
 ·exact RG ⟨_,ho,rfl⟩ ⟨_,ho2,rfl⟩ Rm SN PJ Px (Po _ _)
   (tuple_addW1 t b vs.toArray ws.toArray n n2 dd dd2 sl sl2 (by simpa using hv) (by simp[hw])) ⟨ho,ho2,h1 hw⟩
 ·refine RG ⟨_,ho,rfl⟩ ⟨_,ho2,rfl⟩ Rm SN PJ Px (Po _ _)
   (tuple_addW2 t b vs.toArray ws.toArray n n2 dd dd2 sl sl2 (by simpa using hv) (by simpa using hw) (by rw[M5,M5];exact hsz)) ⟨ho,ho2,?_⟩
  rw[e]
  exact h2 hw
def sIx (n d:Nat):Option Int->Nat
 | none=>d
 | some v=>if v < 0 then (v+(n:Int)).toNat else min v.toNat n
theorem A0 (n d:Nat):sIx n d none=d:=rfl
theorem Dr (n d k:Nat):sIx n d (some (k:Int))=min k n:=by
 show (if (k:Int) < 0 then ((k:Int)+(n:Int)).toNat else min (k:Int).toNat n)=min k n
 rw[if_neg (by omega),QZ]
theorem IU (n d:Nat)(hd:d<=n)(o:Option Int):sIx n d o<=n:=by
 cases o with
 | none=>exact hd
 | some v=>
  show (if v < 0 then (v+(n:Int)).toNat else min v.toNat n)<=n
  by_cases hv:v < 0
  ·rw[if_pos hv];omega
  ·rw[if_neg hv];exact Nat.min_le_right _ _
theorem xC (v:Int)(n d:Nat):(if v < 0 then max (v+(n:Int)) 0 else min v (n:Int))=((sIx n d (some v):Nat):Int):=by
 show (if v < 0 then max (v+(n:Int)) 0 else min v (n:Int))=(((if v < 0 then (v+(n:Int)).toNat else min v.toNat n):Nat):Int)
 by_cases hv:v < 0
 ·simp only[if_pos hv];omega
 ·simp only[if_neg hv];omega
theorem u0 (lo hi:Option Int)(n:Nat):Pg lo hi 1 (n:Int)=(((sIx n 0 lo:Nat):Int),((sIx n n hi:Nat):Int)):=by
 have h1:¬ ((1:Int) < 0):=by omega
 unfold Pg
 simp only[h1,if_false]
 refine Prod.ext ?_ ?_
 ·cases lo with
  | none=>rfl
  | some v=>exact xC v n 0
 ·cases hi with
  | none=>rfl
  | some v=>exact xC v n n
theorem tV (i j:Nat):OC (i:Int) (j:Int) 1=j - i:=by
 unfold OC
 have h1:(1:Int) > 0:=by omega
 simp only[h1,if_true,RH]
 split<;>omega
theorem lT {v:MN}{o:Option Int}{Q:Option Int->MQ->Prop}(p:IsPart v o)(h:Q o s):M4 (Nb prog w) A (Uw v) Q E s:=by
 cases p with
 | none=>exact slicePart_none h
 | int i t=>exact slicePart_int h
theorem eJ {sl:Addr}{vl vu:MN}{lo hi:Option Int}{n:Nat}{Q:Int×Int×Nat->MQ->Prop}(hs:s.heap.IsSliceOf sl vl vu .none)(pl:IsPart vl lo)(pu:IsPart vu hi)
  (h:Q (((sIx n 0 lo:Nat):Int),1,sIx n n hi - sIx n 0 lo) s):M4 (Nb prog w) A (QI (.ref sl) (pure (n:Int))) Q E s:=by
 obtain ⟨os,hos,hcs,hds⟩:=id hs
 unfold QI UZ
 refine MM (MM (Nu hos hds (x:=vl) rfl (MM (Nu hos hds (x:=vu) rfl (MM (Nu hos hds (x:=.none) rfl (wpAny_pure ?_)))))))
 refine MM (slicePart_none ?_)
 show M4 _ _ (if ((1:Int) == 0)=true then _ else _) _ _ s
 rw[if_neg (by decide)]
 refine MM (lT pl (MM (lT pu (MM (wpAny_pure ?_)))))
 show M4 _ _ (match Pg lo hi 1 (n:Int) with | (lo,hi)=>pure (lo,(1:Int),OC lo hi 1)) _ _ s
 rw[u0 lo hi n]
 show M4 _ _ (pure (((sIx n 0 lo:Nat):Int),(1:Int),OC ((sIx n 0 lo:Nat):Int) ((sIx n n hi:Nat):Int) 1)) _ _ s
 rw[tV]
 exact wpAny_pure h
theorem Ae (xs:Array MN)(i k:Nat):((OK k).filterMap λ(m:Nat)=>xs[((i:Int)+(m:Int)*1).toNat]?).toArray=((xs.toList.drop i).take k).toArray:=by
 have e:(λ(m:Nat)=>xs[((i:Int)+(m:Int)*1).toNat]?)=λm=>xs[i+m]?:=by
  funext m
  have:((i:Int)+(m:Int)*1).toNat=i+m:=by omega
  rw[this]
 rw[e]
 have:=pick_run xs i k
 rw[List.filterMap_map] at this
 have e2:((λx=>xs[x]?) ∘ λx=>i+x)=λm=>xs[i+m]?:=rfl
 rw[e2] at this
 rw[this]
theorem ip {t sl:Addr}{items:Array MN}{vl vu:MN}{lo hi:Option Int}{Q:MN->MQ->Prop}(ht:SK s.heap t items)(hs:s.heap.IsSliceOf sl vl vu .none)(pl:IsPart vl lo)(pu:IsPart vu hi)
  (hw:¬ (sIx items.size 0 lo=0/\sIx items.size items.size hi=items.size))
  (h:Q (.ref s.heap.objs.size) { s with heap:=s.heap.push { cls:=.type "tuple", data:=.seq ((items.toList.drop (sIx items.size 0 lo)).take (sIx items.size items.size hi - sIx items.size 0 lo)).toArray } })
  (hsz:items.size<=sizeLine):M4 (Nb prog w) A (Qw (.ref t) (.ref sl)) Q E s:=by
 have wN:sizeOk (.seq ((items.toList.drop (sIx items.size 0 lo)).take (sIx items.size items.size hi - sIx items.size 0 lo)).toArray):=by
  show ((items.toList.drop (sIx items.size 0 lo)).take (sIx items.size items.size hi - sIx items.size 0 lo)).toArray.size<=sizeLine
  rw[M5,PY,Ue,Qq]
  omega
 have hj:sIx items.size items.size hi<=items.size:=IU _ _ (M0 _) hi
 obtain ⟨os,hos,hcs,hds⟩:=id hs
 have hTs:s.TypeIs (.ref sl) "slice" := ⟨os,hos,hcs⟩
 unfold Qw
 try with_reducible refine O1 ?_
 first | refine MM (wpAny_pure ?_) | skip
 refine MM (TF ht.typeIs (by decide) ?_)
 refine MM (Nx (name:=MK "__getitem__") ht.typeIs NF
  (NQ NF ht.typeIs SG ?_ (S6 _ _)))
 show M4 _ _ (QJ (.ref t) >>= _) _ _ s
 refine MM (tupleItemsOf_ ht ?_)
 refine MM (wpAny_typeOf hTs ?_)
 rw[if_pos (by decide)]
 refine MM (eJ hs pl pu ?_)
 have hno:¬ ((((sIx items.size 0 lo:Nat):Int) == 0&&(1:Int) == 1&&(sIx items.size items.size hi - sIx items.size 0 lo) == items.size)=true):=by
  intro q
  rw[NI,NI] at q
  have q1:((sIx items.size 0 lo:Nat):Int)=0:=eq_of_beq q.1.1
  have q2:sIx items.size items.size hi - sIx items.size 0 lo=items.size:=eq_of_beq q.2
  exact hw ⟨by omega,by omega⟩
 show M4 _ _ (if (((sIx items.size 0 lo:Nat):Int) == 0&&(1:Int) == 1&&(sIx items.size items.size hi - sIx items.size 0 lo) == items.size)=true then _ else _) _ _ s
 rw[if_neg hno,Ae]
 first
  | exact MM (m:=OM _) (NJ (wpAny_pure ⟨_,rfl,wpAny_pure h⟩) wN)
  | exact MM (m:=OM _) (NJ (MM (wpAny_pure (wpAny_pure ⟨_,rfl,wpAny_pure h⟩))) wN)
  | exact MM (MM (m:=OM _) (NJ (wpAny_pure (wpAny_pure ⟨_,rfl,wpAny_pure h⟩)) wN))
  | exact MM (MM (m:=OM _) (NJ (wpAny_pure ⟨_,rfl,wpAny_pure h⟩) wN))
end
end HT
namespace L2
open PySem PySem.Spec PyProof.Rows
abbrev TO:=St->Hp->(Option Int->Hp->Prop)->Prop
def PO (X:Cx)(e:Option Nf)(t:TO):Prop:=
 ∀ (pins:List (Addr×Obj)) (s:MQ) (σ:St) (H:Hp) (Q:Option Int->Hp->Prop),Inv X pins σ H s->t σ H Q->
  M4 (Nb X.prog X.w) X.A (evalPart e X.env) (λu s'=>∃ o H',Inv X pins σ H' s'/\IsPart u o/\Q o H') X.xe s
def E9:TO:=λ_ H Q=>Q none H
def JY (t:TE):TO:=λσ H Q=>t σ H λx H1=>∃ i,x=.int i/\Q (some i) H1
section
variable {X:Cx} {e:Nf} {te:TE} {lo hi:Option Nf} {tl th:TO} {pos p2:Pos}
theorem Eu:PO X none E9:=by
 intro pins s σ H Q I h
 rw[evalPart_none]
 exact wpAny_pure ⟨none,H,I,.none,h⟩
theorem EJ (h:PE X e te):PO X (some e) (JY te):=by
 intro pins s σ H Q I hw
 rw[evalPart_some]
 refine thn (h pins s σ H _ I hw) λu s1 ⟨x,H1,I1,r1,q1⟩=>?_
 obtain ⟨i,rfl,q⟩:=q1
 obtain ⟨t,rfl⟩:=r1
 exact ⟨some i,H1,I1,.int i t,q⟩
def SlR (X:Cx)(r:V->Option Int->Option Int->Hp->VK->Prop):Prop:=
 ∀ (pins:List (Addr×Obj)) (s:MQ) (σ:St) (H:Hp) (x:V) (v vl vu:MN) (lo hi:Option Int) (sl:Addr) (Q:VK),Inv X pins σ H s->RelV x v->s.heap.IsSliceOf sl vl vu .none->IsPart vl lo->IsPart vu hi->r x lo hi H Q->
  ∃ T id,S7 (.type T) "__getitem__" = pure (some (.builtin id))/\s.TypeIs v T/\M4 (Nb X.prog X.w) X.A (Qw v (.ref sl)) (EP X pins σ Q) X.xe s
theorem SlR.or {r r':V->Option Int->Option Int->Hp->VK->Prop}(h:SlR X r)(h':SlR X r'):SlR X (λx lo hi H Q=>r x lo hi H Q∨r' x lo hi H Q):=by
 intro pins s σ H x v vl vu lo hi sl Q I rx hs pl pu q
 rcases q with q | q
 ·exact h pins s σ H x v vl vu lo hi sl Q I rx hs pl pu q
 ·exact h' pins s σ H x v vl vu lo hi sl Q I rx hs pl pu q
def tSl (r:V->Option Int->Option Int->Hp->VK->Prop)(te:TE)(tl th:TO):TE:=λσ H Q=>te σ H λx H1=>tl σ H1 λl H2=>th σ H2 λu H3=>r x l u H3 Q
theorem BS {r:V->Option Int->Option Int->Hp->VK->Prop}(hr:SlR X r)(he:PE X e te)(hl:PO X lo tl)(hu:PO X hi th):PE X (.Subscript e (.Slice lo hi none p2) pos) (tSl r te tl th):=by
 intro pins s σ H Q I h
 refine UN (thn (he pins s σ H _ I h) λv s1 ⟨x,H1,I1,r1,q1⟩=>?_)
 refine wpAny_Slice (thn (hl pins s1 σ H1 _ I1 q1) λvl s2 ⟨l,H2,I2,pl,q2⟩=>thn (hu pins s2 σ H2 _ I2 q2) λvu s3 ⟨u,H3,I3,pu,q3⟩=>?_)
 rw[evalPart_none]
 refine wpAny_pure ?_
 have I4:Inv X pins σ H3 { s3 with heap:=s3.heap.push { cls:=.type "slice", data:=.fields #[vl,vu,.none] } }:=I3.kept (t':=s3.toks) λb ob q=>MP _ q
 obtain ⟨T,id,hT,ht,hg⟩:=hr pins { s3 with heap:=s3.heap.push { cls:=.type "slice", data:=.fields #[vl,vu,.none] } } σ H3 x v vl vu l u s3.heap.objs.size Q I4 r1 (Vs ..) pl pu q3
 show M4 (Nb X.prog X.w) X.A (SO e (.Slice lo hi none p2) v (.ref s3.heap.objs.size)) (EP X pins σ Q) X.xe { s3 with heap:=s3.heap.push { cls:=.type "slice", data:=.fields #[vl,vu,.none] } }
 exact tail_any (ops:=[.ref s3.heap.objs.size,v]) ht hT hg (by with_unfolding_all rfl)
def rR (xs:List V)(lo hi:Option Int):List V:=(xs.drop (HT.sIx xs.length 0 lo)).take (HT.sIx xs.length xs.length hi - HT.sIx xs.length 0 lo)
theorem jO (xs:List V)(lo hi:Option Int):(rR xs lo hi).length<=xs.length:=by
 unfold rR
 rw[PY,Ue]
 omega
def LD (K:ML):V->Option Int->Option Int->Hp->VK->Prop:=λx lo hi H Q=>∃ a xs,x=.ref a/\SqT K H a xs/\
 ¬ (HT.sIx xs.length 0 lo=0/\HT.sIx xs.length xs.length hi=xs.length)/\∀ p,H p=none->Q (.ref p) (upd H p (.tup (rR xs lo hi)))
theorem HZ:SlR X (LD X.K):=by
 intro pins s σ H x v vl vu lo hi sl Q I rx hs pl pu h
 obtain ⟨a,xs,rfl,hx,hw,q⟩:=h
 cases rx
 obtain ⟨its,r,ht,hz⟩:=I.tuple hx
 have hlen:its.toArray.size=xs.length:=by rw[M5];exact r.length.symm
 refine ⟨"tuple", _,NF.lookup,ht.typeIs,?_⟩
 refine HT.ip ht hs pl pu (by rw[hlen];exact hw) ?_ (by rw[hlen];exact hz)
 rw[hlen]
 refine ⟨.ref s.heap.objs.size,_,I.laid (t':=s.toks) (o:=.tup (rR xs lo hi)) (λb ob q=>MP _ q) (M0 _) ?_,rfl,q _ (I.hok.fresh (M0 _))⟩
 exact ⟨NR (jO xs lo hi) hz,_,(r.drop (HT.sIx xs.length 0 lo)).take (HT.sIx xs.length xs.length hi - HT.sIx xs.length 0 lo),sY.new _ _⟩
def FI (K:ML):R2:=λx y H Q=>∃ a b xs ys,x=.ref a/\y=.ref b/\SqT K H a xs/\SqT K H b ys/\xs≠[]/\xs.length+ys.length<=sizeLine/\
 (ys=[]->Q (.ref a) H)/\(ys≠[]->∀ p,H p=none->Q (.ref p) (upd H p (.tup (xs++ys))))
theorem Vals.oU {xs:List V}{us:List MN}(r:Vals xs us):us=[]↔xs=[]:=by
 cases r with
 | nil=>simp
 | cons _ _=>simp
theorem Et:OpR X (OR .Add) (FI X.K):=by
 intro pins s σ H x y v u Q I rx ry h
 obtain ⟨a,b,xs,ys,rfl,rfl,ha,hb,hx,hz,q1,q2⟩:=h
 cases rx
 cases ry
 obtain ⟨its,r1,p1,_⟩:=I.tuple ha
 obtain ⟨its2,r2,p2,_⟩:=I.tuple hb
 refine HT.DI p1 p2 (λz=>hx (r1.oU.mp z)) (λz=>⟨.ref a,H,I,rfl,q1 (r2.oU.mp z)⟩) (λz=>?_) (by rw[← r1.length,← r2.length];exact hz)
 refine ⟨.ref s.heap.objs.size,_,I.laid (t':=s.toks) (o:=.tup (xs++ys)) (λb ob q=>MP _ q) (M0 _) ?_,rfl,q2 (λw=>z (r2.oU.mpr w)) _ (I.hok.fresh (M0 _))⟩
 exact ⟨by rw[Nt];exact hz,_,r1.append r2,sY.new _ _⟩
end
end L2
namespace L2
open PySem PySem.Spec PyProof.Rows
def ixN (n:Nat)(i:Int):Option Nat:=if 0<=i then (if i < n then some i.toNat else none) else if -(n:Int)<=i then some (i+n).toNat else none
def atI {α:Type}(xs:List α)(i:Int):Option α:=(ixN xs.length i).bind λj=>xs[j]?
theorem wg {n:Nat}{i:Int}{j:Nat}(h:ixN n i=some j):QB i n=some j/\j < n/\-(n:Int)<=i/\i < n:=by
 unfold ixN at h
 by_cases h0:0<=i
 ·rw[if_pos h0] at h
  by_cases h1:i < n
  ·rw[if_pos h1] at h
   have e:i.toNat=j:=Nl h
   exact ⟨by rw[Uq h0 h1,e],by omega,by omega,h1⟩
  ·rw[if_neg h1] at h;cases h
 ·rw[if_neg h0] at h
  by_cases h1:-(n:Int)<=i
  ·rw[if_pos h1] at h
   have e:(i+n).toNat=j:=Nl h
   exact ⟨by rw[TH (by omega) h1,e],by omega,h1,by omega⟩
  ·rw[if_neg h1] at h;cases h
theorem qy {α:Type}{xs:List α}{i:Int}{v:α}(h:atI xs i=some v):∃ j,QB i xs.length=some j/\xs[j]? = some v/\j < xs.length/\-(xs.length:Int)<=i/\i < xs.length:=by
 unfold atI at h
 cases e:ixN xs.length i with
 | none=>rw[e] at h;cases h
 | some j=>
  rw[e] at h
  obtain ⟨h1,h2,h3,h4⟩:=wg e
  exact ⟨j,h1,h,h2,h3,h4⟩
def pU (b:Nf):Prop:=∀ o i,Sf b false o i=operate [o,i] (Qw o i)
def IxR (X:Cx)(r:R2):Prop:=
 ∀ (value slice:Nf) (pins:List (Addr×Obj)) (s:MQ) (σ:St) (H:Hp) (x y:V) (v u:MN) (Q:VK),Inv X pins σ H s->RelV x v->RelV y u->r x y H Q->
  Sf slice false v u=operate [v,u] (Qw v u)->M4 (Nb X.prog X.w) X.A (SO value slice v u) (EP X pins σ Q) X.xe s
def MtR (X:Cx)(id:String)(r:V->List V->Hp->VK->Prop):Prop:=
 ∀ (pins:List (Addr×Obj)) (s:MQ) (σ:St) (H:Hp) (x:V) (xs:List V) (v:MN) (us:List MN) (Q:VK),Inv X pins σ H s->RelV x v->Vals xs us->r x xs H Q->
  M4 (Nb X.prog X.w) X.A (call (.builtin id) (v::us)) (EP X pins σ Q) X.xe s
section
variable {X:Cx} {a b:Nf} {ta tb:TE} {pos:Pos}
theorem IxR.or {r r':R2}(h:IxR X r)(h':IxR X r'):IxR X (λx y H Q=>r x y H Q∨r' x y H Q):=by
 intro value slice pins s σ H x y v u Q I rx ry q hs
 rcases q with q | q
 ·exact h value slice pins s σ H x y v u Q I rx ry q hs
 ·exact h' value slice pins s σ H x y v u Q I rx ry q hs
theorem FV {r:R2}(hr:IxR X r)(ha:PE X a ta)(hb:PE X b tb)(hs:pU b):PE X (.Subscript a b pos) (tOp r ta tb):=by
 intro pins s σ H Q I h
 exact UN (GB ha hb I h λv u s2 x y H2 I2 rx ry q=>hr a b pins s2 σ H2 x y v u Q I2 rx ry q (hs _ _))
def J3 (K:ML):R2:=λx y H Q=>∃ p xs i v,x=.ref p/\y=.int i/\SqL K H p xs/\atI xs i=some v/\Q v H
def K5 (K:ML):R2:=λx y H Q=>∃ p xs i v,x=.ref p/\y=.int i/\SqT K H p xs/\atI xs i=some v/\Q v H
def Jr:R2:=λx y H Q=>∃ z i c,x=.str z/\y=.int i/\z.length<=sizeLine/\atI z.cps.toList i=some c/\Q (.str ⟨#[c]⟩) H
theorem E2:IxR X (J3 X.K):=by
 intro value slice pins s σ H x y v u Q I rx ry h hs
 obtain ⟨p,xs,i,z,rfl,rfl,hq,he,q⟩:=h
 cases rx
 obtain ⟨t,rfl⟩:=ry
 obtain ⟨its,r,pl,hz⟩:=I.list hq
 obtain ⟨j,h1,h2,h3,h4,h5⟩:=qy he
 obtain ⟨w,ew,rw'⟩:=r.get h2
 have hl:=r.length
 have hn:=hV
 have fin:EP X pins σ Q w s:=⟨z,H,I,rw',q⟩
 by_cases h0:0<=i
 ·have hj:i.toNat=j:=by
   rw[Uq h0 h5] at h1
   exact Nl h1
  exact item_listR pl.isList h0 (by omega) (by rw[hj];simpa using ew) fin hs
 ·have hj:(i+(its.toArray.size:Int)).toNat=j:=by
   rw[TH (by omega) h4] at h1
   rw[M5,← hl]
   exact Nl h1
  exact RI (x:=w) pl.isList.typeIs TJ.lookup
   (wpAny_getItem_list_neg (Q:=λr s'=>r=w/\EP X pins σ Q r s') pl.isList (by omega) (by rw[M5]<;>omega) (by omega) (by rw[hj];simpa using ew) ⟨rfl,fin⟩) hs
theorem IB:IxR X (K5 X.K):=by
 intro value slice pins s σ H x y v u Q I rx ry h hs
 obtain ⟨p,xs,i,z,rfl,rfl,hq,he,q⟩:=h
 cases rx
 obtain ⟨t,rfl⟩:=ry
 obtain ⟨its,r,pl,hz⟩:=I.tuple hq
 obtain ⟨j,h1,h2,h3,h4,h5⟩:=qy he
 obtain ⟨w,ew,rw'⟩:=r.get h2
 have hl:=r.length
 have hn:=hV
 have fin:EP X pins σ Q w s:=⟨z,H,I,rw',q⟩
 exact RI (x:=w) pl.typeIs slot_tuple_getitem.lookup
  (getItem_tuple (j:=j) (Q:=λr s'=>r=w/\EP X pins σ Q r s') pl (by omega) (by omega) (by rw[M5,← hl];exact h1) (by simpa using ew) ⟨rfl,fin⟩) hs
theorem zy:IxR X Jr:=by
 intro value slice pins s σ H x y v u Q I rx ry h hs
 obtain ⟨z,i,c,rfl,rfl,hz,he,q⟩:=h
 obtain ⟨t,rfl⟩:=rx
 obtain ⟨t',rfl⟩:=ry
 obtain ⟨j,h1,h2,h3,h4,h5⟩:=qy he
 have hl:z.cps.toList.length=z.length:=by simp[Str.length]
 rw[hl] at h1 h4 h5
 have hn:=hV
 exact tail_any (typeIs_str s z t) slot_str_getitem.lookup (getItem_str (c:=c) (by
  have e1:decide (i < -(2 ^ 63:Int))=false:=decide_eq_false (by omega)
  have e2:decide (i ≥ 2 ^ 63)=false:=decide_eq_false (by omega)
  rw[e1,e2,U0]) (by rw[h1];simpa using h2) ⟨.str ⟨#[c]⟩,H,I.tok _,⟨_,rfl⟩,q⟩) hs
def rIx (K:ML):R2:=λx y H Q=>J3 K x y H Q∨K5 K x y H Q∨Jr x y H Q
theorem Jb:IxR X (rIx X.K):=E2.or (IB.or zy)
theorem uA (its:List MN)(n j:Nat)(u:MN):RJ (·.setIfInBounds j u) { cls:=.type "list", data:=.seq its.toArray n }={ cls:=.type "list", data:=.seq (its.set j u).toArray n }:=by
 simp[RJ]
theorem Inv.lst {pins:List (Addr×Obj)}{σ:St}{H:Hp}{s:MQ}{p:Addr}{xs:List V}(I:Inv X pins σ H s)(h:H p=some (.lst xs)) :
  ∃ (its:List MN) (n:Nat),Vals xs its/\s.heap.get? p=some { cls:=.type "list", data:=.seq its.toArray n }/\xs.length<=sizeLine:=by
 obtain ⟨z,its,n,r,e⟩:=I.hok p _ h
 exact ⟨its,n,r,e,z⟩
theorem Inv.Ja {pins:List (Addr×Obj)}{σ:St}{H:Hp}{s:MQ}{p:Addr}{xs ys:List V}{its its':List MN}{n n':Nat}{f:Obj->Obj}(I:Inv X pins σ H s)(h:H p=some (.lst xs))
  (ho:s.heap.get? p=some { cls:=.type "list", data:=.seq its.toArray n }) (hf:f { cls:=.type "list", data:=.seq its.toArray n }={ cls:=.type "list", data:=.seq its'.toArray n' }) (r:Vals ys its') (hz:ys.length<=sizeLine) (t:Nat) :
  Inv X pins σ (upd H p (.lst ys)) { s with heap:=s.heap.update p f,toks:=t }:=by
 have e:(s.heap.update p f).get? p=some { cls:=.type "list", data:=.seq its'.toArray n' }:=by
  rw[O5 f ho (by rw[hf]<;>rfl),hf]
 refine I.write (x:=p) (e:=p) (by rw[h];trivial) (.inl rfl) (λb u hb q=>(OY _ _ (Np hb)).trans q) ⟨_,e⟩ ?_
 exact ⟨hz,its',n',r,e⟩
def KN:V->V->V->Hp->(Hp->Prop)->Prop:=λo i v H Q=>∃ p xs k j,o=.ref p/\i=.int k/\H p=some (.lst xs)/\ixN xs.length k=some j/\Q (upd H p (.lst (xs.set j v)))
theorem set_list:Lk X KN:=by
 intro pins s σ H o i v ov iv u Q I ro ri rv h
 obtain ⟨p,xs,k,j,rfl,rfl,hp,hj,q⟩:=h
 cases ro
 obtain ⟨t,rfl⟩:=ri
 obtain ⟨its,n,r,ho,hz⟩:=I.lst hp
 obtain ⟨h1,h2,h3,h4⟩:=wg hj
 have hl:=r.length
 have hn:=hV
 have I':Inv X pins σ (upd H p (.lst (xs.set j v))) { s with heap:=s.heap.update p (RJ (·.setIfInBounds j u)) }:=
  I.Ja hp ho (uA its n j u) (r.set rv j) (by rw[List.length_set];exact hz) s.toks
 by_cases h0:0<=k
 ·have hk:k.toNat=j:=by
   rw[Uq h0 h4] at h1
   exact Nl h1
  exact PySem.W.ki_setAt ho h0 (by omega) (by rw[M5,← hl];exact h4) (by rw[hk];exact ⟨_,I',q⟩)
 ·have hk:(k+(its.toArray.size:Int)).toNat=j:=by
   rw[TH (by omega) h3] at h1
   rw[M5,← hl]
   exact Nl h1
  exact PySem.W.ki_setBack ho (by omega) (by rw[M5,← hl];exact h3) (by omega) (by rw[hk];exact ⟨_,I',q⟩)
theorem pf (lo hi:Option Int)(n:Nat):(Py lo hi none n).1=((HT.sIx n 0 lo:Nat):Int)/\(Py lo hi none n).2.1=((HT.sIx n n hi:Nat):Int)/\(Py lo hi none n).2.2=1:=by
 refine ⟨?_,?_,rfl⟩
 ·cases lo with
  | none=>simp[Py,HT.sIx]
  | some i=>
   simp only[Py,HT.sIx,Ug,show (1:Int) > 0 by decide,if_true]
   by_cases h:i < 0
   ·simp only[h,if_true]<;>omega
   ·simp only[h,if_false]<;>omega
 ·cases hi with
  | none=>simp[Py,HT.sIx]
  | some i=>
   simp only[Py,HT.sIx,Ug,show (1:Int) > 0 by decide,if_true]
   by_cases h:i < 0
   ·simp only[h,if_true]<;>omega
   ·simp only[h,if_false]<;>omega
theorem ni (its:List MN)(lo hi:Option Int):slicePick its.toArray lo hi none=((its.drop (HT.sIx its.length 0 lo)).take (HT.sIx its.length its.length hi - HT.sIx its.length 0 lo)).toArray:=by
 obtain ⟨h1,h2,h3⟩:=pf lo hi its.toArray.size
 unfold slicePick
 rw[h1,h2,h3]
 simp only[sliceRange_one,pick_run,M5]<;>rfl
def Mr (K:ML):V->Option Int->Option Int->Hp->VK->Prop:=λx lo hi H Q=>∃ a xs,x=.ref a/\SqL K H a xs/\∀ p,H p=none->Q (.ref p) (upd H p (.lst (rR xs lo hi)))
theorem E1:SlR X (Mr X.K):=by
 intro pins s σ H x v vl vu lo hi sl Q I rx hs pl pu h
 obtain ⟨a,xs,rfl,hx,q⟩:=h
 cases rx
 obtain ⟨its,r,ht,hz⟩:=I.list hx
 have hlen:=r.length
 refine ⟨"list", _,TJ.lookup,ht.isList.typeIs,?_⟩
 refine wpAny_getItem_list_slice ht.isList hs pl pu .none (by simp) ?_ (by rw[M5]<;>omega)
 rw[ni,← hlen]
 refine ⟨.ref s.heap.objs.size,_,I.laid (t':=s.toks) (o:=.lst (rR xs lo hi)) (λb ob q=>MP _ q) (M0 _) ?_,rfl,q _ (I.hok.fresh (M0 _))⟩
 exact ⟨NR (jO xs lo hi) hz,_,0,(r.drop (HT.sIx xs.length 0 lo)).take (HT.sIx xs.length xs.length hi - HT.sIx xs.length 0 lo),MW _ rfl⟩
def Fh:V->Bool
 | .non=>true
 | .bl _=>true
 | .int _=>true
 | .str _=>true
 | _=>false
def eqV:V->V->Bool
 | .non,.non=>true
 | .bl a,.bl b=>a == b
 | .bl a,.int b=>(if a then 1 else 0) == b
 | .int a,.bl b=>a == (if b then 1 else 0)
 | .int a,.int b=>a == b
 | .str a,.str b=>a == b
 | _,_=>false
def inV (x:V)(xs:List V):Bool:=xs.any λy=>eqV y x
def rIn (K:ML)(neg:Bool):R2:=λx y H Q=>∃ p xs,y=.ref p/\(SqL K H p xs∨SqT K H p xs)/\Fh x=true/\xs.all Fh=true/\Q (.bl (if neg then !inV x xs else inV x xs)) H
theorem qt:bL X (.builtin "len") (λxs H Q=>∃ p ys,xs=[.ref p]/\(SqL X.K H p ys∨SqT X.K H p ys)/\Q (.int ys.length) H):=by
 intro pins s σ H xs us Q I r h
 obtain ⟨p,ys,rfl,hq,q⟩:=h
 obtain ⟨u,rfl,rx⟩:=vals1 r
 cases rx
 have hn:=hV
 rcases hq with hq | hq
 ·obtain ⟨its,r',pl,hz⟩:=I.list hq
  have hlen:=r'.length
  exact Calls.call_len_list pl.isList (by simp only[M5]<;>omega) ⟨.int ys.length,H,I.tok _,⟨s.toks+1,by rw[M5,hlen]⟩,q⟩
 ·obtain ⟨its,r',pl,hz⟩:=I.tuple hq
  have hlen:=r'.length
  exact len_tuple pl (by simp only[M5]<;>omega) ⟨.int ys.length,H,I.tok _,⟨s.toks+1,by rw[M5,hlen]⟩,q⟩
theorem ql:bL X (.builtin "len") (λxs H Q=>∃ z,xs=[.str z]/\z.length<=sizeLine/\Q (.int z.length) H):=by
 intro pins s σ H xs us Q I r h
 obtain ⟨z,rfl,hz,q⟩:=h
 obtain ⟨u,rfl,t,rfl⟩:=vals1 r
 have hn:=hV
 exact len_str (by omega) ⟨.int z.length,H,I.tok _,⟨_,rfl⟩,q⟩
theorem bL.or {f:MN}{r r':List V->Hp->VK->Prop}(h:bL X f r)(h':bL X f r'):bL X f (λxs H Q=>r xs H Q∨r' xs H Q):=by
 intro pins s σ H xs us Q I rs q
 rcases q with q | q
 ·exact h pins s σ H xs us Q I rs q
 ·exact h' pins s σ H xs us Q I rs q
theorem aZ:bL X (.type "tuple") (λxs H Q=>∃ p ys,xs=[.ref p]/\((SqL X.K H p ys/\∀ l,H l=none->Q (.ref l) (upd H l (.tup ys)))∨(SqT X.K H p ys/\Q (.ref p) H))):=by
 intro pins s σ H xs us Q I r h
 obtain ⟨p,ys,rfl,h⟩:=h
 obtain ⟨u,rfl,rx⟩:=vals1 r
 cases rx
 rcases h with ⟨hq,q⟩ | ⟨hq,q⟩
 ·obtain ⟨its,r',pl,hz⟩:=I.list hq
  have hlen:=r'.length
  refine call_tuple_list pl.isList (λh' kp=>?_) (by simp only[M5]<;>omega)
  have I1:Inv X pins σ H { s with heap:=h' }:=I.kept (t':=s.toks) kp
  have I2:Inv X pins σ (upd H h'.objs.size (.tup ys)) { s with heap:=h'.push { cls:=.type "tuple", data:=.seq its.toArray } }:=
   I1.laid (t':=s.toks) (λb o e=>MP _ e) (M0 _) (show bj X.prog X.w _ _ _ (.tup ys) from ⟨hz,its,r',sY.new _ _⟩)
  exact ⟨.ref h'.objs.size,_,I2,rfl,q _ (I1.hok.fresh (M0 _))⟩
 ·obtain ⟨its,r',pl,hz⟩:=I.tuple hq
  exact call_tuple_same pl ⟨.ref p,H,I,rfl,q⟩
def tyV (K:ML)(T:String)(x:V)(H:Hp):Prop:=match x with
 | .str _=>T = "str"
 | .int _=>T = "int"
 | .ref p=>(T = "list" /\ ∃ xs,SqL K H p xs)∨(T = "tuple" /\ ∃ o,K.lookup p=some o/\o.cls=.type "tuple" /\ o.dict=none)∨
   (T = "dict" /\ ((∃ kvs,H p=some (.dK kvs))∨∃ kvs,H p=some (.dT kvs)))∨(T = "set" /\ ∃ S n,H p=some (.set S n))
 | _=>False
theorem Hc {pins:List (Addr×Obj)}{σ:St}{H:Hp}{s:MQ}{T:String}{x:V}{v:MN}(I:Inv X pins σ H s)(r:RelV x v)(ty:tyV X.K T x H) :
  s.TypeIs v T/\∀ a,v=.ref a->∃ ob,s.heap.get? a=some ob/\ob.dict=none:=by
 cases x with
 | str z=>
  obtain ⟨t,rfl⟩:=r
  cases (show T = "str" from ty)
  exact ⟨typeIs_str s z t,λ_ e=>nomatch e⟩
 | int i=>
  obtain ⟨t,rfl⟩:=r
  cases (show T = "int" from ty)
  exact ⟨typeIs_int s i t,λ_ e=>nomatch e⟩
 | ref p=>
  cases r
  rcases ty with ⟨rfl,xs,hq⟩ | ⟨rfl,o,hk,hc,hd⟩ | ⟨rfl,hk⟩ | ⟨rfl,S,n,hk⟩
  ·obtain ⟨its,_,pl,_⟩:=I.list hq
   refine ⟨pl.isList.typeIs,λa e=>?_⟩
   cases e
   obtain ⟨o,n,e,c,hd,_⟩:=pl
   exact ⟨o,e,hd⟩
  ·refine ⟨⟨o,I.kIn p o hk,hc⟩,λa e=>?_⟩
   cases e
   exact ⟨o,I.kIn _ o hk,hd⟩
  ·have z:∃ o,s.heap.get? p=some o/\o.ExactDict:=by
    rcases hk with ⟨kvs,hk⟩ | ⟨kvs,hk⟩
    ·obtain ⟨_,_,_,_,o,_,_,e,ex,_⟩:=I.hok p _ hk
     exact ⟨o,e,ex⟩
    ·obtain ⟨_,_,_,_,o,_,_,e,ex,_⟩:=I.hok p _ hk
     exact ⟨o,e,ex⟩
   obtain ⟨o,e,ex⟩:=z
   refine ⟨⟨o,e,ex.1⟩,λa e2=>?_⟩
   cases e2
   exact ⟨o,e,ex.2.1⟩
  ·obtain ⟨o,_,_,_,e,ex,_⟩:=I.hok p _ hk
   refine ⟨⟨o,e,ex.1⟩,λa e2=>?_⟩
   cases e2
   exact ⟨o,e,ex.2.1⟩
 | _=>exact MR ty
def tBM (K:ML)(T:String)(r:V->List V->Hp->VK->Prop)(to:TE)(t:TA):TE:=λσ H Q=>to σ H λx H1=>tyV K T x H1/\t σ H1 λxs H2=>r x xs H2 Q
variable {o e:Nf} {es:List Nf} {to:TE} {t:TA} {name:Str} {apos cpos:Pos} {T id:String} {r:V->List V->Hp->VK->Prop}
theorem Fs (pa:PlainAttrs T)(slot:Slot T name id)(hty:typeOf (.builtin id)=pure (.type "method_descriptor"))(hm:MtR X id r)(ho:PE X o to)(ha:PA X (e::es) t)
  (hbase:O2 o name X.env (N1 o X.env)=N1 o X.env:=by rfl)
  (hfew:((OL cpos (M6 (e::es) X.env)).all (λx=>!x.1)&&(backToKw cpos (Ur [] X.env)).all (λx=>x.1.isSome)
   && decide ((e::es).length+([]:List SA).length+(if ([]:List SA).isEmpty then 0 else 1) < 30))=true:=by rfl)
  (hline:(apos.endLine == cpos.line)=true:=by rfl) (hs:M6 (e::es) X.env=(false,N1 e X.env)::M6 es X.env:=by rfl) (hplain:(OL cpos (M6 es X.env)).any (·.1)=false:=by rfl) :
  PE X (.Call (.Attribute o name apos) (e::es) [] cpos) (tBM X.K T r to t):=by
 intro pins s σ H Q I h
 refine wpAny_Call_method_late hbase hfew hline rfl (thn (ho pins s σ H _ I h) λv s1 ⟨x,H1,I1,r1,ty,q1⟩=>?_)
 obtain ⟨h1,h2⟩:=Hc I1 r1 ty
 refine ⟨T,id,pa,slot,hty,h1,h2,?_⟩
 have hA:=ha cpos pins s1 σ H1 _ I1 q1
 rw[hs] at hA ⊢
 refine PK (by show (false || (OL cpos (M6 es X.env)).any (·.1))=false;rw[hplain]<;>rfl) (Calls.evalArgs_plain ?_)
 exact thn hA λus s2 ⟨vs,H2,I2,r2,q2⟩=>hm pins s2 σ H2 x vs v us Q I2 r1 r2 q2
end
end L2
namespace L2
open PySem PySem.Spec PyProof.Rows
def MtM (X:Cx)(id:String)(r:V->List V->Hp->VK->Prop):Prop:=
 ∀ (pins:List (Addr×Obj)) (s:MQ) (σ:St) (H:Hp) (x:V) (xs:List V) (v:MN) (us:List MN) (Q:VK),Inv X pins σ H s->RelV x v->Vals xs us->r x xs H Q->
  M4 (Nb X.prog X.w) X.A (call (.builtin id) (v::us)) (EP X pins σ Q) X.xe s
theorem Vals.one:∀ {x:V} {us:List MN},Vals [x] us->∃ u,us=[u]/\RelV x u
 | _,_,.cons r .nil=>⟨_,rfl,r⟩
theorem Vals.zero:∀ {us:List MN},Vals [] us->us=[]
 | _,.nil=>rfl
theorem Vals.eraseIdx:∀ {xs:List V} {us:List MN} (i:Nat),Vals xs us->Vals (xs.eraseIdx i) (us.eraseIdx i)
 | _,_,_,.nil=>.nil
 | _,_,0,.cons _ t=>t
 | _,_,i+1,.cons r t=>.cons r (Vals.eraseIdx i t)
theorem Vals.reverse {xs:List V}{us:List MN}(h:Vals xs us):Vals xs.reverse us.reverse:=by
 induction h with
 | nil=>exact .nil
 | cons r t ih=>rw[TK,TK];exact Vals.append ih (.cons r .nil)
theorem nV {α:Type}:∀ (l:List α) (i:Nat),(l.eraseIdx i).length<=l.length
 | [],_=>M0 _
 | _::_,0=>Sg _
 | _::r,i+1=>Rn (nV r i)
section
variable {X:Cx} {pins:List (Addr×Obj)} {σ:St} {H:Hp} {s:MQ} {l b:Addr} {xs ys zs:List V}
theorem Inv.Lq {its its':List MN}{n:Nat}{f:Array MN->Array MN}{t':Nat}(I:Inv X pins σ H s)(hH:H l=some (.lst xs))
  (e:s.heap.get? l=some { cls:=.type "list", data:=.seq its.toArray n }) (hf:f its.toArray=its'.toArray) (hv:Vals ys its') (hz:ys.length<=sizeLine) :
  Inv X pins σ (upd H l (.lst ys)) { s with heap:=s.heap.update l (RJ f),toks:=t' }:=by
 have q:=PySem.IsL.update e f
 rw[hf] at q
 refine I.write (x:=l) (e:=l) (by rw[hH];exact trivial) (.inl rfl) (λb' u hb hu=>(OY s.heap (RJ f) (Np hb)).trans hu) ⟨_,q⟩ ?_
 exact ⟨hz,its',_,hv,q⟩
theorem Inv.Mv {its:List MN}{t':Nat}(I:Inv X pins σ H s)(hv:Vals ys its)(hz:ys.length<=sizeLine) :
  Inv X pins σ (upd H s.heap.objs.size (.lst ys)) { s with heap:=s.heap.push { cls:=.type "list", data:=.seq its.toArray },toks:=t' }:=
 I.laid (λ_ _ q=>MP _ q) (M0 _) ⟨hz,its,0,hv,MW _ rfl⟩
theorem Inv.fresh (I:Inv X pins σ H s):H s.heap.objs.size=none:=I.hok.fresh (M0 _)
theorem Inv.KR (I:Inv X pins σ H s)(hH:H l=some (.lst xs)):xs.length<=sizeLine/\∃ (its:List MN) (n:Nat),Vals xs its/\xs.length=its.length/\s.heap.get? l=some { cls:=.type "list", data:=.seq its.toArray n }:=by
 obtain ⟨z,its,n,r,e⟩:=I.hok l _ hH
 exact ⟨z,its,n,r,r.length,e⟩
end
section
variable {X:Cx}
def DD:V->List V->Hp->VK->Prop:=λx vs H Q=>∃ l xs y,x=.ref l/\vs=[y]/\H l=some (.lst xs)/\xs.length < sizeLine/\Q .non (upd H l (.lst (xs++[y])))
theorem oE:MtM X "list.append" DD:=by
 intro pins s σ H x vs v us Q I rx rv h
 obtain ⟨l,xs,y,rfl,rfl,hH,hz,q⟩:=h
 cases rx
 obtain ⟨u,rfl,ru⟩:=rv.one
 obtain ⟨z,its,n,r,hl,e⟩:=I.KR hH
 refine UO F.slot_list_append ⟨_,e,rfl⟩ F.entry_list_append (F.args_list_append_2 _ _) (PySem.list_append l its.toArray n u (by rw[M5];omega)) ⟨e,?_⟩
 refine ⟨.non,_,I.Lq (its':=its++[u]) hH e (by simp) (r.append (.cons ru .nil)) ?_,rfl,q⟩
 rw[Nt,R7]
 omega
def Jv:V->List V->Hp->VK->Prop:=λx vs H Q=>∃ l xs i k y,x=.ref l/\vs=[.int i]/\H l=some (.lst xs)/\-(2 ^ 63)<=i/\i < 2 ^ 63/\QB i xs.length=some k/\xs[k]? = some y/\Q y (upd H l (.lst (xs.eraseIdx k)))
theorem Cc:MtM X "list.pop" Jv:=by
 intro pins s σ H x vs v us Q I rx rv h
 obtain ⟨l,xs,i,k,y,rfl,rfl,hH,h1,h2,hk,hy,q⟩:=h
 cases rx
 obtain ⟨u,rfl,ru⟩:=rv.one
 obtain ⟨t,rfl⟩:=ru
 obtain ⟨z,its,n,r,hl,e⟩:=I.KR hH
 obtain ⟨w,hw,rw'⟩:=r.get hy
 refine UO F.slot_list_pop ⟨_,e,rfl⟩ F.entry_list_pop (F.args_list_pop_2 _ _)
  (MeetsSeq.list_pop_at l its.toArray n i t k w (fitsIndex_both h1 h2) (by rw[M5,← hl];exact hk) (by rw[← Array.getElem?_toList];exact hw) (by rw[M5];omega)) ⟨e,?_⟩
 refine ⟨y,_,I.Lq (its':=its.eraseIdx k) hH e ?_ (r.eraseIdx k) ?_,rw',q⟩
 ·show its.toArray.eraseIdxIfInBounds k=(its.eraseIdx k).toArray
  rw[List.eraseIdxIfInBounds_toArray]
 ·have:=nV xs k
  omega
end
section
variable {prog:Nh} {w:Nw} {A:NH} {E:MN->MQ->Prop} {s:MQ}
end
section
variable {X:Cx}
end
end L2
namespace Att
open PySem PySem.W PySem.Calls PyProof.Rows
theorem jZ {P:Params}{h:Heap}:∀ (ns:List Int) (vs:List MN),WellAll P h vs (ns.map WData.int)->UE vs ns:=by
 intro ns
 induction ns with
 | nil=>
  intro vs w
  rw[Vd] at w
  cases w
  exact .nil
 | cons n ns ih=>
  intro vs w
  rw[Ni] at w
  cases w with
  | cons a b=>
   cases a
   exact .cons _ _ (ih _ b)
theorem yR {l:OpenLaw}{n:Nat}(hn:l.most=some n){P:Params}{h:Heap}{args:List WData}{vals:List MN}
  (hpre:l.row.toRowW.claim.pre args=true) (hwl:WellAll P h vals args) :
  ∃ a vs ns,vals=[Nr a]/\args=[WData.list (ns.map WData.int)]/\h.get? a=some { cls:=.type "list", data:=.seq vs.toArray }/\UE vs ns/\ns.length<=n:=by
 have hsh:WShape.hasAll [] args [.list .int]=true:=(pre_splitW hpre).1
 have hc:l.pre.holds [] { args:=args }=true:=(pre_splitW hpre).2
 obtain ⟨d,r,rfl,h1,h2⟩:=hasAllW_cons hsh
 obtain rfl:=hasAllW_nil h2
 obtain ⟨xs,rfl,h3⟩:=hasW_list h1
 obtain ⟨ns,rfl⟩:=items_int h3
 have hlen:ns.length<=n:=by
  unfold OpenLaw.pre at hc
  have h4:(WTm.not (.lt (.lit (.int (n:Int))) (.len (.arg 0)))).holds [] { args:=[.list (ns.map .int)] }=true:=by
   have h4:=(holds_andW hc).1
   rw[hn] at h4
   exact h4
  have h5:=condW_of h4 (w_not (w_lt w_lit (w_len_list (w_arg rfl))))
  rw[MX] at h5
  refine Nat.le_of_not_lt λq=>?_
  have q':(n:Int) < ((ns.length:Nat):Int):=by omega
  first
   | (rw[decide_eq_true q'] at h5;exact absurd h5 (by decide))
   | (simp at h5;omega)
 cases hwl with
 | cons w1 w2=>
  cases w2
  cases w1 with
  | list ho hall=>exact ⟨_,_,ns,rfl,rfl,ho,jZ ns _ hall,hlen⟩
theorem yW (l:OpenLaw)(args:List WData):l.row.toRowW.claim.post args (.bool true) args=true:=
 postW_of (r:=l.row.toRowW) (X:=(true == true))
  (show Vt [] (.bool true) .bool=true by first | rfl | decide | simp[Vt,WShape.arms,WShape.armsAll])
  (show (WTm.eq .res (.lit (.bool true))).value [] { args:=args,res:=some (.bool true),after:=args }=some (.bool (true == true)) from w_eq_bool (w_res rfl) w_lit) rfl
theorem tH {l:OpenLaw}{n:Nat}{q:Nh}{loose:List Str}{XP:(Str->Option MN)->Heap->Prop}{YP:Nw->Heap->Prop}{d:DefRec}
  (hn:l.most=some n) (hdf:d.params.defaults=[])
  (call:∀ (w:Nw) (s₀ s₁:MQ) (mg mb:Str->Option MN) (fa:Addr) (o:Obj) (pm cd doc:MN) (a:Addr) (vs:List MN) (ns:List Int),
   Ground q loose [] XP w s₀ mg mb s₁.heap->YP w s₁.heap->
   s₁.heap.get? fa=some o->o.data=.func (docDef d.name d.params d.body d.scope pm cd doc)->s₁.heap.CodeRec cd d.name->mg d.name=some (.ref fa)->
   s₁.heap.get? a=some { cls:=.type "list", data:=.seq vs.toArray }->UE vs ns->ns.length<=n->s₁.gens = #[]->
   QY (Nb l.prog w) RK (.call (.ref fa) ⟨[.ref a],[]⟩) (λr s'=>r=.ok (.ret (.bool true))/\OldK s₁.heap s'.heap/\s'.os=s₁.os/\QW s'.gens) s₁) :
  WalkO q loose XP YP l.row.toRowW d [] (λf vs=>UP f vs):=by
 intro w s₀ s₁ mg mb G Y fa o pm cd doc dV kV ho hd hcd hD hmg hg args vals as hpre hlay hrd hwl hlo
 obtain rfl:dV=.none:=Dflts.none hD hdf
 obtain rfl:kV=.none:=Dflts.noKw hD
 obtain ⟨a,vs,ns,rfl,rfl,hobj,hints,hlen⟩:=yR hn hpre hwl
 refine enter_call (Tx (call w s₀ s₁ mg mb fa o pm cd doc a vs ns G Y ho (fd_plain hd) hcd hmg hobj hints hlen hg) λr s' hq=>?_)
 obtain ⟨rfl,h2,h3,h4⟩:=hq
 exact ⟨.inl ⟨.bool true,.bool true,[],rfl,λ_=>rfl,.bool true,yW l _,λ_=>⟨Vv,λ_ hm=>(nomatch hm)⟩⟩,h2,h3,h4⟩
section
variable {prog:Nh} {w:Nw} {A:NH} {E:MN->MQ->Prop} {s:MQ} {K:Frag}
end
end Att
namespace L2
open PySem PySem.Spec PyProof.Rows
theorem nX:∀ {vs:List MN} {ns:List Int},UE vs ns->Vals (ns.map V.int) vs
 | _,_,.nil=>.nil
 | _,_,.cons n t h=>.cons ⟨t,rfl⟩ (nX h)
def D5 (H:Hp):Prop:=∀ b,H b=none∨∃ o xs,H b=some (.frz o (.lst xs))
theorem zS {P:Nh}{w:Nw}{K:ML}{mg mb:Str->Option MN}{CX:CXT}{k:Nat}{fa a:Addr}{fd:Nd}{x:Str}{sp:Sp}{s₁:MQ}{vs:List MN}{ns:List Int}
  (KX:K.In s₁.heap) (hns:s₁.heap.Ns N4 mg) (hb:s₁.heap.Ns UG mb) (hbb:∀ x:Str,x ≠ "__name__" -> mb x=OF x) (hlim:s₁.heap.NoLimit) (hg:s₁.gens = #[])
  (ha:s₁.heap.get? a=some { cls:=.type "list", data:=.seq vs.toArray }) (hi:UE vs ns) (hl:ns.length<=sizeLine) (hr:di k RK)
  (F:∀ base:Heap,K.In base->base.Ns N4 mg->gX P w K mg base CX k fa fd [x] sp) (hbind:∀ (s:MQ) (u:MN),Tw s fd ⟨[u],[]⟩ [(x,u)])
  (hsp:∀ H:Hp,D5 H->SqL K H a (ns.map V.int)->sp [.ref a] H (λv _=>v=.bl true) λ_ _ _=>False)
  (hCX:∀ H e s',CX [] H s₁ (λ_ _ _=>False) e s'->False) :
  QY (Nb P w) RK (.call (.ref fa) ⟨[.ref a],[]⟩) (λr s'=>r=.ok (.ret (.bool true))/\OldK s₁.heap s'.heap/\s'.os=s₁.os/\QW s'.gens) s₁:=by
 have rv:=nX hi
 have LJ:=hi.length
 -- from an abstract heap in which nothing but the script may be tracked
 have core:∀ H:Hp,D5 H->SqL K H a (ns.map V.int)->HOk P w H s₁.heap->(∀ b,H b≠none->b=a)->(H a≠none->K.lookup a=none)->
   QY (Nb P w) RK (.call (.ref fa) ⟨[.ref a],[]⟩) (λr s'=>r=.ok (.ret (.bool true))/\OldK s₁.heap s'.heap/\s'.os=s₁.os/\QW s'.gens) s₁:=by
  intro H hO hS hok hA hK
  have base_of:∀ {b:Addr} {o:Obj},s₁.heap.get? b=some o->H b=none->(qc s₁.heap H).get? b=some o:=λe n=>BF e n
  have noA:∀ {b:Addr} {o:Obj} {es:Array Rp} {ep:Nat},s₁.heap.get? b=some o->o.data=.dict es ep->H b=none:=λ{b o es ep} e d=>by
   cases q:H b with
   | none=>rfl
   | some u=>
    have e':b=a:=hA b (by rw[q];simp)
    subst e'
    rw[ha] at e;cases e
    have d':Data.seq vs.toArray _=Data.dict es ep:=d
    cases d'
  have nsK:∀ {b:Addr} {m:Str->Option MN},s₁.heap.Ns b m->(qc s₁.heap H).Ns b m:=λ{b m} ⟨o,es,ep,e,d,r⟩=>⟨o,es,ep,base_of e (noA e d),d,r⟩
  have hKb:K.In (qc s₁.heap H):=λb o e=>base_of (KX b o e) (by
   cases q:H b with
   | none=>rfl
   | some u=>
    have e':b=a:=hA b (by rw[q];simp)
    subst e'
    rw[hK (by rw[q];simp)] at e;cases e)
  have hM:Mod K mg (qc s₁.heap H):=⟨hKb,nsK hns,⟨mb,nsK hb,hbb⟩,let ⟨mc,h1,h2⟩:=hlim;⟨mc,nsK h1,h2⟩⟩
  have e0:C7 P w K mg (qc s₁.heap H) RK [] s₁ H:=⟨rfl,hM,λb o e=>Es e,Nat.le_of_eq (yD _ _),trivial,λb hb=>absurd (show b∈([]:List Addr) from hb) (by simp),hok,.of_eq hg⟩
  refine Tx ((F _ hKb (nsK hns)).run RK [] s₁ H ⟨[.ref a],[]⟩ [.ref a] [.ref a] _ _ hr e0 (hbind s₁ (.ref a)) (.cons rfl .nil) (hsp H hO hS)) λr s' h=>?_
  cases r with
  | error e=>exact (hCX H e s' h).elim
  | ok fl=>
   cases fl with
   | next=>exact MR h
   | brk=>exact MR h
   | cont=>exact MR h
   | ret u=>
    obtain ⟨v,H',os,bare,un,hok',r',q⟩:=h
    have q':v=.bl true:=q
    subst q'
    obtain rfl:u=S2 true:=r'
    refine ⟨rfl,OldK.of_keep λb o e=>?_,os,bare⟩
    cases q:H b with
    | none=>exact un.keep b o e q (by intro z;exact absurd (show b∈([]:List Addr) from z) (by simp)) (by simp)
    | some u=>
     rcases hO b with z | ⟨ob,xs,z⟩
     ·rw[q] at z;cases z
     ·have z2:=un.js b ob _ z
      obtain ⟨e1,_⟩:=hok b _ z
      obtain ⟨e2,_⟩:=hok' b _ z2
      rw[e] at e1;cases e1
      exact e2
 cases hk:K.lookup a with
 | some o=>
  -- the script is one of the module's own objects
  have e:=KX a o hk
  rw[ha] at e
  cases e
  refine core (λ_=>none) (λ_=>.inl rfl) (.inr ⟨_,vs.toArray,_,hk,rfl,rfl,rfl,by rw[M5,LJ];exact hl,by simpa using rv⟩) (λb u z=>by have z':(none:Option HO)=some u:=z;cases z') (λb z=>absurd rfl z) λz=>absurd rfl z
 | none=>
  refine core (λb=>if b=a then some (.frz { cls:=.type "list", data:=.seq vs.toArray } (.lst (ns.map V.int))) else none) (λb=>?_) (.inl (.inr ⟨{ cls:=.type "list", data:=.seq vs.toArray },if_pos rfl⟩)) (λb u z=>?_) (λb z=>?_) λ_=>hk
  ·by_cases hb:b=a
   ·exact .inr ⟨_,_,if_pos hb⟩
   ·exact .inl (if_neg hb)
  ·by_cases hb:b=a
   ·have z':=(if_pos hb).symm.trans z
    cases z'
    subst hb
    exact ⟨ha,by rw[MX];exact hl,vs,_,rv,ha⟩
   ·have z':=(if_neg hb).symm.trans z
    cases z'
  ·by_cases hb:b=a
   ·exact hb
   ·exact absurd (if_neg hb) z
end L2
namespace L2
open PySem PySem.Spec PyProof.Rows
theorem Du {l:RX}{n k:Nat}{q:Nh}{loose:List Str}{XP:(Str->Option MN)->Heap->Prop}{YP:Nw->Heap->Prop}{d:DefRec}{K:Params->ML}{CX:Nw->CXT}{sp:Nw->Sp}{x:Str}
  (hn:l.most=some n) (hn2:n<=sizeLine) (hdf:d.params.defaults=[]) (hr:di k RK)
  (hY:∀ (w:Nw) (h:Heap),YP w h->(K w.params).In h)
  (F:∀ (w:Nw) (mg:Str->Option MN) (fa:Addr) (h:Heap),(K w.params).In h->h.Ns N4 mg->mg d.name=some (.ref fa)->
   ∃ fd:Nd,(∀ (s:MQ) (u:MN),Tw s fd ⟨[u],[]⟩ [(x,u)])/\
    ∀ base:Heap,(K w.params).In base->base.Ns N4 mg->gX l.prog w (K w.params) mg base (CX w) k fa fd [x] (sp w))
  (hsp:∀ (w:Nw) (H:Hp) (a:Addr) (ns:List Int),ns.length<=n->D5 H->SqL (K w.params) H a (ns.map V.int)->sp w [.ref a] H (λv _=>v=.bl true) λ_ _ _=>False)
  (hCX:∀ (w:Nw) (H:Hp) (s:MQ) (e:MN) (s':MQ),CX w [] H s (λ_ _ _=>False) e s'->False) :
  U1 q loose XP YP l.row.toRowW d [] (λf vs=>UP f vs):=by
 refine Att.tH hn hdf λw s₀ s₁ mg mb fa o pm cd doc a vs ns G Y ho hd hcd hmg hobj hints hlen hg=>?_
 have KX:=hY w _ Y
 obtain ⟨fd,hb,hF⟩:=F w mg fa _ KX G.T.g hmg
 exact zS KX G.T.g G.T.b G.T.builtins G.T.nolimit hg hobj hints (NR hlen hn2) hr hF hb (λH hO hS=>hsp w H a ns hlen hO hS) λH e s'=>hCX w H s₁ e s'
end L2
namespace L2
open PySem PySem.Spec PyProof.Rows
def iL (s:Stmt):Arguments:=match s with
 | .FunctionDef _ a _ _ _ _ _ _ _ _=>a
 | _=>{ posonlyargs:=[],args:=[],vararg:=none,kwonlyargs:=[],kw_defaults:=[],kwarg:=none,defaults:=[] }
def dE (s:Stmt):List Stmt:=match s with
 | .FunctionDef _ _ b _ _ _ _ _ _ _=>b
 | _=>[]
def au (s:Stmt):Scope:=match s with
 | .FunctionDef _ _ _ _ _ _ sc _ _ _=>sc
 | _=>{ kind:=.function,names:=[],isGenerator:=false,isCoroutine:=false }
abbrev CX0:CXT:=λ_ _ _ _ _ _=>False
abbrev E0:XK:=λ_ _ _=>False
theorem Ll {X:Cx}:Passes CX0 X E0:=λ_ _ _ _ _ _ _ h=>h.elim
structure Fun (K:ML) (x qual:Str) (st:Stmt) (f:Addr) (fd:Nd):Prop where
 ex:∃ (oc:MN) (od:Option Addr) (kV doc pm:MN) (an:Option Addr) (cdv ct:MN) (osl:Array (Option MN)),
  fd=Pf x qual (iL st) (dE st) (au st) .none kV doc pm an cdv ct/\K.lookup f=some ⟨oc,od,.func fd,osl⟩/\Se K cdv qual=true
 kp:PH K (.ref f)=true
section
variable {P:Nh} {w:Nw} {K:ML} {mg:Str->Option MN} {base:Heap}
theorem Fun.ok {x qual:Str}{st:Stmt}{f:Addr}{fd:Nd}{N ps:List Str}{k:Nat}{sp:Sp}(F:Fun K x qual st f fd)(S:aE N ps (au st))(len:∀ vs H Q E,sp vs H Q E->vs.length=ps.length)
  (hbody:∀ (cdv:MN) (A:NH) (outer:List Env) (s:MQ) (H:Hp) (vs:List V) (Q:VK) (E:XK),di k (A.deeper (QH qual (au st) s.heap.objs.size f cdv))->sp vs H Q E->
   ∃ t,PSs (sC CX0 P w K mg base N qual (au st) f cdv A outer s H E).nox (dE st) t/\t { nx:=λ_ H'=>Q .non H',rt:=Q } (start N vs) H):gX P w K mg base CX0 (k+1) f fd ps sp:=by
 obtain ⟨oc,od,kV,doc,pm,an,cdv,ct,osl,rfl,lk,hcd⟩:=F.ex
 refine KZ lk hcd S len λA outer s H vs Q E hr hsp=>?_
 obtain ⟨t,h,q⟩:=hbody cdv A outer s H vs Q E hr hsp
 exact ⟨t,h.nox,q⟩
theorem Fun.binds {x qual:Str}{st:Stmt}{f:Addr}{fd:Nd}{ps:List Str}(F:Fun K x qual st f fd)
  (h:∀ (kV doc pm:MN) (an:Option Addr) (cdv ct:MN) (us:List MN),us.length=ps.length->bindArgs (Pf x qual (iL st) (dE st) (au st) .none kV doc pm an cdv ct) ⟨us,[]⟩=pure (ps.zip us)):Binds K fd ps []:=by
 obtain ⟨oc,od,kV,doc,pm,an,cdv,ct,osl,rfl,lk,hcd⟩:=F.ex
 exact .all (h kV doc pm an cdv ct)
theorem aN {x qual:Str}{st:Stmt}{f:Addr}{oc:MN}{od an:Option Addr}{osl:Array (Option MN)}{kV doc pm cdv ct:MN}(l:K.lookup f=some ⟨oc,od,.func (Pf x qual (iL st) (dE st) (au st) .none kV doc pm an cdv ct),osl⟩)
  (c:Se K cdv qual=true) (k:PH K (.ref f)=true):Fun K x qual st f (Pf x qual (iL st) (dE st) (au st) .none kV doc pm an cdv ct):=⟨⟨oc,od,kV,doc,pm,an,cdv,ct,osl,rfl,l,c⟩,k⟩
end
section
variable {X:Cx}
theorem pv (i:Nat){x:Str}{pos:Pos}(hN:X.N[i]? = some x:=by rfl)(hv:Vis X.env.scope x:=by first | exact QK rfl | exact PZ (QK rfl) | exact PZ (PZ rfl))(hd:(x == ("__debug__" : Str))=false:=by decide)
  (hcd:(x == ("__classdict__" : Str))=false:=by decide):PE X (.Name x pos) (JL i):=BK hN hv hd hcd
end
theorem qF {A B:Prop}(h:B):if false=true then A else B:=by
 rw[if_neg QG]
 exact h
theorem pN {A B:Prop}(h:A):if true=true then A else B:=by
 rw[if_pos rfl]
 exact h
def sU (H H':Hp):Prop:=∀ b o,H b=some o->H' b=some o
theorem sU.trans {H H1 H2:Hp}(a:sU H H1)(b:sU H1 H2):sU H H2:=λc o h=>b c o (a c o h)
theorem sU.free {H H':Hp}(e:sU H H'){l:Addr}(h:H' l=Vn):H l=Vn:=by
 cases q:H l with
 | none=>rfl
 | some o=>
  rw[e l o q] at h
  cases h
theorem sU.seq {K:ML}{H H':Hp}{a:Addr}{xs:List V}(e:sU H H')(h:SqL K H a xs):SqL K H' a xs:=by
 rcases h with (h | ⟨o,h⟩) | h
 ·exact .inl (.inl (e _ _ h))
 ·exact .inl (.inr ⟨o,e _ _ h⟩)
 ·exact .inr h
end L2
namespace L2
open PySem PySem.Spec PyProof.Rows
section
variable {κ:Type} [DecidableEq κ]
def fN (kvs:List (κ×V))(k:κ):Option V:=(kvs.find? λkv=>decide (kv.1=k)).map (·.2)
def putK (kvs:List (κ×V))(k:κ)(v:V):List (κ×V):=
 if (kvs.any λkv=>decide (kv.1=k))=true then kvs.map (λkv=>if kv.1=k then (kv.1,v) else kv) else kvs++[(k,v)]
def FG (kvs:List (κ×V))(k:κ):List (κ×V):=kvs.filter λkv=>decide (kv.1≠k)
theorem iC {p:κ×V}{r:List (κ×V)}{k:κ}(e:p.1=k):fN (p::r) k=some p.2:=by simp[fN,NC,e]
theorem iJ {p:κ×V}{r:List (κ×V)}{k:κ}(e:¬ p.1=k):fN (p::r) k=fN r k:=by simp[fN,NC,e]
theorem sO (k:κ):∀ kvs:List (κ×V),(kvs.any λkv=>decide (kv.1=k))=(fN kvs k).isSome
 | []=>rfl
 | p::r=>by
  rw[O3]
  by_cases e:p.1=k
  ·simp only[iC e,decide_eq_true e,Ve,Option.isSome_some]
  ·rw[iJ e,decide_eq_false e,U2];exact sO k r
theorem fB (kvs:List (κ×V))(k:κ)(v:V):(putK kvs k v).length<=kvs.length+1:=by
 unfold putK
 split
 ·rw[MX];omega
 ·rw[Nt,Nk,List.length_nil];omega
theorem gD.eG {o:Option V}{u:Option MN}(r:gD o u):o.isSome=u.isSome:=by
 cases o with
 | none=>cases u with
  | none=>rfl
  | some _=>exact (show False from r).elim
 | some _=>cases u with
  | none=>exact (show False from r).elim
  | some _=>rfl
theorem gD.getD {o:Option V}{u:Option MN}{d:V}{d':MN}(r:gD o u)(rd:RelV d d'):RelV (o.getD d) (u.getD d'):=by
 cases o with
 | none=>cases u with
  | none=>exact rd
  | some _=>exact (show False from r).elim
 | some _=>cases u with
  | none=>exact (show False from r).elim
  | some _=>exact r
theorem KV.val {kvs:List (κ×V)}{vs:List (κ×MN)}(r:KV kvs vs)(k:κ):gD (fN kvs k) (SD vs k):=by
 unfold KV at r
 induction r with
 | nil=>exact S8
 | @cons p q ps qs h t ih=>
  obtain ⟨h1,h2⟩:=h
  by_cases e:p.1=k
  ·have e':q.1=k:=h1.symm.trans e
   have b:SD (q::qs) k=some q.2:=by simp[SD,NC,e']
   rw[iC e,b];exact h2
  ·have e':¬ q.1=k:=λz=>e (h1.trans z)
   have b:SD (q::qs) k=SD qs k:=by simp[SD,NC,e']
   rw[iJ e,b];exact ih
theorem KV.any {kvs:List (κ×V)}{vs:List (κ×MN)}(r:KV kvs vs)(k:κ):(kvs.any λkv=>decide (kv.1=k))=vs.any λkv=>decide (kv.1=k):=by
 unfold KV at r
 induction r with
 | nil=>rfl
 | cons h t ih=>rw[O3,O3,ih,h.1]
theorem KV.Io {kvs:List (κ×V)}{vs:List (κ×MN)}(r:KV kvs vs)(k:κ){y:V}{u:MN}(ry:RelV y u) :
  KV (kvs.map λkv=>if kv.1=k then (kv.1,y) else kv) (vs.map λkv=>if kv.1=k then (kv.1,u) else kv):=by
 unfold KV at r ⊢
 induction r with
 | nil=>exact .nil
 | @cons p q ps qs h t ih=>
  rw[Ni,Ni]
  refine .cons ?_ ih
  obtain ⟨h1,h2⟩:=h
  by_cases e:p.1=k
  ·rw[if_pos e,if_pos (h1.symm.trans e)];exact ⟨h1,ry⟩
  ·rw[if_neg e,if_neg (λz=>e (h1.trans z))];exact ⟨h1,h2⟩
theorem KV.put {kvs:List (κ×V)}{vs:List (κ×MN)}(r:KV kvs vs)(k:κ){y:V}{u:MN}(ry:RelV y u):KV (putK kvs k y) (stored vs k u):=by
 unfold putK stored
 rw[r.any k]
 by_cases e:(vs.any λkv=>decide (kv.1=k))=true
 ·rw[if_pos e,if_pos e];exact r.Io k ry
 ·rw[if_neg e,if_neg e];exact Vo r ⟨rfl,ry⟩
theorem KV.drop {kvs:List (κ×V)}{vs:List (κ×MN)}(r:KV kvs vs)(k:κ):KV (FG kvs k) (without vs k):=by
 unfold KV at r ⊢
 unfold FG without
 induction r with
 | nil=>exact .nil
 | @cons p q ps qs h t ih=>
  obtain ⟨h1,h2⟩:=h
  rw[Ot,Ot]
  by_cases e:p.1=k
  ·have a:¬ decide (p.1≠k)=true:=by simp[e]
   have b:¬ decide (q.1≠k)=true:=by simp[h1.symm.trans e]
   rw[if_neg a,if_neg b];exact ih
  ·have e':¬ q.1=k:=λz=>e (h1.trans z)
   have a:decide (p.1≠k)=true:=by simp[e]
   have b:decide (q.1≠k)=true:=by simp[e']
   rw[if_pos a,if_pos b];exact .cons ⟨h1,h2⟩ ih
theorem KV.length {kvs:List (κ×V)}{vs:List (κ×MN)}(r:KV kvs vs):kvs.length=vs.length:=SJ r
end
theorem oD {P:Nh}{w:Nw}{k:Key}{u:MN}(r:RelV (kV k) u):(aS P w).is k u=true:=by
 cases k with
 | inl i=>obtain ⟨t,e⟩:=(show ∃ t,u=T8 i t from r);subst e;exact sT P w i t
 | inr x=>obtain ⟨t,e⟩:=(show ∃ t,u=Sy x t from r);subst e;exact tL P w x t
theorem nZ {P:Nh}{w:Nw}:∀ {ks:List Key} {us:List MN},Vals (ks.map kV) us->ItemsAre (aS P w) ks us
 | [],_,r=>by rw[Vd] at r;cases r;exact .nil
 | k::ks,_,r=>by
  rw[Ni] at r
  cases r with
  | cons h t=>exact .cons (oD h) (nZ t)
abbrev KT (H:Hp):List (List Key×V)->List (List Key×Addr×MN)->Prop:=RC λp q=>p.1=q.1/\H q.2.1=some (.tup (p.1.map kV))/\RelV p.2 q.2.2
theorem KT.val {H:Hp}{kvs:List (List Key×V)}{xs:List (List Key×Addr×MN)}(r:KT H kvs xs)(k:List Key):gD (fN kvs k) ((Us xs k).map (·.2)):=by
 induction r with
 | nil=>exact S8
 | @cons p q ps qs h t ih=>
  obtain ⟨h1,_,h2⟩:=h
  by_cases e:p.1=k
  ·have e':q.1=k:=h1.symm.trans e
   have b:Us (q::qs) k=some q.2:=by simp[Us,NC,e']
   rw[iC e,b];exact h2
  ·have e':¬ q.1=k:=λz=>e (h1.trans z)
   have b:Us (q::qs) k=Us qs k:=by simp[Us,NC,e']
   rw[iJ e,b];exact ih
theorem KT.Io {H:Hp}{kvs:List (List Key×V)}{xs:List (List Key×Addr×MN)}(r:KT H kvs xs)(k:List Key){y:V}{u:MN}(ry:RelV y u) :
  KT H (kvs.map λkv=>if kv.1=k then (kv.1,y) else kv) (xs.map (putAt k u)):=by
 induction r with
 | nil=>exact .nil
 | @cons p q ps qs h t ih=>
  rw[Ni,Ni]
  refine .cons ?_ ih
  obtain ⟨h1,h2,h3⟩:=h
  unfold putAt
  by_cases e:p.1=k
  ·rw[if_pos e,if_pos (h1.symm.trans e)];exact ⟨h1,h2,ry⟩
  ·rw[if_neg e,if_neg (λz=>e (h1.trans z))];exact ⟨h1,h2,h3⟩
theorem KT.put {H:Hp}{kvs:List (List Key×V)}{xs:List (List Key×Addr×MN)}(r:KT H kvs xs)(k:List Key){b:Addr}{y:V}{u:MN}(hb:H b=some (.tup (k.map kV)))(ry:RelV y u) :
  KT H (putK kvs k y) (storedH xs k b u):=by
 have e:(kvs.any λkv=>decide (kv.1=k))=(Us xs k).isSome:=by
  rw[sO,(r.val k).eG,Q1]
 unfold putK storedH
 rw[e]
 by_cases q:(Us xs k).isSome=true
 ·rw[if_pos q,if_pos q];exact r.Io k ry
 ·rw[if_neg q,if_neg q];exact Vo r ⟨rfl,hb,ry⟩
theorem KT.keeps {H H':Hp}{kvs:List (List Key×V)}{xs:List (List Key×Addr×MN)}(r:KT H kvs xs)(ht:∀ b ys,H b=some (.tup ys)->H' b=some (.tup ys)):KT H' kvs xs:=
 RC.Ik r λ_ _ z=>⟨z.1,ht _ _ z.2.1,z.2.2⟩
section
variable {P:Nh} {w:Nw} {H:Hp} {h:Heap} {a:Addr}
theorem Fu {u:HO}(ok:HOk P w H h)(e:Rd H a u):bj P w H h a u:=e.ok ok
theorem sH {kvs:List (Key×V)}(ok:HOk P w H h)(e:Rd H a (.dK kvs)):kvs.length<=sizeLine/\(a == Pa)=false/\∃ vs,KV kvs vs/\h.DictOf (aS P w) a vs:=
 show bj P w H h a (.dK kvs) from Fu ok e
theorem J6 {kvs:List (Key×V)}(ok:HOk P w H h)(e:H a=some (.dK kvs)):kvs.length<=sizeLine/\(a == Pa)=false/\∃ vs,KV kvs vs/\h.DictOf (aS P w) a vs:=sH ok (.inl e)
theorem lS {ks:List Key}(ok:HOk P w H h)(e:H a=some (.tup (ks.map kV))):(Sz (aS P w)).is h ks a:=by
 obtain ⟨_,its,r,n,h1⟩:=(show bj P w H h a (.tup (ks.map kV)) from ok a _ e)
 exact ⟨_,its.toArray,n,h1,rfl,rfl,by simpa using nZ r⟩
theorem qU {kvs:List (List Key×V)}(ok:HOk P w H h)(e:Rd H a (.dT kvs)):kvs.length<=sizeLine/\(a == Pa)=false/\
  ∃ xs,KT H kvs xs/\h.DictOfH (Sz (aS P w)) a xs:=by
 obtain ⟨z,y,xs,r,o,es,ep,h1,h2,h3,h4,h5⟩:=(show bj P w H h a (.dT kvs) from Fu ok e)
 refine ⟨z,y,xs,r,o,es,ep,h1,h2,h3,h4,λx hx=>?_,h5⟩
 have all:∀ {l:List (List Key×V)} {m:List (List Key×Addr×MN)},KT H l m->∀ x∈m,(Sz (aS P w)).is h x.1 x.2.1:=by
  intro l m q
  induction q with
  | nil=>intro x hx;exact nomatch hx
  | @cons p q ps qs hq t ih=>
   intro x hx
   rcases MY.mp hx with e | hx
   ·subst e
    exact lS ok (by rw[← hq.1];exact hq.2.1)
   ·exact ih x hx
 exact all r x hx
theorem K4 {kvs:List (List Key×V)}(ok:HOk P w H h)(e:H a=some (.dT kvs)):kvs.length<=sizeLine/\(a == Pa)=false/\
  ∃ xs,KT H kvs xs/\h.DictOfH (Sz (aS P w)) a xs:=qU ok (.inl e)
end
def iK (H:Hp)(a:Addr)(y:V)(r:Option V):Prop:=
 (∃ kvs k,Rd H a (.dK kvs)/\y=kV k/\r=fN kvs k)∨∃ kvs k b,Rd H a (.dT kvs)/\y=.ref b/\H b=some (.tup (k.map kV))/\r=fN kvs k
def t9 (H:Hp)(a:Addr)(y v:V)(H':Hp):Prop:=
 (∃ kvs k,H a=some (.dK kvs)/\y=kV k/\kvs.length < sizeLine/\H'=upd H a (.dK (putK kvs k v)))∨
 ∃ kvs k b,H a=some (.dT kvs)/\y=.ref b/\H b=some (.tup (k.map kV))/\kvs.length < sizeLine/\H'=upd H a (.dT (putK kvs k v))
theorem iK.k {H:Hp}{a:Addr}{kvs:List (Key×V)}{k:Key}(e:H a=some (.dK kvs)):iK H a (kV k) (fN kvs k):=.inl ⟨kvs,k,.inl e,rfl,rfl⟩
theorem iK.t {H:Hp}{a b:Addr}{kvs:List (List Key×V)}{k:List Key}(e:H a=some (.dT kvs))(eb:H b=some (.tup (k.map kV))):iK H a (.ref b) (fN kvs k):=.inr ⟨kvs,k,b,.inl e,rfl,eb,rfl⟩
theorem t9.k {H:Hp}{a:Addr}{kvs:List (Key×V)}{k:Key}{v:V}(e:H a=some (.dK kvs))(hl:kvs.length < sizeLine):t9 H a (kV k) v (upd H a (.dK (putK kvs k v))):=.inl ⟨kvs,k,e,rfl,hl,rfl⟩
theorem t9.t {H:Hp}{a b:Addr}{kvs:List (List Key×V)}{k:List Key}{v:V}(e:H a=some (.dT kvs))(eb:H b=some (.tup (k.map kV)))(hl:kvs.length < sizeLine) :
  t9 H a (.ref b) v (upd H a (.dT (putK kvs k v))):=.inr ⟨kvs,k,b,e,rfl,eb,hl,rfl⟩
section
variable {X:Cx} {pins:List (Addr×Obj)} {σ:St} {H:Hp} {s:MQ} {a:Addr} {y v:V} {u r:MN} {o:Option V} {A:NH} {E:MN->MQ->Prop}
theorem Inv.big (I:Inv X pins σ H s):Pa < s.heap.objs.size:=by
 have h:N4 < s.heap.objs.size:=(I.mod.glob.keeps I.bk).lt
 exact TL (by decide) h
theorem yT {Q:MN->MQ->Prop}(hu:A.units+1 < cLine)(I:Inv X pins σ H s)(g:iK H a y (some v))(ry:RelV y u)(h:∀ w' s',Inv X pins σ H s'->RelV v w'->Q w' s') :
  M4 (Nb X.prog X.w) A (Qw (.ref a) u) Q E s:=by
 rcases g with ⟨kvs,k,e,ey,l⟩ | ⟨kvs,k,b,e,ey,eb,l⟩
 ·subst ey
  obtain ⟨z,hd,vs,rel,dd⟩:=sH I.hok e
  obtain ⟨w',hw,rw'⟩:=gD.some_of (v:=v) (o:=SD vs k) (by rw[l];exact rel.val k)
  exact wpAny_getItem_of (oD ry) dd.mapOf hw (h w' _ (I.tok _) rw')
 ·subst ey
  cases (show u=Nr b from ry)
  obtain ⟨z,hd,xs,rel,dd⟩:=qU I.hok e
  obtain ⟨w',hw,rw'⟩:=gD.some_of (v:=v) (o:=(Us xs k).map (·.2)) (by rw[l];exact rel.val k)
  obtain ⟨p,hp,hp2⟩:=Option.map_eq_some_iff.mp hw
  refine wpAny_getItem_heap (Pu hu) (lS I.hok eb) dd hp ?_
  rw[hp2]
  exact h w' _ (I.tok _) rw'
theorem Lx {Q:MN->MQ->Prop}(hu:A.units+1 < cLine)(I:Inv X pins σ H s)(g:iK H a y o)(ry:RelV y u)(h:∀ s',Inv X pins σ H s'->Q (.bool o.isSome) s') :
  M4 (Nb X.prog X.w) A (N5 .In u (.ref a)) Q E s:=by
 rcases g with ⟨kvs,k,e,ey,l⟩ | ⟨kvs,k,b,e,ey,eb,l⟩
 ·subst ey
  obtain ⟨z,hd,vs,rel,dd⟩:=sH I.hok e
  refine wpAny_in_of (oD ry) hd dd.mapOf ?_
  rw[← (rel.val k).eG,← l]
  exact h _ (I.tok _)
 ·subst ey
  cases (show u=Nr b from ry)
  obtain ⟨z,hd,xs,rel,dd⟩:=qU I.hok e
  refine wpAny_in_heap (Pu hu) (lS I.hok eb) hd dd ?_
  have q:=(rel.val k).eG
  rw[Q1] at q
  rw[← q,← l]
  exact h _ (I.tok _)
theorem DT {Q:MN->MQ->Prop}(hu:A.units+1 < cLine)(I:Inv X pins σ H s)(g:iK H a y o)(ry:RelV y u)(h:∀ s',Inv X pins σ H s'->Q (.bool (!o.isSome)) s') :
  M4 (Nb X.prog X.w) A (N5 .NotIn u (.ref a)) Q E s:=by
 rcases g with ⟨kvs,k,e,ey,l⟩ | ⟨kvs,k,b,e,ey,eb,l⟩
 ·subst ey
  obtain ⟨z,hd,vs,rel,dd⟩:=sH I.hok e
  refine wpAny_notIn_of (oD ry) hd dd.mapOf ?_
  rw[← (rel.val k).eG,← l]
  exact h _ (I.tok _)
 ·subst ey
  cases (show u=Nr b from ry)
  obtain ⟨z,hd,xs,rel,dd⟩:=qU I.hok e
  refine wpAny_notIn_heap (Pu hu) (lS I.hok eb) hd dd ?_
  have q:=(rel.val k).eG
  rw[Q1] at q
  rw[← q,← l]
  exact h _ (I.tok _)
theorem wz {h':Heap}{t':Nat}{ob:HO}(I:Inv X pins σ H s)(mu:Mut (H a))(hs:OV a s.heap h')(he:∃ q,h'.get? a=some q)(new:bj X.prog X.w (upd H a ob) h' a ob) :
  Inv X pins σ (upd H a ob) { s with heap:=h',toks:=t' }:=
 I.write (x:=a) (e:=a) mu (.inl rfl) (λb q hb z=>(hs.2 b hb).trans z) he new
theorem CA {P:Nh}{w:Nw}{H':Hp}{h':Heap}{kvs:List (Key×V)}{vs:List (Key×MN)}(z:kvs.length<=sizeLine)(hd:(a == Pa)=false)(rel:KV kvs vs)(dd:h'.DictOf (aS P w) a vs) :
  bj P w H' h' a (.dK kvs):=⟨z,hd,vs,rel,dd⟩
theorem xY {H':Hp}{Q:Unit->MQ->Prop}(hu:A.units+1 < cLine)(I:Inv X pins σ H s)(g:t9 H a y v H')(ry:RelV y u)(rv:RelV v r)(h:∀ s',Inv X pins σ H' s'->Q () s') :
  M4 (Nb X.prog X.w) A (setItem (.ref a) u r) Q E s:=by
 rcases g with ⟨kvs,k,e,ey,l,eH⟩ | ⟨kvs,k,b,e,ey,eb,l,eH⟩
 ·subst ey eH
  obtain ⟨z,hd,vs,rel,dd⟩:=J6 I.hok e
  have hz:vs.length<=sizeLine:=by rw[← rel.length];exact z
  have hl:(putK kvs k v).length<=sizeLine:=by have:=fB kvs k v;omega
  refine wpAny_setItem_pairs (hsz:=hz) (oD ry) dd λh' dd' hs=>h _ ?_
  have he:∃ q,h'.get? a=some q:=let ⟨q,_,_,hq,_⟩:=dd';⟨q,hq⟩
  exact wz I (by rw[e];exact S8) hs he (CA hl hd (rel.put k rv) dd')
 ·subst ey eH
  cases (show u=Nr b from ry)
  obtain ⟨z,hd,xs,rel,dd⟩:=K4 I.hok e
  have hz:xs.length<=sizeLine:=by rw[← SJ rel];exact z
  have hl:(putK kvs k v).length<=sizeLine:=by have:=fB kvs k v;omega
  refine wpAny_setItem_heap (hsz:=hz) (Pu hu) (lS I.hok eb) dd λh' dd' hs=>h _ ?_
  obtain ⟨q,es,ep,hq,h2,h3,h4,_,h5⟩:=dd'
  refine wz I (by rw[e];exact S8) hs ⟨q,hq⟩ ⟨hl,hd,_,(rel.put k eb rv).keeps λc ys ec=>?_,q,es,ep,hq,h2,h3,h4,h5⟩
  rw[az (Kg ec e (λz=>nomatch z))]
  exact ec
end
section
variable {X:Cx} {pins:List (Addr×Obj)} {σ:St} {H:Hp} {s:MQ} {a:Addr} {kvs:List (Key×V)} {k:Key} {u:MN} {A:NH} {E:MN->MQ->Prop}
end
def IK (i:Nf):Prop:=∀ ov iv,Sf i false ov iv=operate [ov,iv] (Qw ov iv)
theorem DM {prog:Nh}{w:Nw}{A:NH}{E:MN->MQ->Prop}{s:MQ}{env:Env}{value slice:Nf}{pos:Pos}{T id:String}{Q:MN->MQ->Prop}
  (hl:S7 (.type T) "__getitem__" = pure (some (.builtin id))) (hs:IK slice)
  (h:M4 (Nb prog w) A (N1 value env) (λo s₁=>M4 (Nb prog w) A (N1 slice env) (λi s₂=>s₂.TypeIs o T/\M4 (Nb prog w) A (Qw o i) Q E s₂) E s₁) E s) :
  M4 (Nb prog w) A (N1 (.Subscript value slice pos) env) Q E s:=by
 refine UN (NW h (λo s₁ h₁=>NW h₁ (λi s₂ h₂=>?_) λ_ _ x=>x) λ_ _ x=>x)
 obtain ⟨hT,h₂⟩:=h₂
 unfold SO
 refine MM ?_
 rw[getitemInPython_of_ne hT.not_modules]
 refine MM (Qi hT hl ?_)
 have fin:M4 (Nb prog w) A (Sf slice false o i) (λr s₃=>M4 (Nb prog w) A (letTemporaryGo value o r >>= λ_=>pure r) Q E s₃) E s₂:=by
  rw[hs o i]
  exact wpAny_operating (NW h₂ (λr s₃ h₃=>MM (wpAny_letTemporaryGo (wpAny_pure h₃))) λ_ _ x=>x)
 first
  | exact wpAny_pure (MM fin)
  | exact MM (wpAny_pure (MM fin))
  | exact MM fin
theorem sP {X:Cx}{pins:List (Addr×Obj)}{σ:St}{H:Hp}{s:MQ}{a:Addr}{y:V}{o:Option V}(I:Inv X pins σ H s)(g:iK H a y o):s.TypeIs (.ref a) "dict" := by
 rcases g with ⟨kvs,k,e,_,_⟩ | ⟨kvs,k,b,e,_,_,_⟩
 ·obtain ⟨_,_,vs,_,dd⟩:=sH I.hok e
  exact dd.typeIs
 ·obtain ⟨_,_,xs,_,dd⟩:=qU I.hok e
  exact dd.typeIs
def JH (td ty:TE):TE:=λσ H Q=>td σ H λx H1=>ty σ H1 λy H2=>∃ a v,x=.ref a/\iK H2 a y (some v)/\Q v H2
def K9 (ty td:TE):TE:=λσ H Q=>ty σ H λy H1=>td σ H1 λx H2=>∃ a o,x=.ref a/\iK H2 a y o/\Q (.bl o.isSome) H2
def wW (ty td:TE):TE:=λσ H Q=>ty σ H λy H1=>td σ H1 λx H2=>∃ a o,x=.ref a/\iK H2 a y o/\Q (.bl (!o.isSome)) H2
def JM (td ty tv:TE):TS:=λD σ H=>tv σ H λv H1=>td σ H1 λx H2=>ty σ H2 λy H3=>∃ a H4,x=.ref a/\t9 H3 a y v H4/\D.nx σ H4
section
variable {X:Cx} {o i e value:Nf} {pos pos' tpos:Pos} {td ty tv:TE}
theorem EE (hu:X.A.units+1 < cLine)(ho:PE X o td)(hi:PE X i ty)(hs:IK i):PE X (.Subscript o i pos) (JH td ty):=by
 intro pins s σ H Q I h
 refine DM PySem.F.slot_dict_getitem.lookup hs (thn (ho pins s σ H _ I h) λu s1 ⟨x,H1,I1,rx,q1⟩=>thn (hi pins s1 σ H1 _ I1 q1) λiv s2 ⟨y,H2,I2,ry,a,v,ex,g,q2⟩=>?_)
 subst ex
 obtain rfl:u=Nr a:=rx
 exact ⟨sP I2 g,yT hu I2 g ry λw' s3 I3 rw'=>⟨v,H2,I3,rw',q2⟩⟩
theorem G8 (hu:X.A.units+1 < cLine)(hi:PE X i ty)(ho:PE X o td):PC X .In i o (K9 ty td):=by
 intro pins s σ H Q I h
 refine thn (hi pins s σ H _ I h) λiv s1 ⟨y,H1,I1,ry,q1⟩=>thn (ho pins s1 σ H1 _ I1 q1) λu s2 ⟨x,H2,I2,rx,a,ov,ex,g,q2⟩=>?_
 subst ex
 obtain rfl:u=Nr a:=rx
 exact Lx hu I2 g ry λs3 I3=>⟨.bl ov.isSome,H2,I3,rfl,q2⟩
theorem xO (hu:X.A.units+1 < cLine)(hi:PE X i ty)(ho:PE X o td):PC X .NotIn i o (wW ty td):=by
 intro pins s σ H Q I h
 refine thn (hi pins s σ H _ I h) λiv s1 ⟨y,H1,I1,ry,q1⟩=>thn (ho pins s1 σ H1 _ I1 q1) λu s2 ⟨x,H2,I2,rx,a,ov,ex,g,q2⟩=>?_
 subst ex
 obtain rfl:u=Nr a:=rx
 exact DT hu I2 g ry λs3 I3=>⟨.bl (!ov.isSome),H2,I3,rfl,q2⟩
theorem De (hu:X.A.units+1 < cLine)(ho:PE X o td)(hi:PE X i ty)(hv:PE X value tv)(hs:Pe value (some (.Subscript o i pos')) pos.line X.env=pure false) :
  PS X (.Assign [.Subscript o i pos'] value pos) (JM td ty tv):=by
 intro pins s σ H D I h
 refine wpAny_Assign_Subscript (thn (hv pins s σ H _ I h) λr s1 ⟨v,H1,I1,rv,q1⟩=>thn (ho pins s1 σ H1 _ I1 q1) λu s2 ⟨x,H2,I2,rx,q2⟩=>thn (hi pins s2 σ H2 _ I2 q2) λiv s3 ⟨y,H3,I3,ry,a,H4,ex,g,q3⟩=>?_) hs
 subst ex
 obtain rfl:u=Nr a:=rx
 exact xY hu I3 g ry rv λs4 I4=>⟨σ,H4,I4,q3⟩
end
theorem zk {P:Nh}{w:Nw}{H:Hp}(h:Heap)(hb:Pa < h.objs.size):bj P w H (h.push { cls:=.type "dict", data:=.dict #[] }) h.objs.size (.dK []):=
 ⟨N0 _,beq_eq_false_iff_ne.mpr (Np (Na hb)),[],.nil,Ux h⟩
def G4:TE:=λ_ H Q=>∀ p,H p=none->Q (.ref p) (upd H p (.dK []))
section
variable {X:Cx} {pos:Pos}
theorem AA:PE X (.Dict [] [] pos) G4:=λpins s σ H Q I h=>
 wpAny_Dict_empty ⟨.ref s.heap.objs.size,_,I.laid (a:=s.heap.objs.size) (o:=.dK []) (t':=s.toks) (λ_ _ q=>MP _ q) (M0 _) (zk s.heap I.big),rfl,h _ (I.hok.fresh (M0 _))⟩
end
def fj (kvs more:List (Key×V)):List (Key×V):=more.foldl (λacc kv=>putK acc kv.1 kv.2) kvs
theorem KV.merge:∀ {more:List (Key×V)} {rs:List (Key×MN)} {kvs:List (Key×V)} {vs:List (Key×MN)},KV more rs->KV kvs vs->KV (fj kvs more) (merged vs rs):=by
 intro more rs kvs vs r
 unfold KV at r
 induction r generalizing kvs vs with
 | nil=>intro q;exact q
 | @cons p q ps qs h t ih=>
  intro r0
  have e:KV (putK kvs p.1 p.2) (stored vs q.1 q.2):=by
   have:=r0.put p.1 h.2
   rw[← h.1];exact this
  exact ih e
theorem gH:∀ (more kvs:List (Key×V)),(fj kvs more).length<=kvs.length+more.length
 | [],kvs=>by show kvs.length<=kvs.length+0;omega
 | p::r,kvs=>by
  have h1:=gH r (putK kvs p.1 p.2)
  have h2:=fB kvs p.1 p.2
  show (fj (putK kvs p.1 p.2) r).length<=_
  rw[Nk];omega
section
variable {X:Cx} {pins:List (Addr×Obj)} {σ:St} {H:Hp} {s:MQ} {a:Addr} {y d:V} {u r:MN} {o:Option V} {A:NH} {E:MN->MQ->Prop}
end
section
variable {X:Cx} {o e f:Nf} {apos cpos:Pos} {td ty tx:TE}
end
section
variable {X:Cx} {pins:List (Addr×Obj)} {σ:St} {H:Hp} {s:MQ} {a:Addr} {kvs:List (Key×V)} {A:NH} {E:MN->MQ->Prop}
end
section
variable {X:Cx} {pins:List (Addr×Obj)} {σ:St} {H:Hp} {s:MQ} {a:Addr} {y:V} {u:MN} {A:NH} {E:MN->MQ->Prop}
end
end L2
namespace L3
open PySem
local macro_rules | `(tactic| walk_at "ln")=>`(tactic| (intro ds μ Q h;split at h;rfl;exact h.elim))
theorem Jn {p q:Prop}(a:p)(b:q):p/\q:=⟨a,b⟩
inductive D where
 | non | bl (b:Bool) | int (i:Int) | str (x:Str) | ty (n:String) | tup (ds:List D) | ls (ds:List D) | obj (a:Addr)
inductive MO where
 | lst (ds:List D)
 | dct (kvs:List (L2.Key×D))
 | dcT (kvs:List (List L2.Key×D))
 | dcF (kvs:List (L2.Key×D))
abbrev Mu:=Addr->Option MO
def up (μ:Mu)(a:Addr)(o:MO):Mu:=λb=>if b=a then some o else μ b
theorem aA {μ:Mu}{a:Addr}{o:MO}:up μ a o a=some o:=by unfold up;rw[if_pos rfl]
theorem aT {μ:Mu}{a b:Addr}{o:MO}(h:b≠a):up μ a o b=μ b:=by unfold up;rw[if_neg h]
theorem oh {μ:Mu}{a:Addr}{o u:MO}:up (up μ a o) a u=up μ a u:=by
 funext b;unfold up;split<;>rfl
abbrev ST:=List (Option D)
abbrev DK:=D->Mu->Prop
abbrev ETr:=ST->Mu->DK->Prop
abbrev TTr:=ST->Mu->(Bool->Mu->Prop)->Prop
abbrev ATr:=ST->Mu->(List D->Mu->Prop)->Prop
abbrev DR:=D->Mu->DK->Prop
abbrev DR2:=D->D->Mu->DK->Prop
abbrev FSp:=List D->Mu->DK->Prop
def kcI (ds:List D)(f:Int->List D->Prop):Prop:=match ds with
 | .int i::r=>f i r
 | _=>False
theorem ecI {ds:List D}{f:Int->List D->Prop}(h:kcI ds f):∃ i r,ds=.int i::r/\f i r:=by
 cases ds with
 | nil=>exact MR h
 | cons d r=>cases d<;>first | exact ⟨_,_,rfl,h⟩ | exact MR h
theorem lcI {ds:List D}{f:Int->List D->Prop}{n:Nat}(h:kcI ds f)(k:∀ i r,f i r->r.length=n):ds.length=n+1:=by
 obtain ⟨i,r,e,h⟩:=ecI h
 rw[e,Nk,k i r h]
def kcS (ds:List D)(f:Str->List D->Prop):Prop:=match ds with
 | .str i::r=>f i r
 | _=>False
theorem ecS {ds:List D}{f:Str->List D->Prop}(h:kcS ds f):∃ i r,ds=.str i::r/\f i r:=by
 cases ds with
 | nil=>exact MR h
 | cons d r=>cases d<;>first | exact ⟨_,_,rfl,h⟩ | exact MR h
theorem lcS {ds:List D}{f:Str->List D->Prop}{n:Nat}(h:kcS ds f)(k:∀ i r,f i r->r.length=n):ds.length=n+1:=by
 obtain ⟨i,r,e,h⟩:=ecS h
 rw[e,Nk,k i r h]
def kcT (ds:List D)(f:List D->List D->Prop):Prop:=match ds with
 | .tup i::r=>f i r
 | _=>False
theorem ecT {ds:List D}{f:List D->List D->Prop}(h:kcT ds f):∃ i r,ds=.tup i::r/\f i r:=by
 cases ds with
 | nil=>exact MR h
 | cons d r=>cases d<;>first | exact ⟨_,_,rfl,h⟩ | exact MR h
theorem lcT {ds:List D}{f:List D->List D->Prop}{n:Nat}(h:kcT ds f)(k:∀ i r,f i r->r.length=n):ds.length=n+1:=by
 obtain ⟨i,r,e,h⟩:=ecT h
 rw[e,Nk,k i r h]
def kcL (ds:List D)(f:List D->List D->Prop):Prop:=match ds with
 | .ls i::r=>f i r
 | _=>False
theorem ecL {ds:List D}{f:List D->List D->Prop}(h:kcL ds f):∃ i r,ds=.ls i::r/\f i r:=by
 cases ds with
 | nil=>exact MR h
 | cons d r=>cases d<;>first | exact ⟨_,_,rfl,h⟩ | exact MR h
theorem lcL {ds:List D}{f:List D->List D->Prop}{n:Nat}(h:kcL ds f)(k:∀ i r,f i r->r.length=n):ds.length=n+1:=by
 obtain ⟨i,r,e,h⟩:=ecL h
 rw[e,Nk,k i r h]
def kcO (ds:List D)(f:Addr->List D->Prop):Prop:=match ds with
 | .obj i::r=>f i r
 | _=>False
theorem ecO {ds:List D}{f:Addr->List D->Prop}(h:kcO ds f):∃ i r,ds=.obj i::r/\f i r:=by
 cases ds with
 | nil=>exact MR h
 | cons d r=>cases d<;>first | exact ⟨_,_,rfl,h⟩ | exact MR h
theorem lcO {ds:List D}{f:Addr->List D->Prop}{n:Nat}(h:kcO ds f)(k:∀ i r,f i r->r.length=n):ds.length=n+1:=by
 obtain ⟨i,r,e,h⟩:=ecO h
 rw[e,Nk,k i r h]
def kcA (ds:List D)(f:D->List D->Prop):Prop:=match ds with
 | i::r=>f i r
 | _=>False
theorem ecA {ds:List D}{f:D->List D->Prop}(h:kcA ds f):∃ i r,ds=i::r/\f i r:=by
 cases ds with
 | nil=>exact MR h
 | cons d r=>exact ⟨_,_,rfl,h⟩
theorem lcA {ds:List D}{f:D->List D->Prop}{n:Nat}(h:kcA ds f)(k:∀ i r,f i r->r.length=n):ds.length=n+1:=by
 obtain ⟨i,r,e,h⟩:=ecA h
 rw[e,Nk,k i r h]
def kcN (ds:List D)(P:Prop):Prop:=match ds with
 | []=>P
 | _=>False
theorem ecN {ds:List D}{P:Prop}(h:kcN ds P):ds=[]/\P:=by
 cases ds with
 | nil=>exact ⟨rfl,h⟩
 | cons d r=>exact MR h
structure En where
 nx:ST->Mu->Prop
 rt:DK
 bk:ST->Mu->Prop:=λ_ _=>False
 ct:ST->Mu->Prop:=λ_ _=>False
abbrev STr:=En->ST->Mu->Prop
abbrev GTr:=D->ST->Mu->(ST->Mu->Prop)->Prop
def kIf (c:Bool)(A B:Prop):Prop:=match c with
 | true=>A
 | false=>B
def kB (x:D)(f:Bool->Prop):Prop:=match x with
 | .bl c=>f c
 | _=>False
def kI (x:D)(f:Int->Prop):Prop:=match x with
 | .int c=>f c
 | _=>False
def kO (x:Option D)(f:D->Prop):Prop:=match x with
 | some d=>f d
 | none=>False
def kS (x:D)(f:List D->Prop):Prop:=match x with
 | .tup ds=>f ds
 | .ls ds=>f ds
 | _=>False
def k2 (ds:List D)(f:D->D->Prop):Prop:=match ds with
 | [v,w]=>f v w
 | _=>False
def kL (μ:Mu)(a:Addr)(f:List D->Prop):Prop:=match μ a with
 | some (.lst ds)=>f ds
 | _=>False
def kD (μ:Mu)(a:Addr)(f:List (L2.Key×D)->Prop):Prop:=match μ a with
 | some (.dct ds)=>f ds
 | _=>False
def kN (x:Option Nat)(f:Nat->Prop):Prop:=match x with
 | some d=>f d
 | none=>False
def lk:ST->Nat->Option D
 | [],_=>none
 | o::_,0=>o
 | _::r,n+1=>lk r n
def ah (i:Nat):ETr:=λρ μ Q=>kO (lk ρ i) λd=>Q d μ
def TC (d:D):ETr:=λ_ μ Q=>Q d μ
def ak (r:DR2)(a b:ETr):ETr:=λρ μ Q=>a ρ μ λx μ1=>b ρ μ1 λy μ2=>r x y μ2 Q
def TUn (r:DR)(a:ETr):ETr:=λρ μ Q=>a ρ μ λx μ1=>r x μ1 Q
def S64 (i:Int):Prop:=-18446744073709551616 < i/\i < 18446744073709551616
def ei (i:Int):Prop:=-115792089237316195423570985008687907853269984665640564039457584007913129639936 < i/\i < 115792089237316195423570985008687907853269984665640564039457584007913129639936
def MulOk (i j:Int):Prop:=(S64 i∨S64 j)∨(ei i/\ei j)
def eM (j:Int):Prop:=j≠0/\ei j
def oG (i j:Int):Prop:=0<=j/\j<=1000000/\i.natAbs < 18446744073709551616
def uP:DR2:=λx y μ Q=>match x,y with
 | .int i,.int j=>Q (.int (i - j)) μ
 | _,_=>False
def bX:DR2:=λx y μ Q=>match x,y with
 | .int i,.int j=>MulOk i j/\Q (.int (i*j)) μ
 | _,_=>False
def jd:DR2:=λx y μ Q=>match x,y with
 | .int i,.int j=>eM j/\Q (.int (i.fdiv j)) μ
 | _,_=>False
def fv:DR2:=λx y μ Q=>match x,y with
 | .int i,.int j=>j≠0/\Q (.int (i.fmod j)) μ
 | _,_=>False
def Af:DR2:=λx y μ Q=>match x,y with
 | .int i,.int j=>oG i j/\Q (.int (i ^ j.toNat)) μ
 | _,_=>False
def vL:DR:=λx μ Q=>match x with
 | .int i=>Q (.int (-i)) μ
 | _=>False
def zC (p:Int->Int->Bool):DR2:=λx y μ Q=>match x,y with
 | .int i,.int j=>Q (.bl (p i j)) μ
 | _,_=>False
def rLt:DR2:=zC λi j=>decide (i < j)
def rLe:DR2:=zC λi j=>decide (i<=j)
def rGt:DR2:=zC λi j=>decide (j < i)
def rGe:DR2:=zC λi j=>decide (j<=i)
mutual
def eqD:D->D->Bool
 | .non,.non=>true
 | .bl a,.bl b=>a == b
 | .int a,.int b=>decide (a=b)
 | .bl a,.int b=>decide ((if a then 1 else 0:Int)=b)
 | .int a,.bl b=>decide (a=(if b then 1 else 0:Int))
 | .str a,.str b=>decide (a=b)
 | .tup a,.tup b=>fh a b
 | .ls a,.ls b=>fh a b
 | _,_=>false
def fh:List D->List D->Bool
 | [],[]=>true
 | a::r,b::s=>eqD a b&&fh r s
 | _,_=>false
end
mutual
def okD:Nat->D->Bool
 | _,.non=>true
 | _,.bl _=>true
 | _,.int _=>true
 | _,.str x=>M7 x
 | n+1,.tup ds=>aO n ds
 | n+1,.ls ds=>aO n ds
 | _,_=>false
def aO:Nat->List D->Bool
 | _,[]=>true
 | n,d::ds=>okD n d&&aO n ds
end
def rEq:DR2:=λx y μ Q=>(okD 40 x=true/\okD 40 y=true)/\Q (.bl (eqD x y)) μ
def rNe:DR2:=λx y μ Q=>(okD 40 x=true/\okD 40 y=true)/\Q (.bl (!eqD x y)) μ
def rIs:DR2:=λx y μ Q=>match y with
 | .non=>(match x with
  | .non=>Q (.bl true) μ
  | _=>Q (.bl false) μ)
 | _=>False
def t7:DR2:=λx y μ Q=>match y with
 | .non=>(match x with
  | .non=>Q (.bl false) μ
  | _=>Q (.bl true) μ)
 | _=>False
def zT (a b:ETr):ETr:=λρ μ Q=>a ρ μ λx μ1=>kB x λc=>kIf c (b ρ μ1 Q) (Q (.bl false) μ1)
def uT (a b:ETr):ETr:=λρ μ Q=>a ρ μ λx μ1=>kB x λc=>kIf c (Q (.bl true) μ1) (b ρ μ1 Q)
def nW (a:ETr):ETr:=λρ μ Q=>a ρ μ λx μ1=>kB x λc=>Q (.bl (!c)) μ1
def TB (t:ETr):TTr:=λρ μ Q=>t ρ μ λx μ1=>kB x λc=>Q c μ1
def rC (t u:TTr):TTr:=λρ μ Q=>t ρ μ λc μ1=>kIf c (u ρ μ1 Q) (Q false μ1)
def TOr (t u:TTr):TTr:=λρ μ Q=>t ρ μ λc μ1=>kIf c (Q true μ1) (u ρ μ1 Q)
def tw (t:TTr):TTr:=λρ μ Q=>t ρ μ λc μ1=>Q (!c) μ1
def rK (c:TTr)(a b:ETr):ETr:=λρ μ Q=>c ρ μ λk μ1=>kIf k (a ρ μ1 Q) (b ρ μ1 Q)
def ue (r r':DR2)(a b c:ETr):ETr:=λρ μ Q=>a ρ μ λx μ1=>b ρ μ1 λy μ2=>r x y μ2 λz μ3=>kB z λk=>kIf k (c ρ μ3 λy' μ4=>r' y y' μ4 Q) (Q (.bl false) μ3)
def ar:ATr:=λ_ μ Q=>Q [] μ
def ag (a:ETr)(r:ATr):ATr:=λρ μ Q=>a ρ μ λx μ1=>r ρ μ1 λxs μ2=>Q (x::xs) μ2
def a7 (t:ATr):ETr:=λρ μ Q=>t ρ μ λds μ1=>ds.length<=1000000/\Q (.tup ds) μ1
def eI (t:ATr):ETr:=λρ μ Q=>t ρ μ λds μ1=>ds.length<=1000000/\Q (.ls ds) μ1
def jc (t:ATr):ETr:=λρ μ Q=>t ρ μ λds μ1=>ds.length<=1000000/\∀ p,μ1 p=none->Q (.obj p) (up μ1 p (.lst ds))
def aq (sp:FSp)(t:ATr):ETr:=λρ μ Q=>t ρ μ λds μ1=>sp ds μ1 Q
def atD (ds:List D)(i:Int):Option D:=L2.atI ds i
def rIx:DR2:=λx y μ Q=>match x,y with
 | .tup ds,.int i=>kO (atD ds i) λd=>Q d μ
 | .ls ds,.int i=>kO (atD ds i) λd=>Q d μ
 | .obj a,.int i=>kL μ a λds=>kO (atD ds i) λd=>Q d μ
 | _,_=>False
def p7:FSp:=λds μ Q=>match ds with
 | [.int i]=>Q (.int (if i < 0 then -i else i)) μ
 | _=>False
def Kz:FSp:=λds μ Q=>match ds with
 | [.int i,.int j]=>Q (.int (if j > i then j else i)) μ
 | _=>False
def Kv:FSp:=λds μ Q=>match ds with
 | [.int i,.int j]=>Q (.int (if j < i then j else i)) μ
 | _=>False
def BW:FSp:=λds μ Q=>match ds with
 | [.int i]=>Q (.int i) μ
 | [.bl k]=>Q (.int (if k then 1 else 0)) μ
 | _=>False
def gA:FSp:=λds μ Q=>match ds with
 | [.tup xs]=>Q (.int xs.length) μ
 | [.ls xs]=>Q (.int xs.length) μ
 | [.str x]=>x.length<=1000000/\Q (.int x.length) μ
 | [.obj a]=>kL μ a λxs=>Q (.int xs.length) μ
 | _=>False
def tyD:D->Option String
 | .non=>some "NoneType"
 | .bl _=>some "bool"
 | .int _=>some "int"
 | .str _=>some "str"
 | .tup _=>some "tuple"
 | .ls _=>some "list"
 | _=>none
def ik (t c:String):Bool:=t == c || (t == "bool" && c == "int")
def xZ (c:String):DR:=λx μ Q=>match tyD x with
 | some t=>Q (.bl (ik t c)) μ
 | none=>False
def bT:STr:=λE ρ μ=>E.nx ρ μ
def aG (t u:STr):STr:=λE ρ μ=>t { E with nx:=u E } ρ μ
def va:STr:=λE ρ μ=>E.bk ρ μ
def zX:STr:=λE ρ μ=>E.ct ρ μ
def fq (e:ETr):STr:=λE ρ μ=>e ρ μ λ_ μ1=>E.nx ρ μ1
def a5 (e:ETr):STr:=λE ρ μ=>e ρ μ E.rt
def BH:STr:=λE _ μ=>E.rt .non μ
def df (c:TTr)(t u:STr):STr:=λE ρ μ=>c ρ μ λb μ1=>kIf b (t E ρ μ1) (u E ρ μ1)
def aw (i:Nat):GTr:=λd ρ μ k=>k (ρ.set i (some d)) μ
def aQ (e:ETr)(g:GTr):STr:=λE ρ μ=>e ρ μ λd μ1=>g d ρ μ1 E.nx
def rP (i j:Nat)(a:ATr):STr:=λE ρ μ=>a ρ μ λds μ1=>k2 ds λv w=>E.nx ((ρ.set i (some v)).set j (some w)) μ1
def Kh (x z y:D)(μ:Mu)(f:Mu->Prop):Prop:=match x,z with
 | .obj a,.int n=>kL μ a λds=>kN (L2.ixN ds.length n) λj=>f (up μ a (.lst (ds.set j y)))
 | _,_=>False
def dI (o k e:ETr):STr:=λE ρ μ=>e ρ μ λy μ1=>o ρ μ1 λx μ2=>k ρ μ2 λz μ3=>Kh x z y μ3 λμ4=>E.nx ρ μ4
def pK (c:TTr)(b:STr):STr:=λE ρ μ=>∃ (P:ST->Mu->Prop) (m:ST->Mu->Nat),P ρ μ/\∀ ρ μ,P ρ μ->
 c ρ μ λk μ1=>kIf k (b { E with nx:=λρ' μ'=>P ρ' μ'/\m ρ' μ' < m ρ μ,ct:=λρ' μ'=>P ρ' μ'/\m ρ' μ' < m ρ μ,bk:=E.nx } ρ μ1) (E.nx ρ μ1)
def forR (g:GTr)(b:STr)(E:En):List D->ST->Mu->Prop
 | [],ρ,μ=>E.nx ρ μ
 | d::r,ρ,μ=>g d ρ μ λρ1 μ1=>b { E with nx:=forR g b E r,ct:=forR g b E r,bk:=E.nx } ρ1 μ1
def fK (it:ATr)(g:GTr)(b:STr):STr:=λE ρ μ=>it ρ μ λds μ1=>forR g b E ds ρ μ1
def cV (lo:Int)(n:Nat):List D:=(OK n).map λi=>.int (lo+(i:Nat))
def eU (a:ETr):ATr:=λρ μ Q=>a ρ μ λx μ1=>kI x λj=>(-4611686018427387904<=j/\j < 4611686018427387904)/\Q (cV 0 j.toNat) μ1
def dh (a:ETr):ATr:=λρ μ Q=>a ρ μ λx μ1=>kS x λds=>Q ds μ1
def dn (μ:Mu)(a:Addr):Mu:=λb=>if b=a then none else μ b
theorem Ks {μ:Mu}{a:Addr}{o:MO}(h:μ a=none):dn (up μ a o) a=μ:=by
 funext b
 unfold dn up
 by_cases hb:b=a
 ·subst hb;simp[h]
 ·simp[hb]
def fu (ρ:ST)(n:Nat)(caps:List Nat):ST:=N8 n none++caps.map (lk ρ)
def fO (p:Addr)(G:GTr)(tt:TTr)(te:ETr)(ρc:ST)(K:Mu->Prop):List D->Mu->Prop
 | [],μ=>K μ
 | d::r,μ=>G d ρc μ λρ1 μ1=>tt ρ1 μ1 λb μ2=>kIf b (te ρ1 μ2 λy μ3=>kL μ3 p λzs=>zs.length < 1000000/\fO p G tt te ρc K r (up μ3 p (.lst (zs++[y])))) (fO p G tt te ρc K r μ2)
def bS (it:ATr)(G:GTr)(tt:TTr)(te:ETr)(n:Nat)(caps:List Nat):ETr:=λρ μ Q=>it ρ μ λds μ1=>∀ p,μ1 p=none->
 fO p G tt te (fu ρ n caps) (λμ'=>kL μ' p λzs=>Q (.ls zs) (dn μ' p)) ds (up μ1 p (.lst []))
def j1:TTr:=λ_ μ Q=>Q true μ
def G2:FSp:=λds μ Q=>match ds with
 | [.ls xs]=>∃ bs:List Bool,xs=bs.map .bl/\Q (.bl (bs.any id)) μ
 | _=>False
theorem bz {g:GTr}{b:STr}{E:En}(P:List D->ST->Mu->Prop)(hnil:∀ ρ μ,P [] ρ μ->E.nx ρ μ)
  (hcons:∀ d r ρ μ (N:ST->Mu->Prop),P (d::r) ρ μ->(∀ ρ' μ',P r ρ' μ'->N ρ' μ')->g d ρ μ λρ1 μ1=>b { E with nx:=N,ct:=N,bk:=E.nx } ρ1 μ1) :
  ∀ (ds:List D) (ρ:ST) (μ:Mu),P ds ρ μ->forR g b E ds ρ μ
 | [],ρ,μ,h=>hnil ρ μ h
 | d::r,ρ,μ,h=>hcons d r ρ μ _ h λρ' μ' q=>bz P hnil hcons r ρ' μ' q
section
open PySem PySem.Spec PyProof.Rows L2
def SqF (K:ML)(H:Hp)(a:Addr)(xs:List V):Prop:=
 (∃ o,H a=some (.frz o (.lst xs)))∨
  ∃ (o:Obj) (its:Array MN) (n:Nat),K.lookup a=some o/\o.cls=.type "list" /\ o.dict=none/\o.data=.seq its n/\its.size<=sizeLine/\Vals xs its.toList
theorem SqF.sq {K:ML}{H:Hp}{a:Addr}{xs:List V}(h:SqF K H a xs):SqL K H a xs:=by
 rcases h with h | h
 ·exact .inl (.inr h)
 ·exact .inr h
mutual
inductive Dp (K:ML) (H:Hp):V->D->Prop
 | non:Dp K H .non .non
 | bl (b:Bool):Dp K H (.bl b) (.bl b)
 | int (n:Int):Dp K H (.int n) (.int n)
 | str (z:Str):Dp K H (.str z) (.str z)
 | ty (n:String):Dp K H (.ty n) (.ty n)
 | tup {a:Addr} {xs:List V} {ds:List D}:SqT K H a xs->DpL K H xs ds->Dp K H (.ref a) (.tup ds)
 | ls {a:Addr} {xs:List V} {ds:List D}:SqF K H a xs->DpL K H xs ds->Dp K H (.ref a) (.ls ds)
 | obj (a:Addr):Dp K H (.ref a) (.obj a)
inductive DpL (K:ML) (H:Hp):List V->List D->Prop
 | nil:DpL K H [] []
 | cons {v:V} {d:D} {vs:List V} {ds:List D}:Dp K H v d->DpL K H vs ds->DpL K H (v::vs) (d::ds)
end
structure Tk (H H':Hp):Prop where
 tup:∀ a xs,H a=some (.tup xs)->H' a=some (.tup xs)
 frz:∀ a o u,H a=some (.frz o u)->H' a=some (.frz o u)
theorem Tk.refl (H:Hp):Tk H H:=⟨λ_ _ h=>h,λ_ _ _ h=>h⟩
theorem Tk.trans {H H1 H2:Hp}(a:Tk H H1)(b:Tk H1 H2):Tk H H2:=⟨λc xs h=>b.tup c xs (a.tup c xs h),λc o u h=>b.frz c o u (a.frz c o u h)⟩
theorem Tk.upd {H:Hp}{a:Addr}{o:HO}(h1:∀ xs,H a≠some (.tup xs))(h2:∀ o u,H a≠some (.frz o u)):Tk H (L2.upd H a o):=
 ⟨λb xs h=>by rw[az (λz=>by subst z;exact h1 _ h)];exact h,λb o u h=>by rw[az (λz=>by subst z;exact h2 _ _ h)];exact h⟩
theorem Tk.new {H:Hp}{a:Addr}{o:HO}(h:H a=none):Tk H (L2.upd H a o):=.upd (λ_ e=>by rw[h] at e;cases e) λ_ _ e=>by rw[h] at e;cases e
theorem Tk.sqT {K:ML}{H H':Hp}{a:Addr}{xs:List V}(t:Tk H H')(h:SqT K H a xs):SqT K H' a xs:=by
 rcases h with (h | ⟨o,h⟩) | h
 ·exact .inl (.inl (t.tup _ _ h))
 ·exact .inl (.inr ⟨o,t.frz _ _ _ h⟩)
 ·exact .inr h
theorem Tk.sqF {K:ML}{H H':Hp}{a:Addr}{xs:List V}(t:Tk H H')(h:SqF K H a xs):SqF K H' a xs:=by
 rcases h with ⟨o,h⟩ | h
 ·exact .inl ⟨o,t.frz _ _ _ h⟩
 ·exact .inr h
mutual
theorem Dp.mono {K:ML}{H H':Hp}(t:Tk H H'):∀ {v:V} {d:D},Dp K H v d->Dp K H' v d
 | _,_,.non=>.non
 | _,_,.bl b=>.bl b
 | _,_,.int i=>.int i
 | _,_,.str x=>.str x
 | _,_,.ty n=>.ty n
 | _,_,.tup h l=>.tup (t.sqT h) (DpL.mono t l)
 | _,_,.ls h l=>.ls (t.sqF h) (DpL.mono t l)
 | _,_,.obj a=>.obj a
theorem DpL.mono {K:ML}{H H':Hp}(t:Tk H H'):∀ {vs:List V} {ds:List D},DpL K H vs ds->DpL K H' vs ds
 | _,_,.nil=>.nil
 | _,_,.cons h l=>.cons (Dp.mono t h) (DpL.mono t l)
end
theorem DpL.length {K:ML}{H:Hp}:∀ {vs:List V} {ds:List D},DpL K H vs ds->vs.length=ds.length
 | _,_,.nil=>rfl
 | _,_,.cons _ l=>by rw[Nk,Nk,DpL.length l]
theorem DpL.get {K:ML}{H:Hp}:∀ {vs:List V} {ds:List D} {i:Nat} {d:D},DpL K H vs ds->ds[i]? = some d->∃ v,vs[i]? = some v/\Dp K H v d
 | _,_,_,_,.nil,e=>by simp at e
 | _,_,0,_,.cons h _,e=>by simp at e;subst e;exact ⟨_,rfl,h⟩
 | _,_,i+1,d,.cons _ l,e=>by
  obtain ⟨v,e1,h⟩:=DpL.get (i:=i) (d:=d) l (by simpa using e)
  exact ⟨v,by simpa using e1,h⟩
theorem DpL.get' {K:ML}{H:Hp}:∀ {vs:List V} {ds:List D} {i:Nat} {v:V},DpL K H vs ds->vs[i]? = some v->∃ d,ds[i]? = some d/\Dp K H v d
 | _,_,_,_,.nil,e=>by simp at e
 | _,_,0,_,.cons h _,e=>by simp at e;subst e;exact ⟨_,rfl,h⟩
 | _,_,i+1,d,.cons _ l,e=>by
  obtain ⟨v,e1,h⟩:=DpL.get' (i:=i) (v:=d) l (by simpa using e)
  exact ⟨v,by simpa using e1,h⟩
theorem DpL.set {K:ML}{H:Hp}{v:V}{d:D}(h:Dp K H v d):∀ {vs:List V} {ds:List D} (i:Nat),DpL K H vs ds->DpL K H (vs.set i v) (ds.set i d)
 | _,_,_,.nil=>.nil
 | _,_,0,.cons _ l=>.cons h l
 | _,_,i+1,.cons q l=>.cons q (DpL.set h i l)
theorem DpL.append {K:ML}{H:Hp}:∀ {vs ws:List V} {ds es:List D},DpL K H vs ds->DpL K H ws es->DpL K H (vs++ws) (ds++es)
 | _,_,_,_,.nil,s=>s
 | _,_,_,_,.cons h l,s=>.cons h (DpL.append l s)
theorem DpL.at {K:ML}{H:Hp}{vs:List V}{ds:List D}{i:Int}{d:D}(l:DpL K H vs ds)(e:atD ds i=some d):∃ v,atI vs i=some v/\Dp K H v d:=by
 unfold atD atI at e
 unfold atI
 rw[l.length]
 cases q:ixN ds.length i with
 | none=>rw[q] at e;cases e
 | some j=>
  rw[q] at e
  exact l.get e
def DpK {κ:Type}(K:ML)(H:Hp)(xs:List (κ×V))(kvs:List (κ×D)):Prop:=xs.map (·.1)=kvs.map (·.1)/\DpL K H (xs.map (·.2)) (kvs.map (·.2))
theorem DpK.mono {κ:Type}{K:ML}{H H':Hp}(t:Tk H H'){xs:List (κ×V)}{kvs:List (κ×D)}(h:DpK K H xs kvs):DpK K H' xs kvs:=⟨h.1,h.2.mono t⟩
def tT (K:ML)(H:Hp)(a:Addr):MO->Prop
 | .lst ds=>∃ xs,H a=some (.lst xs)/\DpL K H xs ds
 | .dct kvs=>∃ xs,H a=some (.dK xs)/\DpK K H xs kvs
 | .dcT kvs=>∃ xs,H a=some (.dT xs)/\DpK K H xs kvs
 | .dcF kvs=>∃ xs,(∃ o,H a=some (.frz o (.dK xs)))/\DpK K H xs kvs
theorem tT.go {K:ML}{H H':Hp}{a:Addr}{o:MO}(h:tT K H a o)(t:Tk H H')(k:∀ u,H a=some u->H' a=some u):tT K H' a o:=by
 cases o<;>(obtain ⟨xs,z,l⟩:=h;first | exact ⟨xs,k _ z,l.mono t⟩ | (obtain ⟨o,z⟩:=z;exact ⟨xs,⟨o,k _ z⟩,l.mono t⟩))
theorem tT.ne {K:ML}{H:Hp}{a q:Addr}{o:MO}{u:HO}(h:tT K H a o)(t:Tk H (L2.upd H q u))(k:a≠q):tT K (L2.upd H q u) a o:=h.go t λ_ e=>by rw[az k];exact e
def bw (K:ML)(H:Hp)(μ:Mu):Prop:=∀ a o,μ a=some o->tT K H a o
theorem bw.free {K:ML}{H:Hp}{μ:Mu}(h:bw K H μ){a:Addr}(e:H a=none):μ a=none:=by
 cases q:μ a with
 | none=>rfl
 | some o=>
  cases o<;>(obtain ⟨xs,z,_⟩:=h a _ q;first | (rw[e] at z;cases z;done) | (obtain ⟨o,z⟩:=z;rw[e] at z;cases z))
theorem bw.keep {K:ML}{H H':Hp}{μ:Mu}(h:bw K H μ)(t:Tk H H')(k:∀ a u,μ a≠none->H a=some u->H' a=some u):bw K H' μ:=λa o e=>by
 exact (h a _ e).go t λu z=>k a u (by rw[e];simp) z
def Sub (μ μ':Mu):Prop:=∀ a o,μ a=some o->μ' a=some o
theorem Sub.refl (μ:Mu):Sub μ μ:=λ_ _ h=>h
theorem Sub.new {μ:Mu}{p:Addr}{o:MO}(h:μ p=none):Sub μ (up μ p o):=λa u e=>by
 rw[aT (λz=>by subst z;rw[h] at e;cases e)];exact e
theorem Sub.trans {μ μ1 μ2:Mu}(a:Sub μ μ1)(b:Sub μ1 μ2):Sub μ μ2:=λc o h=>b c o (a c o h)
theorem bw.sub {K:ML}{H:Hp}{μ μ':Mu}(h:bw K H μ')(s:Sub μ μ'):bw K H μ:=λa o e=>h a o (s a o e)
structure Rl (K:ML) (σ:L2.St) (H:Hp) (ρ:ST) (μ:Mu):Prop where
 len:ρ.length=σ.length
 loc:∀ i d,lk ρ i=some d->∃ v,σ[i]? = some (some v)/\Dp K H v d
 mu:bw K H μ
theorem Rl.go {K:ML}{σ:L2.St}{H H':Hp}{ρ:ST}{μ μ':Mu}(r:Rl K σ H ρ μ)(t:Tk H H')(m:bw K H' μ'):Rl K σ H' ρ μ':=
 ⟨r.len,λi d e=>let ⟨v,h1,h2⟩:=r.loc i d e;⟨v,h1,h2.mono t⟩,m⟩
theorem A9:∀ (ρ:ST) (i j:Nat) (d:D),lk (ρ.set i (some d)) j=if i=j/\i < ρ.length then some d else lk ρ j
 | [],i,j,d=>by simp[lk]
 | o::r,0,0,d=>by simp[lk]
 | o::r,0,j+1,d=>by simp[lk]
 | o::r,i+1,0,d=>by simp[lk]
 | o::r,i+1,j+1,d=>by
  show lk (r.set i (some d)) j=_
  rw[A9 r i j d]
  simp[lk]
theorem Rl.set {K:ML}{σ:L2.St}{H:Hp}{ρ:ST}{μ:Mu}(r:Rl K σ H ρ μ){v:V}{d:D}(h:Dp K H v d)(i:Nat):Rl K (σ.set i (some v)) H (ρ.set i (some d)) μ:=by
 refine ⟨by simp[r.len],λj e q=>?_,r.mu⟩
 rw[A9] at q
 split at q
 ·rename_i hc
  obtain ⟨rfl,hlt⟩:=hc
  cases q
  exact ⟨v,by rw[PF (by rw[← r.len];exact hlt)],h⟩
 ·rename_i hc
  obtain ⟨u,h1,h2⟩:=r.loc j e q
  by_cases hij:i=j
  ·subst hij
   have:¬ i < ρ.length:=λz=>hc ⟨rfl,z⟩
   have hn:σ[i]? = none:=Ph.mpr (by rw[← r.len];omega)
   rw[hn] at h1;cases h1
  ·exact ⟨u,by rw[OG hij];exact h1,h2⟩
abbrev f6 (K:ML)(H:Hp)(Q:DK)(Q':VK):Prop:=∀ v H' d μ',Tk H H'->bw K H' μ'->Dp K H' v d->Q d μ'->Q' v H'
def Sim (K:ML)(t:TE)(T:ETr):Prop:=∀ σ H ρ μ (Q:DK) (Q':VK),Rl K σ H ρ μ->T ρ μ Q->f6 K H Q Q'->t σ H Q'
def D4 (K:ML)(t:TT)(T:TTr):Prop:=∀ σ H ρ μ (Q:Bool->Mu->Prop) (Q':Bool->Hp->Prop),Rl K σ H ρ μ->T ρ μ Q->(∀ b H' μ',Tk H H'->bw K H' μ'->Q b μ'->Q' b H')->t σ H Q'
def Ld (K:ML)(t:TA)(T:ATr):Prop:=∀ σ H ρ μ (Q:List D->Mu->Prop) (Q':List V->Hp->Prop),Rl K σ H ρ μ->T ρ μ Q->(∀ vs H' ds μ',Tk H H'->bw K H' μ'->DpL K H' vs ds->Q ds μ'->Q' vs H')->t σ H Q'
abbrev sL (K:ML)(H:Hp)(N:ST->Mu->Prop)(N':L2.St->Hp->Prop):Prop:=∀ σ' H' ρ' μ',Tk H H'->Rl K σ' H' ρ' μ'->N ρ' μ'->N' σ' H'
structure Co (K:ML) (H:Hp) (E:En) (E':Ends):Prop where
 nx:sL K H E.nx E'.nx
 rt:f6 K H E.rt E'.rt
 bk:sL K H E.bk E'.bk
 ct:sL K H E.ct E'.ct
theorem Co.go {K:ML}{H H1:Hp}{E:En}{E':Ends}(e:Co K H E E')(t:Tk H H1):Co K H1 E E':=
 ⟨λ_ _ _ _ t'=>e.nx _ _ _ _ (t.trans t'),λ_ _ _ _ t'=>e.rt _ _ _ _ (t.trans t'),λ_ _ _ _ t'=>e.bk _ _ _ _ (t.trans t'),λ_ _ _ _ t'=>e.ct _ _ _ _ (t.trans t')⟩
def Dg (K:ML)(t:TS)(T:STr):Prop:=∀ σ H ρ μ (E:En) (E':Ends),Rl K σ H ρ μ->T E ρ μ->Co K H E E'->t E' σ H
def GI (K:ML)(g:TG)(G:GTr):Prop:=∀ σ H ρ μ v d (k:ST->Mu->Prop) (k':L2.St->Hp->Prop),Rl K σ H ρ μ->Dp K H v d->G d ρ μ k->sL K H k k'->g v σ H k'
structure LE (X:Cx) (e:Nf) (T:ETr):Prop where
 ex:∃ t,PE X e t/\Sim X.K t T
structure LT (X:Cx) (e:Nf) (T:TTr):Prop where
 ex:∃ t,PT X e t/\D4 X.K t T
structure LW (X:Cx) (e:Nf) (T:TTr):Prop where
 ex:∃ t,PW X e t/\D4 X.K t T
structure LA (X:Cx) (es:List Nf) (T:ATr):Prop where
 ex:∃ t,PA X es t/\Ld X.K t T
structure LS (X:Cx) (st:Stmt) (T:STr):Prop where
 ex:∃ t,PS X st t/\Dg X.K t T
structure LSs (X:Cx) (sts:List Stmt) (T:STr):Prop where
 ex:∃ t,PSs X sts t/\Dg X.K t T
structure LG (X:Cx) (tg:Nf) (G:GTr):Prop where
 ex:∃ g,PG X tg g/\GI X.K g G
section
variable {X:Cx} {a b c e:Nf} {Ta Tb Tc:ETr} {pos:Pos}
theorem af (i:Nat){x:Str}(hN:X.N[i]? = some x:=by rfl)(hv:Vis X.env.scope x:=by first | exact QK rfl | exact PZ (QK rfl) | exact PZ (PZ rfl))(hd:(x == ("__debug__" : Str))=false:=by decide)
  (hcd:(x == ("__classdict__" : Str))=false:=by decide):LE X (.Name x pos) (ah i):=
 ⟨_,BK hN hv hd hcd,λσ H ρ μ Q Q' r h k=>by
  have h:kO (lk ρ i) λd=>Q d μ:=h
  cases q:lk ρ i with
  | none=>rw[q] at h;exact MR h
  | some d=>
   rw[q] at h
   have h:Q d μ:=h
   obtain ⟨v,e1,p⟩:=r.loc i d q
   exact ⟨v,e1,k v H d μ (.refl H) r.mu p h⟩⟩
theorem le_int {i:Int}{j}:LE X (.Constant (.int i) j pos) (TC (.int i)):=⟨_,Gf,λσ H ρ μ Q Q' r h k=>k _ H _ μ (.refl H) r.mu (.int i) h⟩
theorem oN {b:Bool}{j}:LE X (.Constant (.bool b) j pos) (TC (.bl b)):=⟨_,Lf,λσ H ρ μ Q Q' r h k=>k _ H _ μ (.refl H) r.mu (.bl b) h⟩
theorem dJ {j}:LE X (.Constant .none j pos) (TC .non):=⟨_,Ia,λσ H ρ μ Q Q' r h k=>k _ H _ μ (.refl H) r.mu .non h⟩
theorem le_str {x:Str}{j}:LE X (.Constant (.str x) j pos) (TC (.str x)):=⟨_,HV,λσ H ρ μ Q Q' r h k=>k _ H _ μ (.refl H) r.mu (.str x) h⟩
def dm (K:ML)(r:R2)(R:DR2):Prop:=∀ H μ x y dx dy (Q:DK) (Q':VK),bw K H μ->Dp K H x dx->Dp K H y dy->R dx dy μ Q->f6 K H Q Q'->r x y H Q'
def Kq (K:ML)(r:V->Hp->VK->Prop)(R:DR):Prop:=∀ H μ x dx (Q:DK) (Q':VK),bw K H μ->Dp K H x dx->R dx μ Q->f6 K H Q Q'->r x H Q'
theorem f6.go {K:ML}{H H1:Hp}{Q:DK}{Q':VK}(k:f6 K H Q Q')(t:Tk H H1):f6 K H1 Q Q':=λv H' d μ' t'=>k v H' d μ' (t.trans t')
theorem iH {K:ML}{r:R2}{R:DR2}{ta tb:TE}(hr:dm K r R)(ha:Sim K ta Ta)(hb:Sim K tb Tb):Sim K (tOp r ta tb) (ak R Ta Tb):=λσ H ρ μ Q Q' rl h k=>
 ha σ H ρ μ _ _ rl h λx H1 dx μ1 t1 m1 p1 h1=>hb σ H1 ρ μ1 _ _ (rl.go t1 m1) h1 λy H2 dy μ2 t2 m2 p2 h2=>hr H2 μ2 x y dx dy Q Q' m2 (p1.mono t2) p2 h2 (k.go (t1.trans t2))
theorem mr {op:UI}{r:R2}{R:DR2}(ho:OpR X (OR op) r)(hr:dm X.K r R)(ha:LE X a Ta)(hb:LE X b Tb):LE X (.BinOp a op b pos) (ak R Ta Tb):=by
 obtain ⟨ta,pa,sa⟩:=ha.ex
 obtain ⟨tb,pb,sb⟩:=hb.ex
 exact ⟨_,Fy ho pa pb,iH hr sa sb⟩
theorem gx {op:Up}{r:R2}{R:DR2}(ho:OpR X (N5 op) r)(hr:dm X.K r R)(ha:LE X a Ta)(hb:LE X b Tb)(hm:NU op b=false):LE X (.Compare a [op] [b] pos) (ak R Ta Tb):=by
 obtain ⟨ta,pa,sa⟩:=ha.ex
 obtain ⟨tb,pb,sb⟩:=hb.ex
 exact ⟨_,EK ho pa pb hm,iH hr sa sb⟩
theorem u9 {K:ML}{t:TE}{T:ETr}(h:Sim K t T):D4 K (FR t) (TB T):=λσ H ρ μ Q Q' rl hh k=>
 h σ H ρ μ _ _ rl hh λv H' d μ' t' m' p' h'=>by
  cases p' with
  | bl c=>exact ⟨c,rfl,k c H' μ' t' m' h'⟩
  | _=>exact MR h'
theorem HI {K:ML}{t:TE}{T:ETr}(h:Sim K t T):D4 K (tB t) (TB T):=λσ H ρ μ Q Q' rl hh k=>
 h σ H ρ μ _ _ rl hh λv H' d μ' t' m' p' h'=>by
  cases p' with
  | bl c=>exact ⟨c,rfl,k c H' μ' t' m' h'⟩
  | _=>exact MR h'
theorem cK {op:Up}{r:R2}{R:DR2}(ho:OpR X (N5 op) r)(hr:dm X.K r R)(ha:LE X a Ta)(hb:LE X b Tb)(hm:NU op b=false):LT X (.Compare a [op] [b] pos) (TB (ak R Ta Tb)):=by
 obtain ⟨ta,pa,sa⟩:=ha.ex
 obtain ⟨tb,pb,sb⟩:=hb.ex
 exact ⟨_,EU ho pa pb hm,u9 (iH hr sa sb)⟩
theorem qj {K:ML}{C:Int->Int->Prop}{g:Int->Int->V}{R:DR2}(f:Int->Int->D)(hg:∀ H i j,Dp K H (g i j) (f i j))(hR:∀ i j μ Q,R (.int i) (.int j) μ Q->C i j/\Q (f i j) μ)
  (hn:∀ dx dy μ Q,R dx dy μ Q->(∃ i,dx=.int i)/\∃ j,dy=.int j):dm K (rI C g) R:=λH μ x y dx dy Q Q' m px py h k=>by
 obtain ⟨⟨i,rfl⟩,j,rfl⟩:=hn _ _ _ _ h
 cases px;cases py
 obtain ⟨h1,h2⟩:=hR _ _ _ _ h
 exact ⟨i,j,rfl,rfl,h1,k _ H _ μ (.refl H) m (hg H i j) h2⟩
theorem xA {K:ML}{g:Int->Int->V}{R:DR2}(f:Int->Int->D)(hg:∀ H i j,Dp K H (g i j) (f i j))(hR:∀ i j μ Q,R (.int i) (.int j) μ Q->Q (f i j) μ)
  (hn:∀ dx dy μ Q,R dx dy μ Q->(∃ i,dx=.int i)/\∃ j,dy=.int j):dm K (rI0 g) R:=λH μ x y dx dy Q Q' m px py h k=>by
 obtain ⟨⟨i,rfl⟩,j,rfl⟩:=hn _ _ _ _ h
 cases px;cases py
 exact ⟨i,j,rfl,rfl,k _ H _ μ (.refl H) m (hg H i j) (hR _ _ _ _ h)⟩
theorem uj (ha:LE X a Ta)(hb:LE X b Tb):LE X (.BinOp a .Sub b pos) (ak uP Ta Tb):=mr Ge (xA (λi j=>.int (i - j)) (λ_ _ _=>.int _) (λ_ _ _ _ h=>h) (λdx dy μ Q h=>by cases dx<;>cases dy<;>first | exact ⟨⟨_,rfl⟩,_,rfl⟩ | exact MR h)) ha hb
theorem ei.abs {j:Int}(h:ei j):j.natAbs < 2 ^ 256:=by
 have e:(2:Nat) ^ 256=115792089237316195423570985008687907853269984665640564039457584007913129639936:=by decide +kernel
 rw[e]
 obtain ⟨h1,h2⟩:=h
 omega
theorem MulOk.ok {i j:Int}(h:MulOk i j):IntMulOk i j:=by
 rcases h with (⟨h1,h2⟩ | ⟨h1,h2⟩) | ⟨h1,h2⟩
 ·exact .of_left (Q8 h1 h2)
 ·exact .of_right (Q8 h1 h2)
 ·exact .of_le (Rq h1.abs) (Rq h2.abs) (by decide)
theorem Dk:OpR X (OR .Mult) (rI MulOk λi j=>.int (i*j)):=opI λ_ _ _ _ _ _ _ hc q=>mul_int q hc.ok
theorem eM.np {i j:Int}(h:eM j):Builtin.divisionGoesByPylong i j=false:=by
 refine PyProof.noPylong_of_log2 ?_
 have h0:j.natAbs≠0:=by have:=h.1;omega
 have:=(Nat.log2_lt h0).mpr h.2.abs
 omega
theorem DJ:OpR X (OR .FloorDiv) (rI (λ_ j=>eM j) λi j=>.int (i.fdiv j)):=opI λ_ _ _ _ _ _ _ hc q=>floordiv_int hc.1 q (.inl hc.np)
theorem fR (ha:LE X a Ta)(hb:LE X b Tb):LE X (.BinOp a .FloorDiv b pos) (ak jd Ta Tb):=mr DJ (qj (λi j=>.int (i.fdiv j)) (λ_ _ _=>.int _) (λ_ _ _ _ h=>⟨h.1,h.2⟩) (λdx dy μ Q h=>by cases dx<;>cases dy<;>first | exact ⟨⟨_,rfl⟩,_,rfl⟩ | exact MR h)) ha hb
theorem le_mul (ha:LE X a Ta)(hb:LE X b Tb):LE X (.BinOp a .Mult b pos) (ak bX Ta Tb):=mr Dk (qj (λi j=>.int (i*j)) (λ_ _ _=>.int _) (λ_ _ _ _ h=>⟨h.1,h.2⟩) (λdx dy μ Q h=>by cases dx<;>cases dy<;>first | exact ⟨⟨_,rfl⟩,_,rfl⟩ | exact MR h)) ha hb
theorem eA (ha:LE X a Ta)(hb:LE X b Tb):LE X (.BinOp a .Mod b pos) (ak fv Ta Tb):=mr Dh (qj (λi j=>.int (i.fmod j)) (λ_ _ _=>.int _) (λ_ _ _ _ h=>⟨h.1,h.2⟩) (λdx dy μ Q h=>by cases dx<;>cases dy<;>first | exact ⟨⟨_,rfl⟩,_,rfl⟩ | exact MR h)) ha hb
theorem le_pow (ha:LE X a Ta)(hb:LE X b Tb):LE X (.BinOp a .Pow b pos) (ak Af Ta Tb):=mr Gi (qj (λi j=>.int (i ^ j.toNat)) (λ_ _ _=>.int _) (λ_ _ _ _ h=>⟨h.1,h.2⟩) (λdx dy μ Q h=>by cases dx<;>cases dy<;>first | exact ⟨⟨_,rfl⟩,_,rfl⟩ | exact MR h)) ha hb
theorem gi {K:ML}(p:Int->Int->Bool):dm K (rI0 λi j=>.bl (p i j)) (zC p):=xA (λi j=>.bl (p i j)) (λ_ _ _=>.bl _) (λ_ _ _ _ h=>h) (λdx dy μ Q h=>by cases dx<;>cases dy<;>first | exact ⟨⟨_,rfl⟩,_,rfl⟩ | exact MR h)
theorem Kb (ha:LE X a Ta)(hb:LE X b Tb):LE X (.Compare a [.Lt] [b] pos) (ak rLt Ta Tb):=gx FF (gi _) ha hb (ck _)
theorem Lg (ha:LE X a Ta)(hb:LE X b Tb):LE X (.Compare a [.LtE] [b] pos) (ak rLe Ta Tb):=gx Fv (gi _) ha hb (ck _)
theorem Lv (ha:LE X a Ta)(hb:LE X b Tb):LE X (.Compare a [.GtE] [b] pos) (ak rGe Ta Tb):=gx K0 (gi _) ha hb (ck _)
theorem oI (ha:LE X a Ta)(hb:LE X b Tb):LT X (.Compare a [.Lt] [b] pos) (TB (ak rLt Ta Tb)):=cK FF (gi _) ha hb (ck _)
theorem Fw (ha:LE X a Ta)(hb:LE X b Tb):LT X (.Compare a [.LtE] [b] pos) (TB (ak rLe Ta Tb)):=cK Fv (gi _) ha hb (ck _)
theorem Av (ha:LE X a Ta)(hb:LE X b Tb):LT X (.Compare a [.Gt] [b] pos) (TB (ak rGt Ta Tb)):=cK JE (gi _) ha hb (ck _)
theorem Kj {op:UnaryOp}{r:V->Hp->VK->Prop}{R:DR}(ho:UnR X (unaryOp op) r)(hr:Kq X.K r R)(ha:LE X a Ta):LE X (.UnaryOp op a pos) (TUn R Ta):=by
 obtain ⟨ta,pa,sa⟩:=ha.ex
 exact ⟨_,Ke ho pa,λσ H ρ μ Q Q' rl h k=>sa σ H ρ μ _ _ rl h λx H1 dx μ1 t1 m1 p1 h1=>hr H1 μ1 x dx Q Q' m1 p1 h1 (k.go t1)⟩
theorem lU (ha:LE X a Ta)(he:∀ whole,isTrue a X.env whole=(do let v ← whole;standAt a.pos;QX [v] (truthy v)):=by intro _;rfl):LT X a (TB Ta):=by
 obtain ⟨ta,pa,sa⟩:=ha.ex
 exact ⟨_,Gv pa he,HI sa⟩
variable {tA tB' tC':TTr} {rest:List Nf}
theorem uX (ha:LT X a tA):LT X (.UnaryOp .Not a pos) (tw tA):=by
 obtain ⟨ta,pa,sa⟩:=ha.ex
 exact ⟨_,JA pa,λσ H ρ μ Q Q' rl h k=>sa σ H ρ μ _ _ rl h λc H1 μ1 t1 m1 h1=>k (!c) H1 μ1 t1 m1 h1⟩
theorem LW.lt (h:LW X a tA):LT X a tA:=by
 obtain ⟨ta,pa,sa⟩:=h.ex
 exact ⟨_,pa.pt,sa⟩
theorem wO (ha:LT X a tA):LW X (.BoolOp .And [a] pos) tA:=by
 obtain ⟨ta,pa,sa⟩:=ha.ex
 exact ⟨_,pw_and1 pa,sa⟩
theorem Au (ha:LT X a tA):LW X (.BoolOp .Or [a] pos) tA:=by
 obtain ⟨ta,pa,sa⟩:=ha.ex
 exact ⟨_,pw_or1 pa,sa⟩
theorem AN (ha:LT X a tA)(hb:LW X (.BoolOp .And (b::rest) pos) tB'):LW X (.BoolOp .And (a::b::rest) pos) (rC tA tB'):=by
 obtain ⟨ta,pa,sa⟩:=ha.ex
 obtain ⟨tb,pb,sb⟩:=hb.ex
 refine ⟨_,pw_and pa pb,λσ H ρ μ Q Q' rl h k=>sa σ H ρ μ _ _ rl h λc H1 μ1 t1 m1 h1=>?_⟩
 cases c with
 | true=>exact pN (sb σ H1 ρ μ1 Q Q' (rl.go t1 m1) h1 λb H2 μ2 t2=>k b H2 μ2 (t1.trans t2))
 | false=>exact qF (k false H1 μ1 t1 m1 h1)
theorem FN (ha:LT X a tA)(hb:LW X (.BoolOp .Or (b::rest) pos) tB'):LW X (.BoolOp .Or (a::b::rest) pos) (TOr tA tB'):=by
 obtain ⟨ta,pa,sa⟩:=ha.ex
 obtain ⟨tb,pb,sb⟩:=hb.ex
 refine ⟨_,pw_or pa pb,λσ H ρ μ Q Q' rl h k=>sa σ H ρ μ _ _ rl h λc H1 μ1 t1 m1 h1=>?_⟩
 cases c with
 | true=>exact pN (k true H1 μ1 t1 m1 h1)
 | false=>exact qF (sb σ H1 ρ μ1 Q Q' (rl.go t1 m1) h1 λb H2 μ2 t2=>k b H2 μ2 (t1.trans t2))
theorem Gz {op}(h:LE X a Ta):LE X (.BoolOp op [a] pos) Ta:=by
 obtain ⟨ta,pa,sa⟩:=h.ex
 exact ⟨_,F9 pa,sa⟩
theorem FQ (ha:LE X a Ta)(hb:LE X (.BoolOp .Or (b::rest) pos) Tb):LE X (.BoolOp .Or (a::b::rest) pos) (uT Ta Tb):=by
 obtain ⟨ta,pa,sa⟩:=ha.ex
 obtain ⟨tb,pb,sb⟩:=hb.ex
 refine ⟨_,Kd pa pb,λσ H ρ μ Q Q' rl h k=>sa σ H ρ μ _ _ rl h λx H1 dx μ1 t1 m1 p1 h1=>?_⟩
 cases p1 with
 | bl c=>
  refine ⟨c,rfl,?_⟩
  cases c with
  | true=>exact pN (k _ H1 _ μ1 t1 m1 (.bl _) h1)
  | false=>exact qF (sb σ H1 ρ μ1 Q Q' (rl.go t1 m1) h1 (k.go t1))
 | _=>exact MR h1
theorem GA (ha:LE X a Ta):LE X (.UnaryOp .Not a pos) (nW Ta):=by
 obtain ⟨ta,pa,sa⟩:=ha.ex
 refine ⟨_,HJ pa,λσ H ρ μ Q Q' rl h k=>sa σ H ρ μ _ _ rl h λx H1 dx μ1 t1 m1 p1 h1=>?_⟩
 cases p1 with
 | bl c=>exact ⟨c,rfl,k _ H1 _ μ1 t1 m1 (.bl _) h1⟩
 | _=>exact MR h1
theorem vW (hc:LT X c tC')(ha:LE X a Ta)(hb:LE X b Tb):LE X (.IfExp c a b pos) (rK tC' Ta Tb):=by
 obtain ⟨tc,pc,sc⟩:=hc.ex
 obtain ⟨ta,pa,sa⟩:=ha.ex
 obtain ⟨tb,pb,sb⟩:=hb.ex
 refine ⟨_,zK pc pa pb,λσ H ρ μ Q Q' rl h k=>sc σ H ρ μ _ _ rl h λq H1 μ1 t1 m1 h1=>?_⟩
 cases q with
 | true=>exact pN (sa σ H1 ρ μ1 Q Q' (rl.go t1 m1) h1 (k.go t1))
 | false=>exact qF (sb σ H1 ρ μ1 Q Q' (rl.go t1 m1) h1 (k.go t1))
variable {es:List Nf} {At:ATr}
theorem ai:LA X [] ar:=⟨_,qI,λσ H ρ μ Q Q' rl h k=>k [] H [] μ (.refl H) rl.mu .nil h⟩
theorem ae (ha:LE X e Ta)(hr:LA X es At)(hs:M6 (e::es) X.env=(false,N1 e X.env)::M6 es X.env:=by rfl):LA X (e::es) (ag Ta At):=by
 obtain ⟨ta,pa,sa⟩:=ha.ex
 obtain ⟨tr,pr,sr⟩:=hr.ex
 exact ⟨_,kd pa pr hs,λσ H ρ μ Q Q' rl h k=>sa σ H ρ μ _ _ rl h λx H1 dx μ1 t1 m1 p1 h1=>sr σ H1 ρ μ1 _ _ (rl.go t1 m1) h1 λxs H2 ds μ2 t2 m2 p2 h2=>k _ H2 _ μ2 (t1.trans t2) m2 (.cons (p1.mono t2) p2) h2⟩
theorem bQ {K:ML}{H:Hp}{μ:Mu}{p:Addr}{o:HO}(m:bw K H μ)(hp:H p=none):bw K (L2.upd H p o) μ:=m.keep (.new hp) λa' xs' _ e=>by rw[az (aR e hp)];exact e
theorem big {n:Nat}(h:n<=1000000):n<=sizeLine:=NR h (by decide)
theorem aJ {x1}(h:LA X es At):LE X (.Tuple es x1 pos) (a7 At):=by
 obtain ⟨ta,pa,sa⟩:=h.ex
 refine ⟨_,Hl pa,λσ H ρ μ Q Q' rl h k=>sa σ H ρ μ _ _ rl h λxs H1 ds μ1 t1 m1 p1 h1=>⟨by rw[p1.length];exact big h1.1,λp hp=>?_⟩⟩
 exact k _ _ _ μ1 (t1.trans (.new hp)) (bQ m1 hp) (.tup (SqT.of aC) (p1.mono (.new hp))) h1.2
theorem fS (h:LA X es At):LE X (.List es pos) (jc At):=by
 obtain ⟨ta,pa,sa⟩:=h.ex
 refine ⟨_,AB pa,λσ H ρ μ Q Q' rl h k=>sa σ H ρ μ _ _ rl h λxs H1 ds μ1 t1 m1 p1 h1=>⟨by rw[p1.length];exact big h1.1,λp hp=>?_⟩⟩
 refine k _ _ _ (up μ1 p (.lst ds)) (t1.trans (.new hp)) (λa o e=>?_) (.obj p) (h1.2 p (m1.free hp))
 by_cases ha:a=p
 ·subst ha
  rw[aA] at e;cases e
  exact ⟨xs,aC,p1.mono (.new hp)⟩
 ·rw[aT ha] at e
  exact bQ m1 hp a o e
def yF (t:TE):TE:=λσ H Q=>t σ H λv H1=>∃ a xs,v=.ref a/\H1 a=some (.lst xs)/\∀ o,Q v (L2.upd H1 a (.frz o (.lst xs)))
theorem mq {t:TE}(h:PE X e t):PE X e (yF t):=by
 intro pins s σ H Q I hh
 refine thn (h pins s σ H _ I hh) λu s1 ⟨v,H1,I1,r,a,xs,ev,ea,q⟩=>?_
 obtain ⟨z,its,n,rv,hg⟩:=(show bj X.prog X.w H1 s1.heap a (.lst xs) from I1.hok a _ ea)
 have nl:∀ b o,H1 b=some o->(∀ ys,o≠.lst ys)->b≠a:=λb o e1 e2 z=>by subst z;rw[ea] at e1;cases e1;exact e2 _ rfl
 refine ⟨v,_,I1.un (h':=s1.heap) (t':=s1.toks) (H':=L2.upd H1 a (.frz { cls:=.type "list", data:=.seq its.toArray n } (.lst xs))) ⟨λb o e _ _ _=>e,λb o e _ _ _=>⟨o.slots,e⟩,λb o e n _=>?_,λb o e _=>⟨o,e⟩,λb ys e=>?_,λb o u e=>?_,λb ps e=>⟨#[],?_⟩⟩ (λb u e=>?_),r,q _⟩
 ·rw[az (λz=>by subst z;rw[ea] at n;cases n)];exact n
 ·rw[az (nl b _ e (λ_=>nofun))];exact e
 ·rw[az (nl b _ e (λ_=>nofun))];exact e
 ·rw[az (nl b _ e (λ_=>nofun)),e];simp
 ·by_cases hb:b=a
  ·subst hb
   rw[aC] at e;cases e
   exact ⟨hg,z,its,n,rv,hg⟩
  ·rw[az hb] at e
   refine (I1.hok b u e).jj (λc w _ q=>q) (λc q=>?_) λc ys q=>?_
   ·rw[az (nl c _ q (λ_=>nofun))];exact q
   ·rw[az (nl c _ q (λ_=>nofun))];exact q
theorem bW (h:LA X es At):LE X (.List es pos) (eI At):=by
 obtain ⟨ta,pa,sa⟩:=h.ex
 refine ⟨_,mq (AB pa),λσ H ρ μ Q Q' rl h k=>sa σ H ρ μ _ _ rl h λxs H1 ds μ1 t1 m1 p1 h1=>⟨by rw[p1.length];exact big h1.1,λp hp=>⟨p,xs,rfl,aC,λo=>?_⟩⟩⟩
 have e:L2.upd (L2.upd H1 p (.lst xs)) p (.frz o (.lst xs))=L2.upd H1 p (.frz o (.lst xs)):=qo
 rw[e]
 exact k _ _ _ μ1 (t1.trans (.new hp)) (bQ m1 hp) (.ls (.inl ⟨o,aC⟩) (p1.mono (.new hp))) h1.2
end
end
section
open PySem PySem.Spec PyProof.Rows L2
mutual
def toP:D->PyData
 | .non=>.none
 | .bl b=>.bool b
 | .int i=>.int i
 | .str x=>.str x
 | .tup ds=>.tuple (ig ds)
 | .ls ds=>.list (ig ds)
 | .ty _=>.none
 | .obj _=>.none
def ig:List D->List PyData
 | []=>[]
 | d::r=>toP d::ig r
end
mutual
theorem cM:∀ (n:Nat) (d:D),okD n d=true->(toP d).canLay0=true/\(toP d).depth<=n
 | n,.non,_=>⟨rfl,N0 _⟩
 | n,.bl b,_=>⟨rfl,N0 _⟩
 | n,.int i,_=>⟨rfl,N0 _⟩
 | n,.str x,h=>⟨by cases n<;>exact h,N0 _⟩
 | n+1,.tup ds,h=>by
  obtain ⟨h1,h2⟩:=kn n ds h
  exact ⟨h1,Rn h2⟩
 | n+1,.ls ds,h=>by
  obtain ⟨h1,h2⟩:=kn n ds h
  exact ⟨h1,Rn h2⟩
 | 0,.tup ds,h=>by cases h
 | 0,.ls ds,h=>by cases h
 | n,.ty _,h=>by cases n<;>cases h
 | n,.obj _,h=>by cases n<;>cases h
theorem kn:∀ (n:Nat) (ds:List D),aO n ds=true->TM (ig ds)=true/\Uy (ig ds)<=n
 | n,[],_=>⟨rfl,N0 _⟩
 | n,d::r,h=>by
  have h':okD n d=true/\aO n r=true:=by simpa[aO] using h
  obtain ⟨a1,a2⟩:=cM n d h'.1
  obtain ⟨b1,b2⟩:=kn n r h'.2
  refine ⟨?_,?_⟩
  ·show (UQ (toP d)&&TM (ig r))=true
   rw[a1,b1];rfl
  ·show max (PyData.depth (toP d)) (Uy (ig r))<=n
   exact Nat.max_le.mpr ⟨a2,b2⟩
end
theorem str_beq (a b:Str):(a == b)=decide (a=b):=by
 by_cases h:a=b
 ·subst h;simp
 ·rw[decide_eq_false h];exact beq_eq_false_iff_ne.mpr h
mutual
theorem iT:∀ (n m:Nat) (a b:D),okD n a=true->okD m b=true->ON (toP a) (toP b)=eqD a b
 | n,m,.non,b,_,hb=>by cases b<;>first | rfl | (cases m<;>cases hb)
 | n,m,.bl x,b,_,hb=>by
  cases b with
  | int y=>simp only[toP,ON,eqD];rw[PU]
  | ty _=>cases m<;>cases hb
  | obj _=>cases m<;>cases hb
  | _=>rfl
 | n,m,.int x,b,_,hb=>by
  cases b with
  | int y=>simp only[toP,ON,eqD];rw[PU]
  | bl y=>simp only[toP,ON,eqD];rw[PU]
  | ty _=>cases m<;>cases hb
  | obj _=>cases m<;>cases hb
  | _=>rfl
 | n,m,.str x,b,_,hb=>by
  cases b with
  | str y=>simp only[toP,ON,eqD];exact str_beq x y
  | ty _=>cases m<;>cases hb
  | obj _=>cases m<;>cases hb
  | _=>rfl
 | n+1,m,.tup xs,b,ha,hb=>by
  cases b with
  | tup ys=>
   cases m with
   | zero=>cases hb
   | succ m=>simp only[toP,ON,eqD];exact lL n m xs ys ha hb
  | ty _=>cases m<;>cases hb
  | obj _=>cases m<;>cases hb
  | _=>rfl
 | n+1,m,.ls xs,b,ha,hb=>by
  cases b with
  | ls ys=>
   cases m with
   | zero=>cases hb
   | succ m=>simp only[toP,ON,eqD];exact lL n m xs ys ha hb
  | ty _=>cases m<;>cases hb
  | obj _=>cases m<;>cases hb
  | _=>rfl
 | 0,_,.tup ds,_,h,_=>by cases h
 | 0,_,.ls ds,_,h,_=>by cases h
 | n,_,.ty _,_,h,_=>by cases n<;>cases h
 | n,_,.obj _,_,h,_=>by cases n<;>cases h
theorem lL:∀ (n m:Nat) (a b:List D),aO n a=true->aO m b=true->Ra (ig a) (ig b)=fh a b
 | _,_,[],[],_,_=>rfl
 | _,_,[],_::_,_,_=>by simp[ig,Ra,fh]
 | _,_,_::_,[],_,_=>by simp[ig,Ra,fh]
 | n,m,a::r,b::s,ha,hb=>by
  have ha':okD n a=true/\aO n r=true:=by simpa[aO] using ha
  have hb':okD m b=true/\aO m s=true:=by simpa[aO] using hb
  show (ON (toP a) (toP b)&&Ra (ig r) (ig s))=(eqD a b&&fh r s)
  rw[iT n m a b ha'.1 hb'.1,lL n m r s ha'.2 hb'.2]
end
section
variable {X:Cx} {pins:List (Addr×Obj)} {σ:L2.St} {H:Hp} {s:MQ}
mutual
theorem bV (I:Inv X pins σ H s):∀ {n:Nat} {v:V} {d:D} {u:MN},Dp X.K H v d->okD n d=true->RelV v u->∃ as,Reads s.heap u (toP d) as
 | n,_,_,u,.non,_,r=>by cases (show u=O9 from r);exact ⟨_,.none⟩
 | n,_,_,u,.bl b,_,r=>by cases (show u=S2 b from r);exact ⟨_,.bool b⟩
 | n,_,_,u,.int i,_,r=>by obtain ⟨t,e⟩:=(show ∃ t,u=T8 i t from r);subst e;exact ⟨_,.int i t⟩
 | n,_,_,u,.str x,_,r=>by obtain ⟨t,e⟩:=(show ∃ t,u=Sy x t from r);subst e;exact ⟨_,.str x t⟩
 | n,_,_,u,.ty _,h,_=>by cases n<;>cases h
 | n+1,_,_,u,@Dp.tup _ _ a xs ds q l,h,r=>by
  cases (show u=Nr a from r)
  obtain ⟨its,rv,⟨o,e1,e2,k,e3⟩,_⟩:=I.tuple q
  obtain ⟨as,ra⟩:=fF I (n:=n) l h rv
  exact ⟨_,.tuple e1 e2 e3 (by simpa using ra)⟩
 | n+1,_,_,u,@Dp.ls _ _ a xs ds q l,h,r=>by
  cases (show u=Nr a from r)
  obtain ⟨its,rv,⟨o,k,e1,e2,_,e3⟩,_⟩:=I.list q.sq
  obtain ⟨as,ra⟩:=fF I (n:=n) l h rv
  exact ⟨_,.list e1 e2 e3 (by simpa using ra)⟩
 | 0,_,_,u,@Dp.tup _ _ a xs ds q l,h,r=>by cases h
 | 0,_,_,u,@Dp.ls _ _ a xs ds q l,h,r=>by cases h
 | n,_,_,u,.obj _,h,_=>by cases n<;>cases h
theorem fF (I:Inv X pins σ H s):∀ {n:Nat} {vs:List V} {ds:List D} {us:List MN},DpL X.K H vs ds->aO n ds=true->Vals vs us->∃ as,ReadsAll s.heap us (ig ds) as
 | n,_,_,_,.nil,_,.nil=>⟨_,.nil⟩
 | n,_,_,_,@DpL.cons _ _ v d vs ds h l,ho,.cons r rs=>by
  have ho':okD n d=true/\aO n ds=true:=by simpa[aO] using ho
  obtain ⟨as,ra⟩:=bV I h ho'.1 r
  obtain ⟨bs,rb⟩:=fF I l ho'.2 rs
  exact ⟨_,.cons ra rb⟩
end
end
def CU (K:ML)(f:Bool->Bool):R2:=λx y H Q=>∃ dx dy,Dp K H x dx/\Dp K H y dy/\okD 40 dx=true/\okD 40 dy=true/\Q (.bl (f (eqD dx dy))) H
section
variable {X:Cx} {a b c e:Nf} {Ta Tb Tc:ETr} {pos:Pos}
theorem zh (hu:X.A.units+64 < cLine):OpR X (N5 .Eq) (CU X.K id):=λpins s σ H x y v u Q I rx ry ⟨dx,dy,px,py,ox,oy,q⟩=>by
 obtain ⟨as,ra⟩:=bV I px ox rx
 obtain ⟨bs,rb⟩:=bV I py oy ry
 obtain ⟨l1,d1⟩:=cM 40 dx ox
 obtain ⟨l2,d2⟩:=cM 40 dy oy
 exact SeqAt.compareEq_reads ra rb l1 l2 (by have:=Qj (toP dx).depth (toP dy).depth;omega) ⟨.bl _,H,I,rfl,by rw[iT 40 40 dx dy ox oy];exact q⟩
theorem Jt (hu:X.A.units+64 < cLine):OpR X (N5 .NotEq) (CU X.K not):=λpins s σ H x y v u Q I rx ry ⟨dx,dy,px,py,ox,oy,q⟩=>by
 obtain ⟨as,ra⟩:=bV I px ox rx
 obtain ⟨bs,rb⟩:=bV I py oy ry
 obtain ⟨l1,d1⟩:=cM 40 dx ox
 obtain ⟨l2,d2⟩:=cM 40 dy oy
 exact SeqAt.compareNe_reads ra rb l1 l2 (by have:=Qj (toP dx).depth (toP dy).depth;omega) ⟨.bl _,H,I,rfl,by rw[iT 40 40 dx dy ox oy];exact q⟩
theorem AW {K:ML}:dm K (CU K id) rEq:=λH μ x y dx dy Q Q' m px py h k=>⟨dx,dy,px,py,h.1.1,h.1.2,k _ H _ μ (.refl H) m (.bl _) h.2⟩
theorem Ha {K:ML}:dm K (CU K not) rNe:=λH μ x y dx dy Q Q' m px py h k=>⟨dx,dy,px,py,h.1.1,h.1.2,k _ H _ μ (.refl H) m (.bl _) h.2⟩
theorem le_eq (hu:X.A.units+64 < cLine)(ha:LE X a Ta)(hb:LE X b Tb):LE X (.Compare a [.Eq] [b] pos) (ak rEq Ta Tb):=gx (zh hu) AW ha hb (ck _)
theorem lt_eq (hu:X.A.units+64 < cLine)(ha:LE X a Ta)(hb:LE X b Tb):LT X (.Compare a [.Eq] [b] pos) (TB (ak rEq Ta Tb)):=cK (zh hu) AW ha hb (ck _)
theorem KO (hu:X.A.units+64 < cLine)(ha:LE X a Ta)(hb:LE X b Tb):LT X (.Compare a [.NotEq] [b] pos) (TB (ak rNe Ta Tb)):=cK (Jt hu) Ha ha hb (ck _)
theorem zJ {K:ML}:dm K (λx y H Q=>y=.non/\Q (.bl (decide (x=.non))) H) rIs:=λH μ x y dx dy Q Q' m px py h k=>by
 cases py with
 | non=>
  refine ⟨rfl,?_⟩
  cases px with
  | non=>exact k _ H _ μ (.refl H) m (.bl _) h
  | _=>exact k _ H _ μ (.refl H) m (.bl _) h
 | _=>exact MR h
theorem Fi (ha:LE X a Ta)(hb:LE X b Tb):LE X (.Compare a [.Is] [b] pos) (ak rIs Ta Tb):=gx Ay zJ ha hb (ck _)
theorem Lp (ha:LE X a Ta)(hb:LE X b Tb):LT X (.Compare a [.Is] [b] pos) (TB (ak rIs Ta Tb)):=cK Ay zJ ha hb (ck _)
theorem Ed {K:ML}:Kq K (rU λi=>.int (-i)) vL:=λH μ x dx Q Q' m px h k=>by
 cases px with
 | int i=>exact ⟨i,rfl,k _ H _ μ (.refl H) m (.int _) h⟩
 | _=>exact MR h
theorem le_neg (ha:LE X a Ta):LE X (.UnaryOp .USub a pos) (TUn vL Ta):=Kj GH Ed ha
theorem jq {o:Option D}{f:D->Prop}(h:kO o f):∃ d,o=some d/\f d:=by
 cases o with
 | none=>exact MR h
 | some d=>exact ⟨d,rfl,h⟩
theorem bE {μ:Mu}{a:Addr}{f:List D->Prop}(h:kL μ a f):∃ ds,μ a=some (.lst ds)/\f ds:=by
 unfold kL at h
 cases e:μ a with
 | none=>rw[e] at h;exact MR h
 | some o=>cases o with
  | lst ds=>rw[e] at h;exact ⟨ds,rfl,h⟩
  | _=>rw[e] at h;exact MR h
theorem jf {μ:Mu}{a:Addr}{f:List (Key×D)->Prop}(h:kD μ a f):∃ ds,μ a=some (.dct ds)/\f ds:=by
 unfold kD at h
 cases e:μ a with
 | none=>rw[e] at h;exact MR h
 | some o=>cases o with
  | dct ds=>rw[e] at h;exact ⟨ds,rfl,h⟩
  | _=>rw[e] at h;exact MR h
theorem vZ {o:Option Nat}{f:Nat->Prop}(h:kN o f):∃ d,o=some d/\f d:=by
 cases o with
 | none=>exact MR h
 | some d=>exact ⟨d,rfl,h⟩
theorem HW {K:ML}:dm K (L2.rIx K) L3.rIx:=λH μ x y dx dy Q Q' m px py h k=>by
 cases px with
 | @tup a xs ds q l=>
  cases py with
  | int i=>
   obtain ⟨d,e,h'⟩:=jq h
   obtain ⟨v,e1,p⟩:=l.at e
   exact .inr (.inl ⟨a,xs,i,v,rfl,rfl,q,e1,k _ H _ μ (.refl H) m p h'⟩)
  | _=>exact MR h
 | @ls a xs ds q l=>
  cases py with
  | int i=>
   obtain ⟨d,e,h'⟩:=jq h
   obtain ⟨v,e1,p⟩:=l.at e
   exact .inl ⟨a,xs,i,v,rfl,rfl,q.sq,e1,k _ H _ μ (.refl H) m p h'⟩
  | _=>exact MR h
 | obj a=>
  cases py with
  | int i=>
   obtain ⟨ds,e0,h1⟩:=bE h
   obtain ⟨d,e,h'⟩:=jq h1
   obtain ⟨xs,ex,l⟩:=m a _ e0
   obtain ⟨v,e1,p⟩:=l.at e
   exact .inl ⟨a,xs,i,v,rfl,rfl,SqL.of ex,e1,k _ H _ μ (.refl H) m p h'⟩
  | _=>exact MR h
 | _=>cases py<;>exact MR h
theorem ax (ha:LE X a Ta)(hb:LE X b Tb)(hs:pU b:=by intro _ _;rfl):LE X (.Subscript a b pos) (ak L3.rIx Ta Tb):=by
 obtain ⟨ta,pa,sa⟩:=ha.ex
 obtain ⟨tb,pb,sb⟩:=hb.ex
 exact ⟨_,FV Jb pa pb hs,iH HW sa sb⟩
variable {es:List Nf} {At:ATr} {x:Str} {p:Pos} {id T:String}
def nR (K:ML)(r:List V->Hp->VK->Prop)(R:FSp):Prop:=∀ H μ xs ds (Q:DK) (Q':VK),bw K H μ->DpL K H xs ds->R ds μ Q->f6 K H Q Q'->r xs H Q'
theorem nY {K:ML}{r:List V->Hp->VK->Prop}{R:FSp}{ta:TA}(hr:nR K r R)(ha:Ld K ta At):Sim K (tCB r ta) (aq R At):=λσ H ρ μ Q Q' rl h k=>
 ha σ H ρ μ _ _ rl h λxs H1 ds μ1 t1 m1 p1 h1=>hr H1 μ1 xs ds Q Q' m1 p1 h1 (k.go t1)
theorem bf {r:List V->Hp->VK->Prop}{R:FSp}(hc:bL X (.builtin id) r)(hr:nR X.K r R)(hg:Gl X x)(hm:X.mg x=none)(hv:OF x=some (.builtin id))(ha:LA X (e::es) At)(hn:x ≠ "__name__" := by decide)(hdb:(x == ("__debug__" : Str))=false:=by decide)
  (h1:M6 (e::es) X.env=(false,N1 e X.env)::M6 es X.env:=by rfl) (h2:(OL pos (M6 es X.env)).any (·.1)=false:=by rfl):LE X (.Call (.Name x p) (e::es) [] pos) (aq R At):=by
 obtain ⟨ta,pa,sa⟩:=ha.ex
 exact ⟨_,qS hc hg hm hv pa hn hdb h1 h2,nY hr sa⟩
theorem a9 {r:List V->Hp->VK->Prop}{R:FSp}(hc:bL X (.type T) r)(hr:nR X.K r R)(hg:Gl X x)(hm:X.mg x=none)(hv:OF x=some (.type T))(ha:LA X (e::es) At)(hn:x ≠ "__name__" := by decide)(hdb:(x == ("__debug__" : Str))=false:=by decide)
  (h1:M6 (e::es) X.env=(false,N1 e X.env)::M6 es X.env:=by rfl) (h2:(OL pos (M6 es X.env)).any (·.1)=false:=by rfl):LE X (.Call (.Name x p) (e::es) [] pos) (aq R At):=by
 obtain ⟨ta,pa,sa⟩:=ha.ex
 exact ⟨_,yQ hc hg hm hv pa hn hdb h1 h2,nY hr sa⟩
theorem il {K:ML}:nR K (λxs H Q=>∃ i,xs=[.int i]/\Q (.int (if i < 0 then -i else i)) H) p7:=λH μ xs ds Q Q' m p h k=>by
 unfold p7 at h
 split at h
 ·cases p with | cons p1 p2=>cases p2;cases p1;exact ⟨_,rfl,k _ H _ μ (.refl H) m (.int _) h⟩
 ·exact MR h
theorem DL {K:ML}:nR K (λxs H Q=>(∃ i,xs=[.int i]/\Q (.int i) H)∨∃ k,xs=[.bl k]/\Q (.int (if k then 1 else 0)) H) BW:=λH μ xs ds Q Q' m p h k=>by
 unfold BW at h
 split at h
 ·cases p with | cons p1 p2=>cases p2;cases p1;exact .inl ⟨_,rfl,k _ H _ μ (.refl H) m (.int _) h⟩
 ·cases p with | cons p1 p2=>cases p2;cases p1;exact .inr ⟨_,rfl,k _ H _ μ (.refl H) m (.int _) h⟩
 ·exact MR h
theorem bL.or {f:MN}{r r':List V->Hp->VK->Prop}(h:bL X f r)(h':bL X f r'):bL X f (λxs H Q=>r xs H Q∨r' xs H Q):=λpins s σ H xs us Q I rx q=>by
 rcases q with q | q
 ·exact h pins s σ H xs us Q I rx q
 ·exact h' pins s σ H xs us Q I rx q
theorem dq {K:ML}:nR K (λxs H Q=>(∃ p ys,xs=[.ref p]/\(SqL K H p ys∨SqT K H p ys)/\Q (.int ys.length) H)∨∃ z,xs=[.str z]/\z.length<=sizeLine/\Q (.int z.length) H) gA:=λH μ xs ds Q Q' m p h k=>by
 unfold gA at h
 split at h
 ·cases p with | cons p1 p2=>cases p2;cases p1 with | tup q l=>exact .inl ⟨_,_,rfl,.inr q,k _ H _ μ (.refl H) m (by rw[l.length];exact .int _) h⟩
 ·cases p with | cons p1 p2=>cases p2;cases p1 with | ls q l=>exact .inl ⟨_,_,rfl,.inl q.sq,k _ H _ μ (.refl H) m (by rw[l.length];exact .int _) h⟩
 ·cases p with | cons p1 p2=>cases p2;cases p1;exact .inr ⟨_,rfl,big h.1,k _ H _ μ (.refl H) m (.int _) h.2⟩
 ·rename_i a
  cases p with | cons p1 p2=>
  cases p2;cases p1
  obtain ⟨ys,e0,h⟩:=bE h
  obtain ⟨xs,ex,l⟩:=m a _ e0
  exact .inl ⟨_,_,rfl,.inl (SqL.of ex),k _ H _ μ (.refl H) m (by rw[l.length];exact .int _) h⟩
 ·exact MR h
theorem bY:bL X (.builtin "len") (λxs H Q=>(∃ p ys,xs=[.ref p]/\(SqL X.K H p ys∨SqT X.K H p ys)/\Q (.int ys.length) H)∨∃ z,xs=[.str z]/\z.length<=sizeLine/\Q (.int z.length) H):=bL.or qt ql
end
end
section
open PySem PySem.Spec PyProof.Rows L2
section
variable {X:Cx} {a b c e tg o:Nf} {Ta Tb Tc:ETr} {pos:Pos} {es:List Nf} {At:ATr} {x:Str} {p:Pos} {id T:String} {st:Stmt} {rest:List Stmt} {T1 T2:STr} {tA:TTr}
theorem bB:LSs X [] bT:=⟨_,D8,λσ H ρ μ E E' rl h k=>k.nx _ _ _ _ (.refl H) rl h⟩
theorem ao (h1:LS X st T1)(h2:LSs X rest T2):LSs X (st::rest) (aG T1 T2):=by
 obtain ⟨t1,p1,s1⟩:=h1.ex
 obtain ⟨t2,p2,s2⟩:=h2.ex
 exact ⟨_,CC p1 p2,λσ H ρ μ E E' rl h k=>s1 σ H ρ μ _ _ rl h ⟨λσ' H' ρ' μ' t' r' q=>s2 σ' H' ρ' μ' E E' r' q (k.go t'),k.rt,k.bk,k.ct⟩⟩
theorem ay (h1:LS X st T1):LSs X [st] T1:=by
 obtain ⟨t1,p1,s1⟩:=h1.ex
 exact ⟨_,Ei p1,s1⟩
theorem eQ (he:LE X e Ta)(hs:Pe e none pos.line X.env=pure false:=by rfl):LS X (.Expr e pos) (fq Ta):=by
 obtain ⟨ta,pa,sa⟩:=he.ex
 exact ⟨_,DU pa hs,λσ H ρ μ E E' rl h k=>sa σ H ρ μ _ _ rl h λv H' d μ' t' m' p' h'=>k.nx _ _ _ _ t' (rl.go t' m') h'⟩
theorem aI (he:LE X e Ta):LS X (.Return (some e) pos) (a5 Ta):=by
 obtain ⟨ta,pa,sa⟩:=he.ex
 exact ⟨_,HM pa,λσ H ρ μ E E' rl h k=>sa σ H ρ μ _ _ rl h k.rt⟩
theorem cD {sa sb:List Stmt}(hc:LT X c tA)(ha:LSs X sa T1)(hb:LSs X sb T2):LS X (.If c sa sb pos) (df tA T1 T2):=by
 obtain ⟨tc,pc,sc⟩:=hc.ex
 obtain ⟨t1,p1,s1⟩:=ha.ex
 obtain ⟨t2,p2,s2⟩:=hb.ex
 refine ⟨_,JJ pc p1 p2,λσ H ρ μ E E' rl h k=>sc σ H ρ μ _ _ rl h λq H1 μ1 t1' m1 h1=>?_⟩
 cases q with
 | true=>exact pN (s1 σ H1 ρ μ1 E E' (rl.go t1' m1) h1 (k.go t1'))
 | false=>exact qF (s2 σ H1 ρ μ1 E E' (rl.go t1' m1) h1 (k.go t1'))
theorem gn {K:ML}(i:Nat):GI K (kJ i) (aw i):=λσ H ρ μ v d k k' rl p h q=>q _ _ _ _ (.refl H) (rl.set p i) h
theorem e7 (i:Nat)(hN:X.N.Nodup)(hi:X.N[i]? = some x:=by rfl)(hx:Loc X.env.scope x:=by first | exact QK rfl | exact PZ rfl)(hf:X.fn x=true∨X.env.scope.names.lookup x=some .local:=by first | exact .inl rfl | exact .inr rfl | assumption):LG X (.Name x pos) (aw i):=
 ⟨_,gj hN hi hx hf,gn i⟩
theorem aD (i:Nat){pos':Pos}(hN:X.N.Nodup)(he:LE X e Ta)(hi:X.N[i]? = some x:=by rfl)(hx:Loc X.env.scope x:=by first | exact QK rfl | exact PZ rfl)(hs:Pe e (some (.Name x pos')) pos.line X.env=pure false:=by rfl)
  (hf:X.fn x=true∨X.env.scope.names.lookup x=some .local:=by first | exact .inl rfl | exact .inr rfl | assumption):LS X (.Assign [.Name x pos'] e pos) (aQ Ta (aw i)):=by
 obtain ⟨ta,pa,sa⟩:=he.ex
 exact ⟨_,Jz hN hi hx pa hs hf,λσ H ρ μ E E' rl h k=>sa σ H ρ μ _ _ rl h λv H' d μ' t' m' p' h'=>gn i σ H' ρ μ' v d _ _ (rl.go t' m') p' h' (k.go t').nx⟩
theorem uS (i j:Nat){y:Str}{px py pt:Pos}{kt k2 pt2}(hc:X.calm=true)(hN:X.N.Nodup)(ha:LA X [a,b] At)(hi:X.N[i]? = some x:=by rfl)(hj:X.N[j]? = some y:=by rfl)(hij:i≠j:=by decide)
  (hx:X.env.scope.names.lookup x=some .local:=by rfl) (hy:X.env.scope.names.lookup y=some .local:=by rfl)
  (hw:P8 [.Tuple [.Name x px,.Name y py] kt pt] (.Tuple [a,b] k2 pt2) X.env=pure (some [x,y]):=by rfl)
  (hs:P7 [.Tuple [.Name x px,.Name y py] kt pt] (.Tuple [a,b] k2 pt2) pos.line X.env=pure false:=by rfl) :
  LS X (.Assign [.Tuple [.Name x px,.Name y py] kt pt] (.Tuple [a,b] k2 pt2) pos) (rP i j At):=by
 obtain ⟨ta,pa,sa⟩:=ha.ex
 refine ⟨_,Gy hc hN hi hj hij hx hy pa hw hs,λσ H ρ μ E E' rl h k=>sa σ H ρ μ _ _ rl h λvs H' ds μ' t' m' p' h'=>?_⟩
 unfold L3.k2 at h'
 split at h'
 ·rename_i dv dw
  cases p' with | cons p1 p2=>cases p2 with | cons p2 p3=>
  cases p3
  exact ⟨_,_,rfl,k.nx _ _ _ _ t' (((rl.go t' m').set p1 i).set p2 j) h'⟩
 ·exact MR h'
theorem lJ {Tk':ETr}{tpos:Pos}(ho:LE X o Ta)(hi:LE X b Tk')(he:LE X e Tb)
  (ha:∀ v,QE (.Subscript o b tpos) X.env v=(do
   let ov ← QX [v] (N1 o X.env)
   let iv ← QX [v,ov] (N1 b X.env)
   standAt tpos
   QX [v,ov,iv] (setItem ov iv v)
   release [v,ov,iv] []):=by intro _;rfl)
  (hs:P7 [.Subscript o b tpos] e pos.line X.env=pure false:=by rfl) (hw:P8 [.Subscript o b tpos] e X.env=pure none:=by rfl)
  (h1:(N3 [.Subscript o b tpos] X.env).map (·.2)=[QE (.Subscript o b tpos) X.env]:=by rfl):LS X (.Assign [.Subscript o b tpos] e pos) (dI Ta Tk' Tb):=by
 obtain ⟨to,po,so⟩:=ho.ex
 obtain ⟨ti,pi,si⟩:=hi.ex
 obtain ⟨te,pe,se⟩:=he.ex
 refine ⟨_,zB pe (II po pi set_list ha) hs hw h1,λσ H ρ μ E E' rl h k=>se σ H ρ μ _ _ rl h λy H1 dy μ1 t1 m1 p1 h1=>so σ H1 ρ μ1 _ _ (rl.go t1 m1) h1 λov H2 dov μ2 t2 m2 p2 h2=>
  si σ H2 ρ μ2 _ _ (rl.go (t1.trans t2) m2) h2 λiv H3 div μ3 t3 m3 p3 h3=>?_⟩
 cases p2 with
 | obj q=>
  cases p3 with
  | int n=>
   obtain ⟨ds,e0,h3'⟩:=bE h3
   obtain ⟨j,e1,h4⟩:=vZ h3'
   obtain ⟨xs,ex,l⟩:=m3 q _ e0
   refine ⟨q,xs,n,j,rfl,rfl,ex,by rw[l.length];exact e1,?_⟩
   have t4:Tk H3 (L2.upd H3 q (.lst (xs.set j y))):=.upd (λys z=>by rw[ex] at z;cases z) λo' u z=>by rw[ex] at z;cases z
   have t14:=t1.trans (t2.trans (t3.trans t4))
   refine k.nx _ _ ρ _ t14 (rl.go t14 (λa' o' e'=>?_)) h4
   by_cases haq:a'=q
   ·subst haq
    rw[aA] at e';cases e'
    exact ⟨_,aC,(l.set (p1.mono (t2.trans t3)) j).mono t4⟩
   ·rw[aT haq] at e'
    exact (m3 a' _ e').ne t4 haq
  | _=>exact MR h3
 | _=>cases p3<;>exact MR h3
theorem lI {body:List Stmt}(hp:Ub (Nb X.prog X.w) X.A X.env X.xe)(hc:LT X c tA)(hb:LSs X body T1):LS X (.While c body [] pos) (pK tA T1):=by
 obtain ⟨tc,pc,sc⟩:=hc.ex
 obtain ⟨t1,p1,s1⟩:=hb.ex
 refine ⟨_,AQ hp pc p1,λσ H ρ μ E E' rl h k=>?_⟩
 obtain ⟨P,m,h0,hs⟩:=h
 refine ⟨λn σ' H'=>∃ ρ' μ',Tk H H'/\Rl X.K σ' H' ρ' μ'/\P ρ' μ'/\n=m ρ' μ',⟨_,ρ,μ,.refl H,rl,h0,rfl⟩,?_⟩
 rintro n σ1 H1 ⟨ρ1,μ1,t1',rl1,hP,rfl⟩
 refine sc σ1 H1 ρ1 μ1 _ _ rl1 (hs ρ1 μ1 hP) λq H2 μ2 t2 m2 h2=>?_
 have t12:=t1'.trans t2
 cases q with
 | true=>
  refine pN ⟨λσ' H'=>∃ ρ' μ',Tk H H'/\Rl X.K σ' H' ρ' μ'/\P ρ' μ'/\m ρ' μ' < m ρ1 μ1,λσ' H' ⟨ρ',μ',a1,a2,a3,a4⟩=>⟨_,a4,ρ',μ',a1,a2,a3,rfl⟩,?_⟩
  have h2':=h2
  refine s1 σ1 H2 ρ1 μ2 _ _ (rl1.go t2 m2) h2' ⟨λσ' H' ρ' μ' t' r' q=>⟨ρ',μ',t12.trans t',r',q.1,q.2⟩,(k.go t12).rt,(k.go t12).nx,λσ' H' ρ' μ' t' r' q=>⟨ρ',μ',t12.trans t',r',q.1,q.2⟩⟩
 | false=>exact qF (k.nx _ _ _ _ t12 (rl1.go t2 m2) h2)
end
def lift (K:ML)(sp:FSp):Sp:=λvs H Q _=>∃ ds μ QQ,DpL K H vs ds/\bw K H μ/\sp ds μ QQ/\f6 K H QQ Q
def RT (Q:DK):DK:=λd μ'=>∃ μ,Sub μ μ'/\Q d μ
def ini (n:Nat)(ds:List D):ST:=ds.map some++N8 (n - ds.length) none
theorem Iy:∀ (ds:List D) (n i:Nat) (d:D),lk (ini n ds) i=some d->ds[i]? = some d:=by
 intro ds
 have rep:∀ m i (d:D),lk (N8 m none) i=some d->False:=by
  intro m
  induction m with
  | zero=>intro i d h;cases i<;>cases h
  | succ m ih=>intro i d h;cases i with
   | zero=>cases h
   | succ i=>exact ih i d h
 have gen:∀ (ds:List D) m i d,lk (ds.map some++N8 m none) i=some d->ds[i]? = some d:=by
  intro ds
  induction ds with
  | nil=>intro m i d h;exact (rep m i d h).elim
  | cons x r ih=>intro m i d h;cases i with
   | zero=>simpa[lk] using h
   | succ i=>simpa using ih m i d h
 exact λn i d h=>gen ds _ i d h
section
variable {P:Nh} {w:Nw} {K:ML} {mg:Str->Option MN} {base:Heap}
theorem Fq {x qual:Str}{st:Stmt}{f:Addr}{fd:Nd}{N ps:List Str}{k:Nat}{sp:FSp}{T:STr}(F:Fun K x qual st f fd)(S:aE N ps (au st))(len:∀ ds μ Q,sp ds μ Q->ds.length=ps.length)
  (hb:∀ (cdv:MN) (A:NH) (outer:List Env) (s:MQ) (H:Hp) (E:XK),di k (A.deeper (QH qual (au st) s.heap.objs.size f cdv))->
   LSs (sC CX0 P w K mg base N qual (au st) f cdv A outer s H E).nox (dE st) T)
  (hr:∀ ds μ Q,sp ds μ Q->T { nx:=λ_ μ'=>RT Q .non μ',rt:=RT Q } (ini N.length ds) μ):gX P w K mg base CX0 (k+1) f fd ps (lift K sp):=by
 refine F.ok S (λvs H Q E h=>?_) (λcdv A outer s H vs Q E hroom h=>?_)
 ·obtain ⟨ds,μ,QQ,l,m,h1,k⟩:=h
  rw[l.length];exact len ds μ QQ h1
 ·obtain ⟨ds,μ,QQ,l,m,h1,k⟩:=h
  obtain ⟨t,pt,stt⟩:=(hb cdv A outer s H E hroom).ex
  have hl:vs.length=ds.length:=l.length
  refine ⟨t,pt,stt (L2.start N vs) H (ini N.length ds) μ _ _ ⟨?_,λi d e=>?_,m⟩ (hr ds μ QQ h1) ⟨λσ' H' ρ' μ' t' r' q=>?_,λv H' d μ' t' m' p' q=>?_,λ_ _ _ _ _ _ q=>q,λ_ _ _ _ _ _ q=>q⟩⟩
  ·unfold ini L2.start;simp[hl]
  ·have e':=Iy ds _ i d e
   obtain ⟨v,e1,p⟩:=l.get e'
   refine ⟨v,?_,p⟩
   unfold L2.start
   have hi:i < vs.length:=(Nm.mp e1).1
   rw[OB (by simpa using hi),Nv,e1]
   rfl
  ·obtain ⟨μ2,s2,q2⟩:=q
   exact k _ _ _ μ2 t' (r'.mu.sub s2) .non q2
  ·obtain ⟨μ2,s2,q2⟩:=q
   exact k _ _ _ μ2 t' (m'.sub s2) p' q2
end
section
variable {X:Cx} {k:Nat} {f:Addr} {fd:Nd} {ps:List Str} {sp:FSp} {x:Str} {p pos:Pos} {e:Nf} {es:List Nf} {At:ATr}
theorem EZ (F:gX X.prog X.w X.K X.mg X.base CX0 k f fd ps (lift X.K sp))(hr:di k X.A)(hg:Gl X x)(hm:X.mg x=some (.ref f))(hk:PH X.K (.ref f)=true)(hb:Binds X.K fd ps [])
  (ha:LA X (e::es) At) (hdb:(x == ("__debug__" : Str))=false:=by decide) (he:M6 (e::es) X.env=(false,N1 e X.env)::M6 es X.env:=by rfl) (hpl:(OL pos (M6 es X.env)).any (·.1)=false:=by rfl) :
  LE X (.Call (.Name x p) (e::es) [] pos) (aq sp At):=by
 obtain ⟨ta,pa,sa⟩:=ha.ex
 refine ⟨_,CW F hr hg hm hk hb .nil Ll pa hdb he hpl,λσ H ρ μ Q Q' rl h k=>sa σ H ρ μ _ _ rl h λxs H1 ds μ1 t1 m1 p1 h1=>?_⟩
 rw[NN]
 exact ⟨ds,μ1,Q,p1,m1,h1,k.go t1⟩
end
end
section
open PySem PySem.Spec PyProof.Rows L2
theorem DpL.ints {K:ML}{H:Hp}:∀ ns:List Int,DpL K H (ns.map V.int) (ns.map D.int)
 | []=>.nil
 | n::r=>.cons (.int n) (DpL.ints r)
theorem SqF.only {K:ML}{H:Hp}{a:Addr}{xs:List V}(hO:D5 H)(h:SqL K H a xs):SqF K H a xs:=by
 rcases h with (h | h) | h
 ·rcases hO a with z | ⟨o,ys,z⟩
  ·rw[h] at z;cases z
  ·rw[h] at z;cases z
 ·exact .inl h
 ·exact .inr h
theorem K6 {l:RX}{k:Nat}{q:Nh}{loose:List Str}{XP:(Str->Option MN)->Heap->Prop}{YP:Nw->Heap->Prop}{d:DefRec}{K:Params->ML}{sp:FSp}{x:Str}
  (hn:l.most=some 63) (hdf:d.params.defaults=[]) (hr:di k RK) (hY:∀ (w:Nw) (h:Heap),YP w h->(K w.params).In h)
  (hl:∀ ns:List Int,ns.length<=63->∀ μ,sp [.ls (ns.map .int)] μ (λd _=>d=.bl true))
  (F:∀ (w:Nw) (mg:Str->Option MN) (fa:Addr) (h:Heap),(K w.params).In h->h.Ns N4 mg->mg d.name=some (.ref fa)->
   ∃ fd:Nd,(∀ (s:MQ) (u:MN),Tw s fd ⟨[u],[]⟩ [(x,u)])/\∀ base:Heap,(K w.params).In base->base.Ns N4 mg->gX l.prog w (K w.params) mg base CX0 k fa fd [x] (lift (K w.params) sp)) :
  U1 q loose XP YP l.row.toRowW d [] (λf vs=>UP f vs):=
 L2.Du (n:=63) (k:=k) (x:=x) (CX:=λ_=>CX0) (sp:=λw=>lift (K w.params) sp) hn (by decide) hdf hr hY F
  (λw H a ns hl' hO hS=>⟨[.ls (ns.map .int)],λ_=>none,_,.cons (.ls (.only hO hS) (.ints ns)) .nil,(λa o e=>by cases e),hl ns hl' _,λv H' d μ' _ _ p e=>by
   have e':d=.bl true:=e
   subst e'
   cases p;rfl⟩) λ_ _ _ _ _ z=>z
end
section
open PySem PySem.Spec PyProof.Rows L2
def scB (N P:List Str)(sc:Scope):Bool:=decide N.Nodup&&decide (∀ x∈P,sc.names.lookup x=some .local∨sc.names.lookup x=some .cell)&&decide (∀ y∈sc.names,y.2≠.free)
theorem K7 {N P:List Str}{sc:Scope}(h1:sc.kind=.function)(h2:sc.isCoroutine=false)(h3:sc.isGenerator=false)(h4:N.take P.length=P)(h:scB N P sc=true):aE N P sc:=by
 unfold scB at h
 rw[NI,NI] at h
 exact ⟨h1,h2,h3,of_decide_eq_true h.1.1,h4,of_decide_eq_true h.1.2,of_decide_eq_true h.2⟩
structure aM (P:Nh) (w:Nw) (K:ML) (mg:Str->Option MN) (base:Heap) (k:Nat) (x:Str) (ps:List Str) (sp:FSp):Prop where
 ex:∃ f fd,gX P w K mg base CX0 k f fd ps (lift K sp)/\mg x=some (.ref f)/\PH K (.ref f)=true/\Binds K fd ps []
section
variable {P:Nh} {w:Nw} {K:ML} {mg:Str->Option MN} {base:Heap}
theorem aH {x qual:Str}{st:Stmt}{f:Addr}{fd:Nd}{N ps:List Str}{k:Nat}{sp:FSp}{T:STr}(m:mg x=some (.ref f))(F:Fun K x qual st f fd)(S:aE N ps (au st))(len:∀ ds μ Q,sp ds μ Q->ds.length=ps.length)
  (hr:∀ ds μ Q,sp ds μ Q->T { nx:=λ_ μ'=>RT Q .non μ',rt:=RT Q } (ini N.length ds) μ)
  (b:∀ (kV doc pm:MN) (an:Option Addr) (cdv ct:MN) (us:List MN),us.length=ps.length->bindArgs (Pf x qual (iL st) (dE st) (au st) .none kV doc pm an cdv ct) ⟨us,[]⟩=pure (ps.zip us))
  (hb:∀ (cdv:MN) (A:NH) (outer:List Env) (s:MQ) (H:Hp) (E:XK),di k (A.deeper (QH qual (au st) s.heap.objs.size f cdv))->(A.deeper (QH qual (au st) s.heap.objs.size f cdv)).units+64 < cLine->
   LSs (sC CX0 P w K mg base N qual (au st) f cdv A outer s H E).nox (dE st) T):aM P w K mg base (k+1) x ps sp:=
 ⟨f,fd,Fq F S len (λcdv A outer s H E h=>hb cdv A outer s H E h h.units) hr,m,F.kp,F.binds b⟩
end
theorem aj {X:Cx}{k n:Nat}{x:Str}{ps:List Str}{sp:FSp}{e:Nf}{es:List Nf}{At:ATr}{p pos:Pos}(C:aM X.prog X.w X.K X.mg X.base k x ps sp)(hr:di n X.A)(hg:Gl X x)
  (ha:LA X (e::es) At) (hle:k<=n:=by decide) (hdb:(x == ("__debug__" : Str))=false:=by decide) (he:M6 (e::es) X.env=(false,N1 e X.env)::M6 es X.env:=by rfl) (hpl:(OL pos (M6 es X.env)).any (·.1)=false:=by rfl) :
  LE X (.Call (.Name x p) (e::es) [] pos) (aq sp At):=by
 obtain ⟨f,fd,F,m,kp,b⟩:=C.ex
 exact EZ F (hr.mono hle) hg m kp b ha hdb he hpl
end
section
open PySem PySem.Spec PyProof.Rows L2
def aX (X:Cx)(scope:Scope)(Nc:List Str)(cl:List (Str×Addr))(C:Addr)(s₀:MQ)(H₀:Hp)(ex:List Addr):Cx:=
 { X with env:=UR scope cl C X.env,N:=Nc,s₀:=s₀,H₀:=H₀,outer:=X.stack,ex:=ex,fn:=λ_=>false,pn:=[] }
theorem vo {scope:Scope}{env:Env}(h:∀ y∈scope.names,y.2=.free->∃ c,env.cells.lookup y.1=some c) :
  ∃ cl,closureFor scope env=pure cl/\(∀ x c,cl.lookup x=some c->env.cells.lookup x=some c)/\∀ y∈scope.names,y.2=.free->∃ c,cl.lookup y.1=some c:=by
 have gen:∀ (ns:List (Str×Qb)) (cs:List (Str×Addr)),(∀ y∈ns,y.2=.free->∃ c,env.cells.lookup y.1=some c)->(∀ x c,cs.lookup x=some c->env.cells.lookup x=some c)->
   ∃ cl,(forIn ns cs λx r=>if (x.2 == Of)=true then do let c ← cellOf env x.1;pure (Ol ((x.1,c)::r)) else pure (Ol r):Sem _)=pure cl/\(∀ x c,cl.lookup x=some c->env.cells.lookup x=some c)/\
    (∀ x,(cs.lookup x).isSome=true->(cl.lookup x).isSome=true)/\∀ y∈ns,y.2=.free->∃ c,cl.lookup y.1=some c:=by
  intro ns
  induction ns with
  | nil=>intro cs _ h2;exact ⟨cs,rfl,h2,λ_ z=>z,λ_ z=>nomatch z⟩
  | cons y r ih=>
   intro cs h1 h2
   obtain ⟨n,k⟩:=y
   by_cases hk:k=.free
   ·subst hk
    obtain ⟨c,hc⟩:=h1 (n,.free) MS rfl
    have h2':∀ x c',((n,c)::cs).lookup x=some c'->env.cells.lookup x=some c':=λx c' e=>by
     rw[Od] at e
     split at e
     ·rename_i hx
      cases e
      have:x=n:=by simpa using hx
      subst this;exact hc
     ·exact h2 x c' e
    obtain ⟨cl,e1,e2,e3,e4⟩:=ih ((n,c)::cs) (λy hy=>h1 y (MU _ hy)) h2'
    refine ⟨cl,?_,e2,λx hx=>e3 x ?_,λy hy hf=>?_⟩
    ·rw[Qk]
     have:cellOf env n=pure c:=by unfold cellOf;rw[hc]
     simp only[beq_self_eq_true,if_true,this,pure_bind]
     exact e1
    ·rw[Od];split
     ·rfl
     ·exact hx
    ·obtain rfl | hy:=MY.mp hy
     ·have:(cl.lookup n).isSome=true:=e3 n (by simp[Od])
      exact Q9.mp this
     ·exact e4 y hy hf
   ·obtain ⟨cl,e1,e2,e3,e4⟩:=ih cs (λy hy=>h1 y (MU _ hy)) h2
    refine ⟨cl,?_,e2,e3,λy hy hf=>?_⟩
    ·rw[Qk]
     have:(k == Of)=false:=by simpa using hk
     simp only[this,Pw,if_false,pure_bind]
     exact e1
    ·obtain rfl | hy:=MY.mp hy
     ·exact absurd hf hk
     ·exact e4 y hy hf
 obtain ⟨cl,e1,e2,_,e4⟩:=gen scope.names [] h λx c e=>by cases e
 refine ⟨cl,?_,e2,e4⟩
 show ((forIn scope.names ([]:List (Str×Addr)) λx r=>if (x.2 == Of)=true then do let c ← cellOf env x.1;pure (Ol ((x.1,c)::r)) else pure (Ol r):Sem _) >>= λs=>pure s)=pure cl
 rw[e1]
 rfl
def vy (Y:Cx)(ifs:List Nf)(t:TT):Prop:=
 ∀ (pins:List (Addr×Obj)) (s:MQ) (σ:L2.St) (H:Hp) (Q:Bool->Hp->Prop),Inv Y pins σ H s->t σ H Q->
  M4 (Nb Y.prog Y.w) Y.A (forIn ifs true λc r=>if r=true then do let ok ← isTrue c Y.env (N1 c Y.env);pure (Ol ok) else pure (Ol r)) (TP Y pins σ Q) Y.xe s
def MA:TT:=λ_ H Q=>Q true H
theorem Ep {Y:Cx}:vy Y [] MA:=λpins s σ H Q I h=>wpAny_tests_nil ⟨H,I,h⟩
theorem ES {Y:Cx}{c:Nf}{t:TT}(h:PT Y c t):vy Y [c] t:=λpins s σ H Q I hh=>wpAny_tests_one (h pins s σ H Q I hh)
def hU (σ:L2.St)(n:Nat)(caps:List Nat):L2.St:=N8 n none++caps.map λi=>(σ[i]?).join
def Wk (σ' σ:L2.St):Prop:=σ'.length=σ.length/\∀ (i:Nat) v,σ'[i]? = some (some v)->σ[i]? = some (some v)
def jD (wi:TI)(g:TG)(tt:TT)(te:TE)(n:Nat)(caps:List Nat):TE:=λσ H Q=>wi σ H λJ H1=>∀ D,H1 D=none->
 ∃ W:Nat->Nat->List V->Hp->Prop,(∃ m,W 0 m [] (L2.upd H1 D (.lst [])))/\∀ i m ys H2,W i m ys H2->
  (J.stop i H2/\Q (.ref D) H2)∨(J.go i H2/\∃ N:List V->Hp->Prop,(∀ ys' H',N ys' H'->∃ m',m' < m/\W (i+1) m' ys' H')/\
   ∀ x H3,J.yld i H2 x H3->g x (hU σ n caps) H3 λσ4 H4=>Wk (hU σ n caps) σ4/\tt σ4 H4 λb H5=>if b=true then te σ4 H5 λy H6=>∃ zs,H6 D=some (.lst zs)/\zs.length < sizeLine/\N (zs++[y]) (L2.upd H6 D (.lst (zs++[y]))) else N ys H5)
theorem yC {prog:Nh}{w:Nw}{A:NH}{R:Result->MQ->Prop}{s:MQ}{elt target iter:Nf}{ifs:List Nf}{scope:Scope}{pos:Pos}{it acc:MN}{env:Env}(J:Nat->MQ->Prop)
  (turn:∀ n s,J n s->M4 (Nb prog w) A (Pk it) (λo t₁=>match o with
   | none=>R (.ok .next) t₁
   | some v=>M4 (Nb prog w) A (Qh target it v) (λ_ t₁=>M4 (Nb prog w) A (QE target env v) (λ_ t₂=>
     M4 (Nb prog w) A (forIn ifs true λc r=>
      if r=true then do let ok ← isTrue c env (N1 c env);pure (Ol ok) else pure (Ol r)) (λok t₃=>
      if ok=true then M4 (Nb prog w) A (N1 elt env) (λx t₄=>
       M4 (Nb prog w) A (call (.builtin "list.append") [acc,x]) (λ_ t₅=>∃ m,m < n/\J m t₅) (λ_ _=>False) t₄) (λ_ _=>False) t₃
      else ∃ m,m < n/\J m t₃) (λ_ _=>False) t₂) (λ_ _=>False) t₁) (λ_ _=>False) t₁) (λ_ _=>False) s)
  (n:Nat) (h:J n s):QY (Nb prog w) A (.compLoop (.ListComp elt [⟨target,iter,ifs,0⟩] scope pos) 0 it acc env) R s:=by
 refine codeAny_loop rfl J (λn s hJ=>?_) n h
 show M4 _ A ((compTurn (.ListComp elt [⟨target,iter,ifs,0⟩] scope pos) 0 it acc env).onRaise
  (λx=>do noteFrame x env;theTreesLotGoes x)) _ _ s
 refine wpAny_noted ?_
 rw[compTurn_list]
 refine MM (Q7 (MM (NW (turn n s hJ) (λr t₁ g₁=>?_) λ_ _ h'=>h'.elim)))
 cases r with
 | none=>exact wpAny_pure g₁
 | some v=>
  refine MM (NW g₁ (λ_ t₁' g₁'=>?_) λ_ _ h'=>h'.elim)
  refine MM (NW g₁' (λ_ t₂ g₂=>MM (NW g₂ (λok t₃ g₃=>?_) λ_ _ h'=>h'.elim)) λ_ _ h'=>h'.elim)
  cases ok with
  | false=>exact wpAny_pure ⟨rfl,g₃⟩
  | true=>
   exact MM (MM (NW g₃ (λx t₄ g₄=>MM (NW g₄ (λ_ t₅ g₅=>wpAny_pure (wpAny_pure ⟨rfl,g₅⟩)) λ_ _ h'=>h'.elim)) λ_ _ h'=>h'.elim))
theorem iz {σ:L2.St}{n:Nat}{caps:List Nat}{i:Nat}{v:V}(h:(hU σ n caps)[i]? = some (some v)):∃ j k,i=n+j/\caps[j]? = some k/\σ[k]? = some (some v):=by
 unfold hU at h
 by_cases hi:i < n
 ·rw[OB (by simpa using hi),Rk,if_pos hi] at h
  cases h
 ·rw[Ow (by simpa using hi)] at h
  rw[PR,Nv] at h
  cases e:caps[i - n]? with
  | none=>rw[e] at h;cases h
  | some k=>
   rw[e] at h
   have h':(σ[k]?).join=some v:=Nl h
   cases e2:σ[k]? with
   | none=>rw[e2] at h';cases h'
   | some o=>
    rw[e2] at h'
    have h'':o=some v:=h'
    subst h''
    exact ⟨i - n,k,by omega,e,e2⟩
theorem cB {env:Env}(hk:env.scope.kind=.function):∀ {names:List (Str×Qb)} {x:Str},env.kindOf x=some .cell->names.lookup x=some .free->
  (names.map λ(n,k)=>if (k == Of&&env.scope.kind == .function&&env.kindOf n == some .cell) then (n,SQ) else (n,k)).lookup x=some .cell
 | [],_,_,h=>by simp at h
 | (n,k)::r,x,hc,h=>by
  have ih:=@cB env hk r x hc
  show List.lookup x ((if (k == Of&&env.scope.kind == .function&&env.kindOf n == some .cell)=true
   then (n,SQ) else (n,k))::_)=_
  cases hx:x == n with
  | true=>
   simp only[hx,Od] at h
   cases h
   have e:x=n:=by simpa using hx
   subst e
   simp[Od,hk,hc]
  | false=>
   simp only[hx,Od] at h
   by_cases hcc:(k == Of&&env.scope.kind == .function&&env.kindOf n == some .cell)=true
   ·rw[if_pos hcc];simp only[Od,hx];exact ih h
   ·rw[if_neg hcc];simp only[Od,hx];exact ih h
theorem jK {env:Env}:∀ {names:List (Str×Qb)} {x:Str} {k':Qb},(∀ y∈names,y.2≠.cell)->(k'=.cell∨k'=.free)->
  (x,k')∈(names.map λ(n,k)=>if (k == Of&&env.scope.kind == .function&&env.kindOf n == some .cell) then (n,SQ) else (n,k))->(x,Of)∈names:=by
 intro names x k' hn hk h
 obtain ⟨⟨n,k⟩,hm,e⟩:=M3.mp h
 dsimp only at e
 split at e
 ·rename_i hc
  cases e
  have:k=.free:=by simp at hc;exact hc.1.1
  subst this;exact hm
 ·cases e
  rcases hk with rfl | rfl
  ·exact absurd rfl (hn _ hm)
  ·exact hm
theorem zb {X:Cx}{pins:List (Addr×Obj)}{σ:L2.St}{H H5:Hp}{s:MQ}{C:Addr}{h':Heap}(I:Inv X pins σ H s)(f0:H C=none)(fC:lq X pins H5 C)(hs:OV C s.heap h'):Inv X pins σ H { s with heap:=h' }:=by
 have keep:∀ b o',b≠C->s.heap.get? b=some o'->h'.get? b=some o':=λb o' hb e'=>(hs.2 b hb).trans e'
 refine I.Fg (ch:=[C]) (s':={ s with heap:=h' }) rfl ⟨λb o' e' _ _ nx=>keep b o' (λz=>nx (by rw[z];exact MS)) e',λb o' e' _ _ nx=>⟨o'.slots,keep b o' (λz=>nx (by rw[z];exact MS)) e'⟩,λb o' _ w _=>w,λb o' e' nx=>⟨o',keep b o' (λz=>nx (by rw[z];exact MS)) e'⟩,λb ys e'=>e',λb o' u e'=>e',λb ps e'=>⟨#[],by simpa using e'⟩⟩ (λb u e'=>?_) I.bare λb hb=>?_
 ·refine (I.hok b u e').jj (λc w' hc q=>keep c w' ?_ q) (λ_ q=>q) λ_ _ q=>q
  rintro rfl
  rcases hc with z | z
  ·rw[← z,f0] at e';cases e'
  ·rw[f0] at z;cases z
 ·cases MV.mp hb
  exact ⟨fC.2.2.2.1,fC.2.1,fC.2.2.2.2.1,fC.2.2.2.2.2⟩
theorem rX {X:Cx}{tg iter elt:Nf}{ifs:List Nf}{scope:Scope}{pos:Pos}{wi:TI}{g:TG}{tt:TT}{te:TE}{Nc:List Str}{n:Nat}{caps:List Nat}
  (hxe:X.xe=λ_ _=>False) (hcalm:X.calm=true) (hi:PI X tg iter wi)
  (hbody:∀ (cl:List (Str×Addr)) (C:Addr) (s₀:MQ) (H₀:Hp) (ex:List Addr),PG (aX X scope Nc cl C s₀ H₀ ex) tg g/\vy (aX X scope Nc cl C s₀ H₀ ex) ifs tt/\PE (aX X scope Nc cl C s₀ H₀ ex) elt te)
  (hfree:∀ y∈scope.names,y.2=.free->X.env.kindOf y.1=some .cell) (hcell:∀ y∈scope.names,y.2≠.cell) (eF:scope.kind=.function)
  (hnames:∀ y∈scope.names,y.2=.local->scope.names.lookup y.1=some .local) (hlen:Nc.length=n+caps.length)
  (hcap:∀ (j k:Nat),caps[j]? = some k->∃ x,Nc[n+j]? = some x/\X.N[k]? = some x/\scope.names.lookup x=some .free)
  {use:Option (MN->Sem Unit)} {Qv:MN->MQ->Prop} {pins:List (Addr×Obj)} {s:MQ} {σ:L2.St} {H:Hp} {Q:VK} {ps:Pos} (I:Inv X pins σ H s) (h:jD wi g tt te n caps σ H Q)
  (hfin:∀ (D C:Addr) (s5:MQ) (H5:Hp) (m:Str->Option MN),Inv X pins σ H5 s5->lq X pins H5 C->s5.heap.Ns C m->Q (.ref D) H5->US (Nb X.prog X.w) X.A (λ_ _=>False) use Qv (.ref D) C (.ok .next) s5)
  (hs:∀ x,NS iter X.env x=pure x:=by intro _;rfl) :
  M4 (Nb X.prog X.w) X.A (comprehension (.ListComp elt [⟨tg,iter,ifs,0⟩] scope pos) scope X.env ps (newList []) false (N1 iter X.env) use) Qv (λ_ _=>False) s:=by
 obtain ⟨cl,hclos,clin,clfree⟩:=vo (scope:=scope) (env:=X.env) λy hy hf=>I.ok.has y.1 (.inl (hfree y hy hf))
 refine wpAny_comprehension_free (use:=use) rfl hs hclos eF hnames ?_
 have hi':=hi pins s σ H _ I h
 rw[hxe] at hi'
 refine NW hi' (λxv s1 h1=>NW h1 (λitv s2 h2=>?_) λ_ _ z=>z) λ_ _ z=>z
 obtain ⟨it,fp,tn,J,H1,rfl,I2,T,st2,f2,hh⟩:=h2
 -- the new list
 refine NJ ?_
 have hD:H1 s2.heap.objs.size=none:=I2.hok.fresh (M0 _)
 obtain ⟨W,⟨m0,w0⟩,turn⟩:=hh _ hD
 have I3:Inv X pins σ (L2.upd H1 s2.heap.objs.size (.lst [])) { s2 with heap:=s2.heap.push { cls:=.type "list", dict:=none,data:=.seq ([]:List MN).toArray } }:=
  I2.laid (t':=s2.toks) (λb u e=>MP _ e) (M0 _) ⟨N0 _,[],0,.nil,MW _ rfl⟩
 have k3:∀ b u,s2.heap.get? b=some u->(s2.heap.push { cls:=.type "list", dict:=none,data:=.seq ([]:List MN).toArray }).get? b=some u:=λb u e=>MP _ e
 have fne:∀ b∈fp,b≠s2.heap.objs.size:=λb hb=>by
  obtain ⟨o,ho,_⟩:=T.obj 0 _ st2 b hb
  exact Na (M1 ho)
 generalize eD:s2.heap.objs.size=D at *
 generalize eh3:s2.heap.push { cls:=.type "list", dict:=none,data:=.seq ([]:List MN).toArray }=h3 at *
 generalize eH3:L2.upd H1 D (.lst [])=H3 at *
 have st3:tn 0 h3:=T.keep 0 _ _ st2 λb hb o e=>k3 b o e
 have f3:∀ b∈fp,lq X pins H3 b:=λb hb=>⟨by rw[← eH3,az (fne b hb)];exact (f2 b hb).1,(f2 b hb).2⟩
 have lt3:∀ b∈fp,b < h3.objs.size:=λb hb=>by
  obtain ⟨o,ho,_⟩:=T.obj 0 _ st3 b hb
  exact M1 ho
 generalize es3:({ s2 with heap:=h3 }:MQ)=s3 at *
 have hs3:s3.heap=h3:=by rw[← es3]
 refine wpAny_newFunctionEnv hcell (λy hy=>(by cases hy)) (λh4 hns hsb=>?_) eF
 show QY _ _ (.compStart _ 0 (.ref it) (.ref D) (UR scope cl s3.heap.objs.size X.env)) (US _ _ _ _ _ (.ref D) s3.heap.objs.size) _
 have k4:∀ b u,s3.heap.get? b=some u->h4.get? b=some u:=λb u e=>hsb.extBut b u (Na (M1 e)) (MP _ e)
 have okY:(aX X scope Nc cl s3.heap.objs.size s3 H3 fp).Ok:=by
  refine ⟨I3.ok.mod,eF,I3.ok.glob,I3.ok.blt,M0 _,λx y c e1 e2=>I3.ok.inj x y c (clin _ _ e1) (clin _ _ e2),λx hx=>?_,λx c hf=>(by cases hf),I3.ok.hd,I3.ok.frames,.inl rfl,λb hb=>⟨?_,λx c e z=>?_⟩,I3.bs,NR I3.ok.bsz I3.sz,λb o e hb=>?_,λb hb hz=>?_,I3.stack,I3.wY⟩
  ·have hx':(relabel scope X.env).names.lookup x=some .cell∨(relabel scope X.env).names.lookup x=some .free:=hx
   have hm:(x,Of)∈scope.names:=by
    rcases hx' with q | q
    ·exact jK hcell (.inl rfl) (NX q)
    ·exact jK hcell (.inr rfl) (NX q)
   exact clfree _ hm rfl
  ·show b≠s3.heap.objs.size
   rw[hs3];exact Na (lt3 b hb)
  ·exact (f3 b hb).2.2.2.2.1 x c (clin _ _ e) z
  ·rcases (f3 b hb).2.2.2.1 with z | z
   ·exact I3.ok.Bk b o e z
   ·exact absurd (M9 (M1 e) (NR I3.ok.bsz z)) (Pn _)
  ·rcases MY.mp (I3.uM b hz) with z | z
   ·exact (f3 b hb).2.1 z
   ·exact (f3 b hb).2.2.1 z
 have J7:∀ c v,s3.heap.IsCell c v->h4.IsCell c v:=λc v ⟨o,ho,hd⟩=>⟨o,k4 c o ho,hd⟩
 have J0:Inv (aX X scope Nc cl s3.heap.objs.size s3 H3 fp) [] (hU σ n caps) H3 { s3 with heap:=h4,toks:=s3.toks+([]:List (Str×MN)).length }:=by
  refine ⟨okY,rfl,I3.bare,Un.kept k4,⟨_,hns,λi x v e1 e2 e3=>?_⟩,λx c e=>?_,I3.hok.fresh (M0 _),λx c e=>I3.fJ x c (clin _ _ e),(λp hp=>(by cases hp)),I3.hok.kept k4,?_⟩
  ·obtain ⟨j,k,rfl,ej,ek⟩:=iz e2
   obtain ⟨x',n1,n2,n3⟩:=hcap j k ej
   have e1':Nc[n+j]? = some x:=e1
   rw[n1] at e1';cases e1'
   have hmem:(x,Of)∈scope.names:=NX n3
   have hcellx:X.env.kindOf x=some .cell:=hfree _ hmem rfl
   obtain ⟨m,hn,hl⟩:=I3.loc
   obtain ⟨u,ru,lk⟩:=hl k x v n2 ek (.inr (.inl hcellx))
   refine ⟨u,ru,.inr ⟨.inl (cB I3.ok.kind hcellx n3),?_⟩⟩
   rcases lk with ⟨q,_⟩ | ⟨_,c,ec,ic⟩
   ·rw[hcellx] at q;cases q
   ·obtain ⟨c',ec'⟩:=clfree _ hmem rfl
    have:=clin _ _ ec'
    rw[ec] at this;cases this
    exact ⟨c,ec',J7 _ _ ic⟩
  ·obtain ⟨v,q⟩:=I3.cell x c (clin _ _ e)
   exact ⟨v,J7 _ _ q⟩
  ·unfold hU
   show _=Nc.length
   rw[Nt,PR,MX,hlen]
 obtain ⟨pg,pifs,pelt⟩:=hbody cl s3.heap.objs.size s3 H3 fp
 generalize eY:aX X scope Nc cl s3.heap.objs.size s3 H3 fp=Y at *
 have yP:Y.prog=X.prog:=by rw[← eY];rfl
 have yw:Y.w=X.w:=by rw[← eY];rfl
 have yK:Y.K=X.K:=by rw[← eY];rfl
 have yA:Y.A=X.A:=by rw[← eY];rfl
 have yx:Y.xe=λ_ _=>False:=by rw[← eY];exact hxe
 have yc:Y.calm=true:=by rw[← eY];exact hcalm
 have ye:Y.env=UR scope cl s3.heap.objs.size X.env:=by rw[← eY];rfl
 have yfs:Y.fs=frs X.stack:=by rw[← eY];rfl
 have yex:Y.ex=fp:=by rw[← eY];rfl
 have ys0:Y.s₀=s3:=by rw[← eY];rfl
 have yH0:Y.H₀=H3:=by rw[← eY];rfl
 have ypn:Y.pn=[]:=by rw[← eY];rfl
 have vG:∀ {H':Hp},(∀ b∈fp,H' b=none)->∀ b∈fp,lq Y [] H' b:=λhn b hb=>⟨hn b hb,by rw[ye];show b≠s3.heap.objs.size;rw[hs3];exact Na (lt3 b hb),okY.CQ b (by rw[yex];exact hb),.inl (by rw[yex];exact hb),
  λx c e=>by rw[ye] at e;exact (f3 b hb).2.2.2.2.1 x c (clin _ _ e),λp hp=>by rw[ypn] at hp;exact nomatch hp⟩
 have tn4:∀ t,tn 0 ({ s3 with heap:=h4,toks:=t }:MQ).heap:=λt=>T.keep 0 _ _ st3 λb hb o e=>k4 b o (by rw[hs3];exact e)
 -- the end
 have fin:∀ (s5:MQ) (H5:Hp),Inv Y [] (hU σ n caps) H5 s5->Q (.ref D) H5->US (Nb X.prog X.w) X.A (λ_ _=>False) use Qv (.ref D) s3.heap.objs.size (.ok .next) s5:=λs5 H5 I5 q5=>by
  obtain ⟨m,hn,_⟩:=I5.loc
  rw[ye] at hn
  have un:=I5.base
  rw[yfs,yex,yH0,ys0] at un
  have hfreeC0:=I5.free
  rw[ye] at hfreeC0
  have hfreeC:H5 s3.heap.objs.size=none:=hfreeC0
  have hok5:=I5.hok
  rw[yP,yw] at hok5
  have I5X:Inv X pins σ H5 s5:=I3.Fg (ch:=fp) (s':=s5) (by have:=I5.os;rw[ys0] at this;exact this) un hok5 I5.bare λb hb=>⟨(f3 b hb).2.2.2.1,(f3 b hb).2.1,(f3 b hb).2.2.2.2.1,(f3 b hb).2.2.2.2.2⟩
  exact hfin _ _ s5 H5 m I5X (I3.pz (M0 _) hfreeC) hn q5
 have loop:QY (Nb X.prog X.w) X.A (.compLoop (.ListComp elt [⟨tg,iter,ifs,0⟩] scope pos) 0 (.ref it) (.ref D) (UR scope cl s3.heap.objs.size X.env)) (US (Nb X.prog X.w) X.A (λ_ _=>False) use Qv (.ref D) s3.heap.objs.size)
   { s3 with heap:=h4,toks:=s3.toks+([]:List (Str×MN)).length }:=by
  refine yC (λk s'=>∃ i ys H',Inv Y [] (hU σ n caps) H' s'/\tn i s'.heap/\(∀ b∈fp,H' b=none)/\W i k ys H') ?_ m0 ⟨0,[],H3,J0,tn4 _,λb hb=>(f3 b hb).1,w0⟩
  rintro k s5 ⟨i,ys,H5,I5,st5,fr5,w5⟩
  rcases turn i k ys H5 w5 with ⟨stop,q⟩ | ⟨go,N,hN,step⟩
  ·have d:=T.done Y yP yw yK yc i [] s5 _ H5 (λ_ _=>False) I5 (vG fr5) st5 stop
   rw[yA] at d
   refine thn d λr s6 ⟨hr,I6⟩=>?_
   subst hr
   exact fin s6 H5 I6 q
  ·have d:=T.item Y yP yw yK yc i [] s5 _ H5 (λ_ _=>False) I5 (vG fr5) st5 go
   rw[yA] at d
   refine thn d λr s6 ⟨u,hr,h6⟩=>?_
   subst hr
   refine thn h6 λ_ s7 ⟨x,H7,I7,r7,y7,st7,fr7⟩=>?_
   have I7':=I7.pinned (vG fr7) (T.obj _ _ st7)
   have a:=pg _ s7 _ H7 x u _ I7' r7 (step x H7 y7)
   rw[yP,yw,yA,yx,ye] at a
   refine thn a λ_ s8 ⟨σ8,H8,I8,wk,q8⟩=>?_
   have b:=pifs _ s8 σ8 H8 _ I8 q8
   rw[yP,yw,yA,yx,ye] at b
   have again:∀ {s9:MQ} {ys9:List V} {H9:Hp},Inv Y ([]++k9 fp s7.heap) σ8 H9 s9->N ys9 H9->∃ m,m < k/\∃ i ys H',Inv Y [] (hU σ n caps) H' s9/\tn i s9.heap/\(∀ b∈fp,H' b=none)/\W i m ys H':=λ{s9 ys9 H9} I9 n9=>by
    obtain ⟨m',hm,w9⟩:=hN ys9 H9 n9
    have hp:∀ b∈fp,∀ o,s7.heap.get? b=some o->s9.heap.get? b=some o/\H9 b=none:=λb hb o e=>
     ⟨(I9.pin (b,o) (Ng _ (Ng _ (cX hb e)))).1,(I9.pin (b,o) (Ng _ (Ng _ (cX hb e)))).2.1⟩
    refine ⟨m',hm,i+1,ys9,H9,I9.fY.weak wk.1 wk.2,T.keep _ _ _ st7 λb hb o e=>(hp b hb o e).1,λb hb=>?_,w9⟩
    obtain ⟨o,e,_⟩:=T.obj _ _ st7 b hb
    exact (hp b hb o e).2
   refine thn b λok s9 ⟨H9,I9,q9⟩=>?_
   cases ok with
   | false=>
    rw[if_neg QG] at q9 ⊢
    exact again I9 q9
   | true=>
    rw[if_pos rfl] at q9 ⊢
    have c:=pelt _ s9 σ8 H9 _ I9 q9
    rw[yP,yw,yA,yx,ye] at c
    refine thn c λv s10 ⟨y,H10,I10,r10,zs,ez,lz,n10⟩=>?_
    have d:=oE (X:=Y) _ s10 σ8 H10 (.ref D) [y] (.ref D) [v] (λ_ H'=>N (zs++[y]) H') I10 rfl (.cons r10 .nil) ⟨D,zs,y,rfl,rfl,ez,lz,n10⟩
    rw[yP,yw,yA,yx] at d
    exact thn d λ_ s11 ⟨_,H11,I11,_,q11⟩=>again I11 q11
 refine codeAny_compStart_list loop ?_
 exact T.self X.A 0 _ _ _ (tn4 _) loop
theorem Di {X:Cx}{tg iter elt:Nf}{ifs:List Nf}{scope:Scope}{pos:Pos}{wi:TI}{g:TG}{tt:TT}{te:TE}{Nc:List Str}{n:Nat}{caps:List Nat}
  (hxe:X.xe=λ_ _=>False) (hcalm:X.calm=true) (hi:PI X tg iter wi)
  (hbody:∀ (cl:List (Str×Addr)) (C:Addr) (s₀:MQ) (H₀:Hp) (ex:List Addr),PG (aX X scope Nc cl C s₀ H₀ ex) tg g/\vy (aX X scope Nc cl C s₀ H₀ ex) ifs tt/\PE (aX X scope Nc cl C s₀ H₀ ex) elt te)
  (hfree:∀ y∈scope.names,y.2=.free->X.env.kindOf y.1=some .cell) (hcell:∀ y∈scope.names,y.2≠.cell) (eF:scope.kind=.function)
  (hnames:∀ y∈scope.names,y.2=.local->scope.names.lookup y.1=some .local) (hlen:Nc.length=n+caps.length)
  (hcap:∀ (j k:Nat),caps[j]? = some k->∃ x,Nc[n+j]? = some x/\X.N[k]? = some x/\scope.names.lookup x=some .free)
  (hs:∀ x,NS iter X.env x=pure x:=by intro _;rfl) :
  PE X (.ListComp elt [⟨tg,iter,ifs,0⟩] scope pos) (jD wi g tt te n caps):=by
 intro pins s σ H Q I h
 rw[hxe,eval_ListComp]
 exact rX hxe hcalm hi hbody hfree hcell eF hnames hlen hcap (use:=none) I h (λD C s5 H5 m I5 fC hn q=>⟨m,hn,λh6 hs6=>⟨.ref D,H5,zb I5 fC.1 fC hs6,rfl,q⟩⟩) hs
theorem CJ {X:Cx}{tg iter elt:Nf}{ifs:List Nf}{scope:Scope}{pos spos py:Pos}{y:Str}{iy:Nat}{wi:TI}{g:TG}{tt:TT}{te:TE}{Nc:List Str}{n:Nat}{caps:List Nat}{Z:TE->TE}
  (hxe:X.xe=λ_ _=>False) (hcalm:X.calm=true) (hi:PI X tg iter wi)
  (hbody:∀ (cl:List (Str×Addr)) (C:Addr) (s₀:MQ) (H₀:Hp) (ex:List Addr),PG (aX X scope Nc cl C s₀ H₀ ex) tg g/\vy (aX X scope Nc cl C s₀ H₀ ex) ifs tt/\PE (aX X scope Nc cl C s₀ H₀ ex) elt te)
  (hfree:∀ y∈scope.names,y.2=.free->X.env.kindOf y.1=some .cell) (hcell:∀ y∈scope.names,y.2≠.cell) (eF:scope.kind=.function)
  (hnames:∀ y∈scope.names,y.2=.local->scope.names.lookup y.1=some .local) (hlen:Nc.length=n+caps.length)
  (hcap:∀ (j k:Nat),caps[j]? = some k->∃ x,Nc[n+j]? = some x/\X.N[k]? = some x/\scope.names.lookup x=some .free)
  (pgy:PG X (.Name y py) (kJ iy))
  (hsw:Pe (.ListComp elt [⟨tg,iter,ifs,0⟩] scope pos) (some (.Name y py)) spos.line X.env=pure true)
  (hz:∀ (σ:L2.St) (H:Hp) (Q:VK),Z (jD wi g tt te n caps) σ H Q->∃ Q',jD wi g tt te n caps σ H Q'/\∀ pins D H5 s5,Inv X pins σ H5 s5->Q' (.ref D) H5->∃ H6,(∀ b,H5 b=none->H6 b=none)/\Inv X pins σ H6 s5/\Q (.ref D) H6)
  (hs:∀ x,NS iter X.env x=pure x:=by intro _;rfl) :
  PS X (.Assign [.Name y py] (.ListComp elt [⟨tg,iter,ifs,0⟩] scope pos) spos) (CZ (Z (jD wi g tt te n caps)) (kJ iy)):=by
 intro pins s σ H E' I h
 rw[hxe]
 rewrite [exec_Assign_Name_used _ _ _ _ hsw]
 refine MM (Q7 ?_)
 refine MM ?_
 refine (show M4 _ X.A (do let _ ← comprehension (.ListComp elt [⟨tg,iter,ifs,0⟩] scope pos) scope X.env _ (newList []) false (N1 iter X.env) (some (QE (.Name y py) X.env))) _ _ s from ?_)
 obtain ⟨Q',h',hq⟩:=hz σ H _ h
 refine MM (NW (rX hxe hcalm hi hbody hfree hcell eF hnames hlen hcap (use:=some (QE (.Name y py) X.env)) (Qv:=λ_ s'=>SP X pins E' .next s') I h' (λD C s5 H5 m I5 fC hn q=>?_) hs) (λ_ s' hq=>wpAny_pure (wpAny_pure hq)) λ_ _ e=>e)
 obtain ⟨H6,fr,I6,q6⟩:=hq pins D H5 s5 I5 q
 have f0:=fr C fC.1
 have fC6:lq X pins H6 C:=⟨f0,fC.2⟩
 obtain ⟨oC,gC,dC⟩:∃ oC,s5.heap.get? C=some oC/\∀ v,oC.data≠.cell v:=by
  obtain ⟨oC,es,ep,ho,hd,_⟩:=hn
  exact ⟨oC,ho,λv z=>by rw[hd] at z;cases z⟩
 have I5P:=I6.pinned (fp:=[C]) (λb hb=>by cases MV.mp hb;exact fC6) (λb hb=>by cases MV.mp hb;exact ⟨oC,gC,dC⟩)
 have as:=pgy _ s5 σ _ (.ref D) (.ref D) E'.nx I5P rfl q6
 rw[hxe] at as
 refine thn as λ_ s6 ⟨σ6,H7,I7,n7⟩=>?_
 obtain ⟨g7,f7,_⟩:=I7.pin (C,oC) (Ng _ (Ng _ (cX MS gC)))
 exact ⟨m,hn.at' (λo' e'=>by have e'':s5.heap.get? C=some o':=e';rw[gC] at e'';cases e'';exact g7),λh8 hs8=>⟨σ6,H7,zb I7.fY f7 fC6 hs8,n7⟩⟩
end
section
open PySem PySem.Spec PyProof.Rows L2
structure zG (K:ML) (J:It) (H1:Hp) (ds:List D):Prop where
 go:∀ i H',Tk H1 H'->i < ds.length->J.go i H'
 yld:∀ i H' x H'',Tk H1 H'->i < ds.length->J.yld i H' x H''->Tk H' H''/\(∃ d,ds[i]? = some d/\Dp K H'' x d)/\∀ μ,bw K H' μ->bw K H'' μ
 stop:∀ i H',Tk H1 H'->ds.length<=i->J.stop i H'
def JP (K:ML)(wi:TI)(It':ATr):Prop:=∀ σ H ρ μ (Q:List D->Mu->Prop) (R:It->Hp->Prop),Rl K σ H ρ μ->It' ρ μ Q->(∀ J H1 ds μ1,Tk H H1->bw K H1 μ1->zG K J H1 ds->Q ds μ1->R J H1)->wi σ H R
structure LI (X:Cx) (tg iter:Nf) (It':ATr):Prop where
 ex:∃ wi,PI X tg iter wi/\JP X.K wi It'
section
variable {X:Cx} {tg a b c e elt iter:Nf} {Ta Tb Te:ETr} {Tt:TTr} {pos:Pos} {It':ATr} {G:GTr}
theorem CF {K:ML}{H:Hp}{p:Addr}{xs:List V}{ds:List D}(q:SqT K H p xs)(l:DpL K H xs ds):zG K (Itt K p) H ds where
 go:=λi H' t hi=>by
  have hl:=l.length
  exact ⟨xs,xs[i],t.sqT q,by simp[show i < xs.length by omega]⟩
 yld:=λi H' x H'' t hi ⟨e,y⟩=>by
  subst e
  have ex:=y xs (t.sqT q)
  obtain ⟨d,ed,p⟩:=l.get' ex
  exact ⟨.refl _,⟨d,ed,p.mono t⟩,λ_ m=>m⟩
 stop:=λi H' t hi=>⟨xs,t.sqT q,by rw[l.length];exact hi⟩
theorem E8 {K:ML}{H:Hp}{p:Addr}{xs:List V}{ds:List D}(q:SqF K H p xs)(l:DpL K H xs ds):zG K (Itl K p) H ds where
 go:=λi H' t hi=>by
  have hl:=l.length
  exact ⟨xs,xs[i],(t.sqF q).sq,by simp[show i < xs.length by omega]⟩
 yld:=λi H' x H'' t hi ⟨e,y⟩=>by
  subst e
  have ex:=y xs (t.sqF q).sq
  obtain ⟨d,ed,p⟩:=l.get' ex
  exact ⟨.refl _,⟨d,ed,p.mono t⟩,λ_ m=>m⟩
 stop:=λi H' t hi=>⟨xs,(t.sqF q).sq,by rw[l.length];exact hi⟩
theorem g9 (lo:Int)(n:Nat):(cV lo n).length=n:=by unfold cV;simp
theorem Cd {K:ML}{H:Hp}(lo:Int)(n:Nat):zG K (Itr lo n) H (cV lo n) where
 go:=λi H' t hi=>by rw[g9] at hi;exact hi
 yld:=λi H' x H'' t hi ⟨e,y⟩=>by
  rw[g9] at hi
  subst e y
  exact ⟨.refl _,⟨.int (lo+i),by unfold cV;simp[hi],.int _⟩,λ_ m=>m⟩
 stop:=λi H' t hi=>by rw[g9] at hi;exact hi
def KS (a:ETr):ATr:=λρ μ Q=>a ρ μ λx μ1=>match x with
 | .tup ds=>Q ds μ1
 | _=>False
def ILs (a:ETr):ATr:=λρ μ Q=>a ρ μ λx μ1=>match x with
 | .ls ds=>Q ds μ1
 | _=>False
theorem oa {rp rpos:Pos}(hg:Gl X "range")(hm:X.mg "range" = none)(ha:LE X a Ta)(hs:M6 [a] X.env=[(false,N1 a X.env)]:=by rfl):LI X tg (.Call (.Name "range" rp) [a] [] rpos) (eU Ta):=by
 obtain ⟨ta,pa,sa⟩:=ha.ex
 refine ⟨_,xJ hg hm (kd pa qI hs) hs,λσ H ρ μ Q R rl h k=>sa σ H ρ μ _ _ rl h λx H1 d μ1 t1 m1 p1 h1=>?_⟩
 cases p1 with
 | int j=>
  obtain ⟨⟨h2,h3⟩,h4⟩:=h1
  exact ⟨j,rfl,by simpa using h2,by simpa using h3,k _ H1 _ μ1 t1 m1 (Cd 0 _) h4⟩
 | _=>exact MR h1
theorem JF {t1:TS}{T1:STr}{g:TG}{E:En}{E':Ends}{K:ML}{H0 H1:Hp}{J:It}{ds:List D}(sg:GI K g G)(s1:Dg K t1 T1)(k:Co K H0 E E')(Y:zG K J H1 ds){σ:L2.St}{ρ:ST}{μ:Mu}(t0:Tk H0 H1)(rl:Rl K σ H1 ρ μ)(h:forR G T1 E ds ρ μ) :
  ∃ W:Nat->Nat->L2.St->Hp->Prop,(∃ m,W 0 m σ H1)/\∀ i m σ H,W i m σ H->
   (J.stop i H/\E'.nx σ H)∨(J.go i H/\∃ N:L2.St->Hp->Prop,(∀ σ' H',N σ' H'->∃ m',m' < m/\W (i+1) m' σ' H')/\∀ x H',J.yld i H x H'->g x σ H' λσ2 H2=>t1 { E' with nx:=N,ct:=N,bk:=E'.nx } σ2 H2):=by
 refine ⟨λi m σ' H'=>m=ds.length - i/\i<=ds.length/\Tk H1 H'/\∃ ρ' μ',Rl K σ' H' ρ' μ'/\forR G T1 E (ds.drop i) ρ' μ',⟨ds.length,by simp,N0 _,.refl _,ρ,μ,rl,by simpa using h⟩,?_⟩
 rintro i m σ1 H2 ⟨rfl,hi,t12,ρ1,μ1,r1,h1⟩
 by_cases hlt:i < ds.length
 ·refine .inr ⟨Y.go i H2 t12 hlt,λσ' H'=>Tk H1 H'/\∃ ρ' μ',Rl K σ' H' ρ' μ'/\forR G T1 E (ds.drop (i+1)) ρ' μ',λσ' H' ⟨t',ρ',μ',r',h'⟩=>⟨ds.length - (i+1),by omega,rfl,hlt,t',ρ',μ',r',h'⟩,λx H3 y=>?_⟩
  obtain ⟨t23,⟨d,ed,pd⟩,mk⟩:=Y.yld i H2 x H3 t12 hlt y
  have e:ds.drop i=d::ds.drop (i+1):=by
   refine (Ob hlt).trans ?_
   congr 1
   rw[MZ hlt] at ed
   exact Nl ed
  rw[e] at h1
  have t13:=t12.trans t23
  refine sg σ1 H3 ρ1 μ1 _ _ _ _ (r1.go t23 (mk _ r1.mu)) pd h1 λσ4 H4 ρ4 μ4 t4 r4 h4=>?_
  have t14:=t13.trans t4
  have t04:=t0.trans t14
  exact s1 σ4 H4 ρ4 μ4 _ _ r4 h4 ⟨λσ' H' ρ' μ' t' r' q=>⟨t14.trans t',ρ',μ',r',q⟩,(k.go t04).rt,(k.go t04).nx,λσ' H' ρ' μ' t' r' q=>⟨t14.trans t',ρ',μ',r',q⟩⟩
 ·have e:i=ds.length:=by omega
  subst e
  rw[P0] at h1
  exact .inl ⟨Y.stop _ H2 t12 (M0 _),k.nx _ _ _ _ (t0.trans t12) r1 h1⟩
theorem cA {body:List Stmt}{T1:STr}(hp:Ub (Nb X.prog X.w) X.A X.env X.xe)(hc:X.calm=true)(hi:LI X tg iter It')(hG:LG X tg G)(hb:LSs X body T1)(hf:∀ x,NS iter X.env x=pure x:=by intro _;rfl) :
  LS X (.For tg iter body [] pos) (fK It' G T1):=by
 obtain ⟨wi,pi,si⟩:=hi.ex
 obtain ⟨g,pg,sg⟩:=hG.ex
 obtain ⟨t1,p1,s1⟩:=hb.ex
 exact ⟨_,GN hp hc pi pg p1 hf,λσ H ρ μ E E' rl h k=>si σ H ρ μ _ _ rl h λJ H1 ds μ1 t1' m1 Y h1=>JF sg s1 k Y t1' (rl.go t1' m1) h1⟩
def oz (K:ML)(T:ETr):TE:=λσ H Q'=>∃ ρ μ Q,Rl K σ H ρ μ/\T ρ μ Q/\f6 K H Q Q'
def liftT (K:ML)(T:TTr):TT:=λσ H Q'=>∃ ρ μ Q,Rl K σ H ρ μ/\T ρ μ Q/\∀ b H' μ',Tk H H'->bw K H' μ'->Q b μ'->Q' b H'
abbrev FX (K:ML)(n:Nat)(σ:L2.St)(H:Hp)(k:ST->Mu->Prop)(k':L2.St->Hp->Prop):Prop:=∀ σ' H' ρ' μ',Tk H H'->Rl K σ' H' ρ' μ'->(σ'.length=σ.length/\∀ j,n<=j->σ'[j]? = σ[j]?)->k ρ' μ'->k' σ' H'
def oi (K:ML)(n:Nat)(G:GTr):TG:=λv σ H k'=>∃ ρ μ d k,Rl K σ H ρ μ/\Dp K H v d/\G d ρ μ k/\FX K n σ H k k'
theorem LE.pe (h:LE X e Te):PE X e (oz X.K Te):=by
 obtain ⟨t,p,s⟩:=h.ex
 exact λpins st σ H Q I ⟨ρ,μ,Q0,rl,hT,k⟩=>p pins st σ H Q I (s σ H ρ μ Q0 Q rl hT k)
structure yu (X:Cx) (ifs:List Nf) (Tt:TTr):Prop where
 pe:vy X ifs (liftT X.K Tt)
theorem dz:yu X [] j1:=⟨λpins s σ H Q I ⟨ρ,μ,Q0,rl,hT,k⟩=>Ep pins s σ H Q I (k true H μ (.refl H) rl.mu hT)⟩
theorem eR (h:LT X c Tt):yu X [c] Tt:=by
 obtain ⟨t,p,s⟩:=h.ex
 exact ⟨λpins st σ H Q I ⟨ρ,μ,Q0,rl,hT,k⟩=>ES p pins st σ H Q I (s σ H ρ μ Q0 Q rl hT k)⟩
structure LGc (X:Cx) (n:Nat) (tg:Nf) (G:GTr):Prop where
 pe:PG X tg (oi X.K n G)
theorem bx {x:Str}{n:Nat}(i:Nat)(hN:X.N.Nodup)(hin:i < n:=by decide)(hi:X.N[i]? = some x:=by rfl)(hx:Loc X.env.scope x:=by first | exact QK rfl | exact PZ rfl)(hf:X.fn x=true∨X.env.scope.names.lookup x=some .local:=by first | exact .inr rfl | exact .inl rfl | assumption):LGc X n (.Name x pos) (aw i):=
 ⟨λpins s σ H v u k' I r ⟨ρ,μ,d,k,rl,p,h,post⟩=>gj hN hi hx hf pins s σ H v u k' I r (post _ H _ μ (.refl H) (rl.set p i) ⟨by simp,λj hj=>by rw[OG (by omega)]⟩ h)⟩
theorem qJ {K:ML}{σ:L2.St}{H:Hp}{ρ:ST}{μ:Mu}(rl:Rl K σ H ρ μ)(n:Nat)(caps:List Nat):Rl K (hU σ n caps) H (fu ρ n caps) μ:=by
 refine ⟨by unfold hU fu;simp,λi d e=>?_,rl.mu⟩
 have gen:∀ (n i:Nat),lk (N8 n none++caps.map (lk ρ)) i=some d->∃ j,i=n+j/\∃ k,caps[j]? = some k/\lk ρ k=some d:=by
  intro n
  induction n with
  | zero=>
   intro i h
   have h':lk (caps.map (lk ρ)) i=some d:=by simpa using h
   have g2:∀ (cs:List Nat) (i:Nat),lk (cs.map (lk ρ)) i=some d->∃ k,cs[i]? = some k/\lk ρ k=some d:=by
    intro cs
    induction cs with
    | nil=>intro i h;cases i<;>cases h
    | cons c r ih=>intro i h;cases i with
     | zero=>exact ⟨c,rfl,h⟩
     | succ i=>simpa using ih i h
   exact ⟨i,by omega,g2 caps i h'⟩
  | succ n ih=>
   intro i h
   cases i with
   | zero=>cases h
   | succ i=>
    obtain ⟨j,rfl,k,h1,h2⟩:=ih i h
    exact ⟨j,by omega,k,h1,h2⟩
 obtain ⟨j,rfl,k,h1,h2⟩:=gen n i e
 obtain ⟨v,h3,h4⟩:=rl.loc k d h2
 refine ⟨v,?_,h4⟩
 unfold hU
 rw[Ow (by simp)]
 simp[h1,h3]
theorem DX {ifs:List Nf}{scope:Scope}{Nc:List Str}{n:Nat}{caps:List Nat}(hxe:X.xe=λ_ _=>False)(hcalm:X.calm=true)(hi:LI X tg iter It')
  (hbody:∀ (cl:List (Str×Addr)) (C:Addr) (s₀:MQ) (H₀:Hp) (ex:List Addr),LGc (aX X scope Nc cl C s₀ H₀ ex) n tg G/\yu (aX X scope Nc cl C s₀ H₀ ex) ifs Tt/\LE (aX X scope Nc cl C s₀ H₀ ex) elt Te)
  (hfree:∀ y∈scope.names,y.2=.free->X.env.kindOf y.1=some .cell) (hcell:∀ y∈scope.names,y.2≠.cell) (eF:scope.kind=.function)
  (hnames:∀ y∈scope.names,y.2=.local->scope.names.lookup y.1=some .local) (hlen:Nc.length=n+caps.length)
  (hcap:∀ (j k:Nat),caps[j]? = some k->∃ x,Nc[n+j]? = some x/\X.N[k]? = some x/\scope.names.lookup x=some .free)
  (hs:∀ x,NS iter X.env x=pure x:=by intro _;rfl) :
  LE X (.ListComp elt [⟨tg,iter,ifs,0⟩] scope pos) (bS It' G Tt Te n caps):=by
 obtain ⟨wi,pi,si⟩:=hi.ex
 refine ⟨_,mq (Di (g:=oi X.K n G) (tt:=liftT X.K Tt) (te:=oz X.K Te) hxe hcalm pi (λcl C s₀ H₀ ex=>let ⟨h1,h2,h3⟩:=hbody cl C s₀ H₀ ex;⟨h1.pe,h2.pe,h3.pe⟩) hfree hcell eF hnames hlen hcap hs),?_⟩
 intro σ H ρ μ Q Q' rl h k
 refine si σ H ρ μ _ _ rl h λJ H1 ds μ1 t1 m1 Y h1 D hD=>?_
 have hp:=h1 D (m1.free hD)
 have tD:Tk H1 (L2.upd H1 D (.lst [])):=.new hD
 have mD:bw X.K (L2.upd H1 D (.lst [])) (up μ1 D (.lst [])):=λa o e=>by
  by_cases ha:a=D
  ·subst ha
   rw[aA] at e;cases e
   exact ⟨[],aC,.nil⟩
  ·rw[aT ha] at e
   exact bQ m1 hD a o e
 refine ⟨λi m ys H2=>m=ds.length - i/\i<=ds.length/\Tk H1 H2/\∃ μ2,bw X.K H2 μ2/\fO D G Tt Te (fu ρ n caps) (λμ'=>kL μ' D λzs=>Q (.ls zs) (dn μ' D)) (ds.drop i) μ2,
  ⟨ds.length,by simp,N0 _,tD,_,mD,by simpa using hp⟩,?_⟩
 rintro i m ys H2 ⟨rfl,hi,t12,μ2,m2,h2⟩
 by_cases hlt:i < ds.length
 ·refine .inr ⟨Y.go i H2 t12 hlt,λys' H'=>Tk H1 H'/\∃ μ',bw X.K H' μ'/\fO D G Tt Te (fu ρ n caps) (λμ'=>kL μ' D λzs=>Q (.ls zs) (dn μ' D)) (ds.drop (i+1)) μ',λys' H' ⟨t',μ',m',h'⟩=>⟨ds.length - (i+1),by omega,rfl,hlt,t',μ',m',h'⟩,λx H3 y=>?_⟩
  obtain ⟨t23,⟨d,ed,pd⟩,mk⟩:=Y.yld i H2 x H3 t12 hlt y
  have e:ds.drop i=d::ds.drop (i+1):=by
   refine (Ob hlt).trans ?_
   congr 1
   rw[MZ hlt] at ed
   exact Nl ed
  rw[e] at h2
  have t13:=t12.trans t23
  have r3:Rl X.K (hU σ n caps) H3 (fu ρ n caps) μ2:=qJ (rl.go (t1.trans t13) (mk _ m2)) n caps
  refine ⟨_,_,d,_,r3,pd,h2,λσ4 H4 ρ4 μ4 t4 r4 kp h4=>⟨⟨kp.1.symm,λj v ej=>?_⟩,_,_,_,r4,h4,λb H5 μ5 t5 m5 h5=>?_⟩⟩
  ·by_cases hj:n<=j
   ·rw[kp.2 j hj];exact ej
   ·obtain ⟨j',k',e1,_⟩:=iz ej
    omega
  ·have t15:=t13.trans (t4.trans t5)
   cases b with
   | false=>exact qF ⟨t15,μ5,m5,h5⟩
   | true=>
    refine pN ⟨_,_,_,r4.go t5 m5,h5,λv H6 d6 μ6 t6 m6 p6 h6=>?_⟩
    obtain ⟨zs,ez,lz,h7⟩:=bE h6
    obtain ⟨xs,ex,lx⟩:=m6 D _ ez
    have t67:Tk H6 (L2.upd H6 D (.lst (xs++[v]))):=.upd (λys z=>by rw[ex] at z;cases z) λo' u z=>by rw[ex] at z;cases z
    refine ⟨xs,ex,by rw[lx.length];exact M9 lz (by decide),(t15.trans t6).trans t67,up μ6 D (.lst (zs++[d6])),λa o ea=>?_,h7⟩
    by_cases ha:a=D
    ·subst ha
     rw[aA] at ea;cases ea
     exact ⟨_,aC,(lx.append (.cons p6 .nil)).mono t67⟩
    ·rw[aT ha] at ea
     exact (m6 a _ ea).ne t67 ha
 ·have e:i=ds.length:=by omega
  subst e
  rw[P0] at h2
  obtain ⟨zs,ez,hq⟩:=bE (show kL μ2 D λzs=>Q (.ls zs) (dn μ2 D) from h2)
  obtain ⟨xs,ex,lx⟩:=m2 D _ ez
  refine .inl ⟨Y.stop _ H2 t12 (M0 _),D,xs,rfl,ex,λo=>?_⟩
  have t2f:Tk H2 (L2.upd H2 D (.frz o (.lst xs))):=.upd (λys z=>by rw[ex] at z;cases z) λo' u z=>by rw[ex] at z;cases z
  refine k _ _ _ (dn μ2 D) ((t1.trans t12).trans t2f) (λa o' ea=>?_) (.ls (.inl ⟨o,aC⟩) (lx.mono t2f)) hq
  have ha:a≠D:=λz=>by subst z;unfold dn at ea;rw[if_pos rfl] at ea;cases ea
  have ea':μ2 a=some o':=by unfold dn at ea;rw[if_neg ha] at ea;exact ea
  exact (m2 a _ ea').ne t2f ha
end
end
section
open PySem PySem.Spec PyProof.Rows L2
def ji (fn:List (Str×Qb))(XN:List Str)(sc:Scope)(Nc:List Str)(n:Nat)(caps:List Nat):Bool:=
 sc.names.all (λy=>(y.2 != .free || fn.lookup y.1 == some .cell)&&y.2 != .cell&&(y.2 != .local || sc.names.lookup y.1 == some .local))&&sc.kind == .function&&Nc.length == n+caps.length &&
 (OK caps.length).all λj=>match caps[j]? with
  | some k=>(match XN[k]? with
   | some x=>Nc[n+j]? == some x&&sc.names.lookup x == some .free
   | none=>false)
  | none=>false
section
variable {X:Cx} {tg a b c e elt iter:Nf} {Ta Tb Te:ETr} {Tt:TTr} {pos:Pos} {It':ATr} {G:GTr}
theorem bJ {ifs:List Nf}{scope fsc:Scope}(XN Nc:List Str)(n:Nat)(caps:List Nat)(hxe:X.xe=λ_ _=>False)(hcalm:X.calm=true)(hi:LI X tg iter It')
  (hbody:∀ (cl:List (Str×Addr)) (C:Addr) (s₀:MQ) (H₀:Hp) (ex:List Addr),LGc (aX X scope Nc cl C s₀ H₀ ex) n tg G/\yu (aX X scope Nc cl C s₀ H₀ ex) ifs Tt/\LE (aX X scope Nc cl C s₀ H₀ ex) elt Te)
  (hsc:X.env.scope=fsc) (hXN:X.N=XN) (hok:ji fsc.names XN scope Nc n caps=true)
  (hs:∀ x,NS iter X.env x=pure x:=by intro _;rfl) :
  LE X (.ListComp elt [⟨tg,iter,ifs,0⟩] scope pos) (bS It' G Tt Te n caps):=by
 unfold ji at hok
 simp only[NI,P1] at hok
 obtain ⟨⟨⟨h1,h2⟩,h3⟩,h4⟩:=hok
 refine DX hxe hcalm hi hbody (λy hy hf=>?_) (λy hy hf=>?_) (by simpa using h2) (λy hy hf=>?_) (by simpa using h3) (λj k hj=>?_) hs
 ·have:=(h1 y hy).1.1
  show X.env.scope.names.lookup y.1=_
  rw[hsc]
  simpa[hf] using this
 ·have:=(h1 y hy).1.2
  simp[hf] at this
 ·have:=(h1 y hy).2
  simpa[hf] using this
 ·have hl:j < caps.length:=(Nm.mp hj).1
  have:=h4 j (QC.mpr hl)
  rw[hj] at this
  dsimp only at this
  rw[hXN]
  cases e:XN[k]? with
  | none=>rw[e] at this;cases this
  | some x=>
   rw[e] at this
   dsimp only at this
   rw[NI] at this
   exact ⟨x,by simpa using this.1,rfl,by simpa using this.2⟩
end
theorem jX:∀ {bs:List Bool} {us:List MN},Vals (bs.map V.bl) us->LSm.BoolsAre us bs
 | [],_,.nil=>.nil
 | b::r,_,.cons h t=>by
  cases (show _=S2 b from h)
  exact .cons b (jX t)
theorem xM {X:Cx}(hc:X.calm=true):bL X (.builtin "any") (λxs H Q=>∃ (p:Addr) (ys:List V) (bs:List Bool),xs=[.ref p]/\SqL X.K H p ys/\ys=bs.map V.bl/\Q (.bl (bs.any id)) H):=λpins s σ H xs us Q I rx ⟨p,ys,bs,e1,sq,e2,q⟩=>by
 subst e1 e2
 cases rx with | cons r1 r2=>
 cases r2
 cases (show _=Nr p from r1)
 obtain ⟨its,rv,pl,_⟩:=I.list sq
 have ils:s.heap.IsList p its.toArray:=by
  obtain ⟨o,n,h1,h2,_,h3⟩:=pl
  exact ⟨o,h1,h2,n,h3⟩
 have bls:=jX rv
 have hlt:p < s.heap.objs.size:=by obtain ⟨_,e,_⟩:=ils;exact M1 e
 refine call_any_walk (O8 ils ?_)
 refine ⟨s.heap.objs.size,[s.heap.objs.size,p],[s.heap.objs.size],its.toArray.size,_,_,λi=>(bs[i]?).getD false,rfl,Walks.list (A:=X.A.in1) (I.ok.hd hc) _ p (Na hlt) its.toArray,
  ⟨⟨_,MW _ rfl,rfl,rfl⟩,ils.push _⟩,λi v s' Q' E' gP gQ=>?_,λh' tk hk=>?_⟩
 ·obtain ⟨b,e,rfl⟩:=bls.get i v (by simpa using gP)
  simp only[e,Option.getD_some] at gQ
  exact OH gQ
 ·have e:((OK its.toArray.size).any λi=>(bs[i]?).getD false)=bs.any id:=by
   rw[M5,bls.length];exact LSm.range_any bs
  rw[e]
  exact ⟨.bl _,H,I.kept (LSm.kept_iter hk),rfl,q⟩
theorem DpL.bools {K:ML}{H:Hp}:∀ {xs:List V} {bs:List Bool},DpL K H xs (bs.map .bl)->xs=bs.map V.bl
 | _,[],.nil=>rfl
 | _,b::r,.cons h l=>by cases h;rw[DpL.bools l];rfl
theorem EL {K:ML}:nR K (λxs H Q=>∃ (p:Addr) (ys:List V) (bs:List Bool),xs=[.ref p]/\SqL K H p ys/\ys=bs.map V.bl/\Q (.bl (bs.any id)) H) G2:=λH μ xs ds Q Q' m p h k=>by
 unfold G2 at h
 split at h
 ·obtain ⟨bs,rfl,h⟩:=h
  cases p with | cons p1 p2=>cases p2;cases p1 with | ls q l=>exact ⟨_,_,bs,rfl,q.sq,l.bools,k _ H _ μ (.refl H) m (.bl _) h⟩
 ·exact h.elim
end
section
open PySem PySem.Spec PyProof.Rows L2
def GV (K:ML)(mg:Str->Option MN)(x:Str)(d:D):Prop:=∃ u v,mg x=some u/\RelV v u/\∀ H,Dp K H v d
theorem bc {X:Cx}{x:Str}{pos:Pos}{d:D}(hg:Gl X x)(h:GV X.K X.mg x d)(hd:(x == ("__debug__" : Str))=false:=by decide):LE X (.Name x pos) (TC d):=by
 obtain ⟨u,v,hm,r,p⟩:=h
 exact ⟨_,Ez hg hm r hd,λσ H ρ μ Q Q' rl h k=>k v H d μ (.refl H) rl.mu (p H) h⟩
section
variable {K:ML} {h:Heap} {mg:Str->Option MN} {x:Str}
theorem fH {i:Int}{t:Tok}(X:K.In h)(G:h.Ns N4 mg)(a:Vf K N4 x=some (some (.int i t))):GV K mg x (.int i):=⟨_,.int i,U3 X G a,⟨t,rfl⟩,λ_=>.int i⟩
theorem GU {p:Addr}{o:Obj}{its:Array MN}{n:Nat}{xs:List V}{ds:List D}(X:K.In h)(G:h.Ns N4 mg)(a:Vf K N4 x=some (some (.ref p)))(l:K.lookup p=some o)(c:o.cls=.type "tuple")(dn:o.dict=none)(d:o.data=.seq its n)
  (z:its.size<=sizeLine) (r:Vals xs its.toList) (q:∀ H,DpL K H xs ds):GV K mg x (.tup ds):=⟨_,.ref p,U3 X G a,rfl,λH=>.tup (.inr ⟨o,its,n,l,c,dn,d,z,r⟩) (q H)⟩
end
def fV:ST->List Nat->List D->ST
 | ρ,i::is,d::ds=>fV (ρ.set i (some d)) is ds
 | ρ,_,_=>ρ
def dR (is:List Nat):GTr:=λd ρ μ k=>match d with
 | .tup ds=>ds.length=is.length/\k (fV ρ is ds) μ
 | _=>False
def Kp (K:ML)(t:TGs)(is:List Nat):Prop:=∀ σ H ρ μ vs ds (k:ST->Mu->Prop) (k':L2.St->Hp->Prop),Rl K σ H ρ μ->DpL K H vs ds->ds.length=is.length->k (fV ρ is ds) μ->sL K H k k'->t vs σ H k'
structure LGs (X:Cx) (es:List Nf) (is:List Nat):Prop where
 ex:∃ t,PGs X es t/\Kp X.K t is
section
variable {X:Cx} {e tg:Nf} {es:List Nf} {is:List Nat} {pos:Pos} {x:Str} {Ta:ETr} {G:GTr}
theorem gf:LGs X [] []:=⟨_,xF,λσ H ρ μ vs ds k k' rl l hl h q=>by
 cases ds with
 | nil=>cases l;exact ⟨rfl,q _ _ _ _ (.refl H) rl h⟩
 | cons=>cases hl⟩
theorem aW (i:Nat)(hN:X.N.Nodup)(h2:LGs X es is)(hi:X.N[i]? = some x:=by rfl)(hx:Loc X.env.scope x:=by first | exact QK rfl | exact PZ rfl)(hf:X.fn x=true∨X.env.scope.names.lookup x=some .local:=by first | exact .inl rfl | exact .inr rfl | assumption)
  (hs:(N3 (.Name x pos::es) X.env).map (·.2)=QE (.Name x pos) X.env::(N3 es X.env).map (·.2):=by rfl):LGs X (.Name x pos::es) (i::is):=by
 obtain ⟨t,pt,st⟩:=h2.ex
 refine ⟨_,tq (gj hN hi hx hf) pt hs,λσ H ρ μ vs ds k k' rl l hl h q=>?_⟩
 cases l with
 | nil=>cases hl
 | @cons v d vs ds p l=>exact ⟨v,vs,rfl,st _ H _ μ vs ds k k' (rl.set p i) l (by simpa using hl) h q⟩
theorem ju {k:Nat}(hc:X.calm=true)(h:LGs X es is)(hn:(N3 es X.env).length=is.length:=by rfl)(hst:(N3 es X.env).findIdx? (·.1)=none:=by rfl):LG X (.Tuple es k pos) (dR is):=by
 obtain ⟨t,pt,st⟩:=h.ex
 refine ⟨_,BV hc pt hn hst,λσ H ρ μ v d k k' rl p h q=>?_⟩
 cases p with
 | @tup a xs ds sq l=>exact ⟨a,xs,rfl,sq,by rw[l.length];exact h.1,st σ H ρ μ xs ds k k' rl l h.1 h.2 q⟩
 | _=>exact MR h
theorem Js (he:LE X e Ta)(hG:LG X tg G)(hs:P7 [tg] e pos.line X.env=pure false:=by rfl)(hw:P8 [tg] e X.env=pure none:=by rfl)
  (h1:(N3 [tg] X.env).map (·.2)=[QE tg X.env]:=by rfl):LS X (.Assign [tg] e pos) (aQ Ta G):=by
 obtain ⟨ta,pa,sa⟩:=he.ex
 obtain ⟨g,pg,sg⟩:=hG.ex
 exact ⟨_,zB pa pg hs hw h1,λσ H ρ μ E E' rl h k=>sa σ H ρ μ _ _ rl h λv H' d μ' t' m' p' h'=>sg σ H' ρ μ' v d _ _ (rl.go t' m') p' h' (k.go t').nx⟩
end
end
section
open PySem PySem.Spec PyProof.Rows L2
def eL (tp:Bool)(h:Heap)(it a:Addr)(i:Nat):Prop:=match tp with
 | true=>h.IsTupleIter it a i
 | false=>h.IsListIter it a i
def cI (tp:Bool)(h:Heap)(a:Addr)(xs:Array MN):Prop:=match tp with
 | true=>h.IsTuple a xs
 | false=>h.IsList a xs
theorem eL.at {tp:Bool}{h g:Heap}{it a:Addr}{i:Nat}(x:eL tp h it a i)(k:∀ o,h.get? it=some o->g.get? it=some o):eL tp g it a i:=by
 cases tp with
 | true=>obtain ⟨o,e,r⟩:=x;exact ⟨o,k o e,r⟩
 | false=>obtain ⟨o,e,r⟩:=x;exact ⟨o,k o e,r⟩
theorem cI.at {tp:Bool}{h g:Heap}{a:Addr}{xs:Array MN}(x:cI tp h a xs)(k:∀ o,h.get? a=some o->g.get? a=some o):cI tp g a xs:=by
 cases tp with
 | true=>obtain ⟨o,e,r⟩:=x;exact ⟨o,k o e,r⟩
 | false=>obtain ⟨o,e,r⟩:=x;exact ⟨o,k o e,r⟩
theorem eL.ex {tp:Bool}{h:Heap}{it a:Addr}{i:Nat}(x:eL tp h it a i):∃ o,h.get? it=some o/\∃ vs,o.data=.fields vs:=by
 cases tp with
 | true=>obtain ⟨o,e,_,d⟩:=x;exact ⟨o,e,_,d⟩
 | false=>obtain ⟨o,e,_,d⟩:=x;exact ⟨o,e,_,d⟩
section
variable {prog:Nh} {w:Nw} {A:NH} {E:MN->MQ->Prop} {s:MQ}
theorem Bn {it t:Addr}{i:Nat}{xs:Array MN}{x:MN}{Q:MN->MQ->Prop}(hi:s.heap.IsTupleIter it t i)(ht:s.heap.IsTuple t xs)(hx:xs[i]? = some x)
  (k:∀ g,g.IsTupleIter it t (i+1)->OV it s.heap g->Q x { s with heap:=g }):M4 (Nb prog w) A (Nn (.ref it)) Q E s:=by
 obtain ⟨ob,gb,cb,db⟩:=id hi
 obtain ⟨ot,gt,_,nt,dt⟩:=ht
 delta Nn
 refine MM (Nx (name:=MK "__next__") hi.typeIs Ox (NQ Ox hi.typeIs Qx ?_ (Ql _)))
 refine MM (m:=Sh (.ref it) 0) (Nu gb db (x:=.ref t) rfl ?_)
 refine (show M4 _ _ (if (Nr t == O9)=true then _ else _) _ _ s from ?_)
 rw[if_neg (show ¬ ((Nr t == O9)=true) by intro z;cases z)]
 refine MM (m:=Sh (.ref it) 1) (Nu gb db (x:=.int i 0) rfl ?_)
 refine MM (m:=seqItems? (.ref t)) (Oi gt dt ?_)
 simp only[hx,QZ]
 refine MM (PL gb db (by simp) (wpAny_pure ⟨x,rfl,wpAny_pure (k _ ⟨_,O5 _ gb (PV (Oy db _)),(TN ..).trans cb,?_⟩ (Qr ..))⟩))
 rw[Oy db];simp[OQ]
theorem kb {tp:Bool}{it a:Addr}{i:Nat}{xs:Array MN}{x:MN}{Q:MN->MQ->Prop}(hi:eL tp s.heap it a i)(hs:cI tp s.heap a xs)(hx:xs[i]? = some x)
  (k:∀ g,eL tp g it a (i+1)->OV it s.heap g->Q x { s with heap:=g }):M4 (Nb prog w) A (Nn (.ref it)) Q E s:=by
 cases tp with
 | true=>exact Bn hi hs hx k
 | false=>exact wpAny_nextOf_list_item hi hs hx k
theorem D1 {it t:Addr}{i:Nat}{xs:Array MN}{Q:MN->MQ->Prop}(hh:A.handled=none)(hi:s.heap.IsTupleIter it t i)(ht:s.heap.IsTuple t xs)(hx:xs[i]? = none)
  (k:∀ g e,Si it s.heap g->(∃ o,g.get? e=some o/\o.cls=.type "StopIteration")->E (.ref e) { s with heap:=g }):M4 (Nb prog w) A (Nn (.ref it)) Q E s:=by
 obtain ⟨ob,gb,cb,db⟩:=id hi
 obtain ⟨ot,gt,_,nt,dt⟩:=ht
 delta Nn
 refine MM (Nx (name:=MK "__next__") hi.typeIs Ox (NQ Ox hi.typeIs Qx ?_ (Ql _)))
 refine MM (m:=Sh (.ref it) 0) (Nu gb db (x:=.ref t) rfl ?_)
 refine (show M4 _ _ (if (Nr t == O9)=true then _ else _) _ _ s from ?_)
 rw[if_neg (show ¬ ((Nr t == O9)=true) by intro z;cases z)]
 refine MM (m:=Sh (.ref it) 1) (Nu gb db (x:=.int i 0) rfl ?_)
 refine MM (m:=seqItems? (.ref t)) (Oi gt dt ?_)
 simp only[hx,QZ]
 refine MM (OW (MM (PL gb db (by simp) (MM (m:=newExc (.type "StopIteration") []) ?_))))
 simp only[newExc,newTuple]
 refine MM (NJ (MM (m:=Sj _ _) (Pb (a:=O9) (by first | rfl | (simp only[Sj];rfl)) (NJ ?_ (by size_fits)))) (by size_fits))
 simp only[raiseNew]
 refine MM <| wpAny_handled ?_
 rw[(show A.in1.handled=none from hh)]
 exact MM (wpAny_pure (wpAny_throw (k _ _ (((Qr ..).extBut.push _).push _) ⟨_,MW _ rfl,rfl⟩)))
theorem u6 {tp:Bool}{it a:Addr}{i:Nat}{xs:Array MN}{Q:MN->MQ->Prop}(hh:A.handled=none)(hi:eL tp s.heap it a i)(hs:cI tp s.heap a xs)(hx:xs[i]? = none)
  (k:∀ g e,Si it s.heap g->(∃ o,g.get? e=some o/\o.cls=.type "StopIteration")->E (.ref e) { s with heap:=g }):M4 (Nb prog w) A (Nn (.ref it)) Q E s:=by
 cases tp with
 | true=>exact D1 hh hi hs hx k
 | false=>exact wpAny_nextOf_list_end hh hi hs hx k
structure Zp (z ti to i j a b:Addr):Prop where
 nd:[z,ti,to,i,j].Nodup
 na:a ∉ [z,to,i,j]
 nb:b ∉ [z,to,i,j]
structure ZAt (ta tb:Bool) (h:Heap) (z ti to i j a b:Addr) (k:Nat):Prop where
 zz:OI h z ti to .none
 zt:N9 h ti (.ref i) (.ref j)
 zo:∃ u v,N9 h to u v
 zi:eL ta h i a k
 zj:eL tb h j b k
theorem yU {ta tb:Bool}{z ti to i j a b:Addr}{k:Nat}{xs ys:Array MN}{x y:MN}{Q:Option MN->MQ->Prop}(Z:Zp z ti to i j a b)(S:ZAt ta tb s.heap z ti to i j a b k)(ha:cI ta s.heap a xs)(hb:cI tb s.heap b ys)(hx:xs[k]? = some x)(hy:ys[k]? = some y)
  (q:∀ g,OI g z ti to (OQ s.heap.objs.size)->N9 g ti (.ref i) (.ref j)->N9 g to x y->eL ta g i a (k+1)->eL tb g j b (k+1)->N9 g s.heap.objs.size x y->
   (∀ c o,c≠z->c≠to->c≠i->c≠j->s.heap.get? c=some o->g.get? c=some o)->Q (some (.ref s.heap.objs.size)) { s with heap:=g }):M4 (Nb prog w) A (Pk (.ref z)) Q E s:=by
 obtain ⟨zz,zt,⟨u,v,zo⟩,zi,zj⟩:=S
 obtain ⟨nd,na,nb⟩:=Z
 simp only[NB,MY,Ny,or_false,not_or] at nd na nb
 obtain ⟨⟨n1,n2,n3,n4⟩,⟨n5,n6,n7⟩,⟨n8,n9⟩,n10,_⟩:=nd
 obtain ⟨a1,a2,a3,a4⟩:=na
 obtain ⟨b1,b2,b3,b4⟩:=nb
 have hT:s.TypeIs (.ref z) "zip" := ⟨_,zz,rfl⟩
 unfold Pk
 refine MM (O4 (Nx (name:=MK "__next__") hT Qm (NQ Qm hT Uh ?_ (TQ _))))
 refine MM (m:=Sh (.ref z) 2) (Nu zz rfl (x:=.bool false) rfl ?_)
 refine MM (m:=Sh (.ref z) 3) (Nu zz rfl (x:=.ref ti) rfl (MM (Oi zt rfl (MM (m:=Nz (.ref z)) ?_))))
 delta Nz
 refine MM (Nu zz rfl (x:=.none) rfl (wpAny_pure ?_))
 simp only[if_true]
 refine MM (OW (MM (Nu zz rfl (x:=.ref to) rfl (MM (ND zz (by simp) λg1 zz1 k1=>MM ?_)))))
 have zz1:OI g1 z ti to .ellipsis:=zz1
 simp only[Uz,Ui,UT,Qk]
 refine MM (MM (Rb (MM (m:=Nn (.ref i)) (kb (s:={ s with heap:=g1 }) (zi.at λo e=>(k1.2 i (Np n3)).trans e) (ha.at λo e=>(k1.2 a a1).trans e) hx λg2 zi2 k2=>wpAny_pure ?_))))
 have zo2:N9 g2 to u v:=(k2.2 to n8).trans ((k1.2 to (Np n2)).trans zo)
 refine MM (Oi zo2 rfl (MM (Pc zo2 λg3 zo3 k3=>MM (Sk (wpAny_pure ?_)))))
 have zo3:N9 g3 to x v:=zo3
 refine MM (MM (Rb (MM (m:=Nn (.ref j)) (kb (s:={ s with heap:=g3 }) (zj.at λo e=>(k3.2 j (Np n9)).trans ((k2.2 j (Np n10)).trans ((k1.2 j (Np n4)).trans e)))
  (hb.at λo e=>(k3.2 b b2).trans ((k2.2 b b3).trans ((k1.2 b b1).trans e))) hy λg4 zj4 k4=>wpAny_pure ?_))))
 have zo4:N9 g4 to x v:=(k4.2 to n9).trans zo3
 refine MM (Oi zo4 rfl (MM (Pc zo4 λg5 zo5 k5=>MM (Sk (wpAny_pure (wpAny_pure ?_))))))
 have zo5:N9 g5 to x y:=zo5
 refine MM (Oi zo5 rfl (MM (wpAny_newTuple (MM (m:=NY (.ref z) (.ref g5.objs.size)) ?_))))
 have sz:g5.objs.size=s.heap.objs.size:=by rw[k5.1,k4.1,k3.1,k2.1,k1.1]
 have zz5:OI g5 z ti to .ellipsis:=(k5.2 z n2).trans ((k4.2 z n4).trans ((k3.2 z n2).trans ((k2.2 z n3).trans zz1)))
 have zlt:z < g5.objs.size:=M1 zz5
 delta NY
 have zz6:OI (g5.push { cls:=.type "tuple", data:=.seq #[x,y] }) z ti to .ellipsis:=MP _ zz5
 refine MM (ND zz6 (by simp) λg7 zz7 k7=>?_)
 have zz7:OI g7 z ti to (OQ g5.objs.size):=zz7
 refine ND zz7 (by simp) λg8 zz8 k8=>wpAny_pure ⟨_,rfl,wpAny_pure ?_⟩
 have up5:∀ c o,c≠z->g5.get? c=some o->g8.get? c=some o:=λc o c1 e=>(k8.2 c c1).trans ((k7.2 c c1).trans (MP _ e))
 have JN:N9 g8 g5.objs.size x y:=(k8.2 _ (OX zlt)).trans ((k7.2 _ (OX zlt)).trans (MW _ rfl))
 have zz8:OI g8 z ti to (OQ g5.objs.size):=zz8
 rw[sz] at zz8 JN
 have all:∀ c o,c≠z->c≠to->c≠i->c≠j->s.heap.get? c=some o->g8.get? c=some o:=λc o c1 c2 c3 c4 e=>up5 c o c1 ((k5.2 c c2).trans ((k4.2 c c4).trans ((k3.2 c c2).trans ((k2.2 c c3).trans ((k1.2 c c1).trans e)))))
 have fin:=q g8 zz8 (all ti _ (Np n1) n5 n6 n7 zt) (up5 to _ (Np n2) zo5) (zi2.at λo e=>up5 i o (Np n3) ((k5.2 i (Np n8)).trans ((k4.2 i n10).trans ((k3.2 i (Np n8)).trans e)))) (zj4.at λo e=>up5 j o (Np n4) ((k5.2 j (Np n9)).trans e)) JN all
 rw[← sz] at fin
 exact fin
theorem AZ {ta tb:Bool}{z ti to i j a b:Addr}{k:Nat}{xs ys:Array MN}{Q:Option MN->MQ->Prop}(hh:A.handled=none)(Z:Zp z ti to i j a b)(S:ZAt ta tb s.heap z ti to i j a b k)(ha:cI ta s.heap a xs)(hb:cI tb s.heap b ys)(he:xs[k]? = none∨ys[k]? = none)
  (q:∀ g,(∀ c o,c≠z->c≠to->c≠i->c≠j->s.heap.get? c=some o->g.get? c=some o)->Q none { s with heap:=g }):M4 (Nb prog w) A (Pk (.ref z)) Q E s:=by
 obtain ⟨zz,zt,⟨u,v,zo⟩,zi,zj⟩:=S
 obtain ⟨nd,na,nb⟩:=Z
 simp only[NB,MY,Ny,or_false,not_or] at nd na nb
 obtain ⟨⟨n1,n2,n3,n4⟩,⟨n5,n6,n7⟩,⟨n8,n9⟩,n10,_⟩:=nd
 obtain ⟨a1,a2,a3,a4⟩:=na
 obtain ⟨b1,b2,b3,b4⟩:=nb
 have hT:s.TypeIs (.ref z) "zip" := ⟨_,zz,rfl⟩
 have stop:∀ g e,(∃ o,g.get? e=some o/\o.cls=.type "StopIteration")->(∀ c o,c≠z->c≠to->c≠i->c≠j->s.heap.get? c=some o->g.get? c=some o)->
   M4 (Nb prog w) A (isInstance (.ref e) (.type "StopIteration") >>= λy=>if y=true then pure none else throw (.ref e)) Q E { s with heap:=g }:=λg e ⟨o,ho,hc⟩ al=>by
  refine MM <| wpAny_isInstance (T := "StopIteration") (b:=true) ⟨o,ho,hc⟩ Sl ?_
  exact wpAny_pure (q g al)
 unfold Pk
 refine MM (O4 (Nx (name:=MK "__next__") hT Qm (NQ Qm hT Uh ?_ (TQ _))))
 refine MM (m:=Sh (.ref z) 2) (Nu zz rfl (x:=.bool false) rfl ?_)
 refine MM (m:=Sh (.ref z) 3) (Nu zz rfl (x:=.ref ti) rfl (MM (Oi zt rfl (MM (m:=Nz (.ref z)) ?_))))
 delta Nz
 refine MM (Nu zz rfl (x:=.none) rfl (wpAny_pure ?_))
 simp only[if_true]
 refine MM (OW (MM (Nu zz rfl (x:=.ref to) rfl (MM (ND zz (by simp) λg1 zz1 k1=>MM ?_)))))
 have zz1:OI g1 z ti to .ellipsis:=zz1
 simp only[Uz,Ui,UT,Qk]
 have zi1:eL ta g1 i a k:=zi.at λo e=>(k1.2 i (Np n3)).trans e
 have ha1:cI ta g1 a xs:=ha.at λo e=>(k1.2 a a1).trans e
 refine MM (MM (Rb (MM (m:=Nn (.ref i)) ?_)))
 cases hx:xs[k]? with
 | none=>
  refine u6 (s:={ s with heap:=g1 }) hh zi1 ha1 hx λg2 e k2 he2=>?_
  obtain ⟨oe,ge,ce⟩:=he2
  have zz2:OI g2 z ti to .ellipsis:=k2 z _ n3 zz1
  have ez:e≠z:=λy=>by subst y;rw[zz2] at ge;cases ge;simp at ce
  refine ND zz2 (by simp) λg3 _ k3=>stop g3 e ⟨oe,(k3.2 e ez).trans ge,ce⟩ λc o c1 _ c3 _ y=>(k3.2 c c1).trans (k2 c o c3 ((k1.2 c c1).trans y))
 | some x=>
  have hy:ys[k]? = none:=by rcases he with h | h;rw[hx] at h;cases h;exact h
  refine kb (s:={ s with heap:=g1 }) zi1 ha1 hx λg2 zi2 k2=>wpAny_pure ?_
  have zo2:N9 g2 to u v:=(k2.2 to n8).trans ((k1.2 to (Np n2)).trans zo)
  refine MM (Oi zo2 rfl (MM (Pc zo2 λg3 zo3 k3=>MM (Sk (wpAny_pure ?_)))))
  refine MM (MM (Rb (MM (m:=Nn (.ref j)) (u6 (s:={ s with heap:=g3 }) hh (zj.at λo e=>(k3.2 j (Np n9)).trans ((k2.2 j (Np n10)).trans ((k1.2 j (Np n4)).trans e)))
   (hb.at λo e=>(k3.2 b b2).trans ((k2.2 b b3).trans ((k1.2 b b1).trans e))) hy λg4 e k4 he4=>?_))))
  obtain ⟨oe,ge,ce⟩:=he4
  have zz4:OI g4 z ti to .ellipsis:=k4 z _ n4 ((k3.2 z n2).trans ((k2.2 z n3).trans zz1))
  have ez:e≠z:=λy=>by subst y;rw[zz4] at ge;cases ge;simp at ce
  refine ND zz4 (by simp) λg5 _ k5=>stop g5 e ⟨oe,(k5.2 e ez).trans ge,ce⟩ λc o c1 c2 c3 c4 y=>(k5.2 c c1).trans (k4 c o c4 ((k3.2 c c2).trans ((k2.2 c c3).trans ((k1.2 c c1).trans y))))
abbrev itO (tp:Bool)(a:Addr):Obj:={ cls:=.type (match tp with | true => "tuple_iterator" | false => "list_iterator"),data:=.fields #[.ref a,.int 0 0] }
theorem EH {tp:Bool}{a:Addr}{xs:Array MN}{Q:MN->MQ->Prop}(h:cI tp s.heap a xs)(q:Q (.ref s.heap.objs.size) { s with heap:=s.heap.push (itO tp a) }):M4 (Nb prog w) A (pyIter (.ref a)) Q E s:=by
 cases tp with
 | true=>exact S9 h q
 | false=>exact O8 h q
abbrev zg1 (ta:Bool)(h:Heap)(a:Addr):Heap:=h.push (itO ta a)
abbrev zg2 (ta tb:Bool)(h:Heap)(a b:Addr):Heap:=(zg1 ta h a).push (itO tb b)
abbrev zg3 (ta tb:Bool)(h:Heap)(a b:Addr):Heap:=(zg2 ta tb h a b).push { cls:=.type "tuple", data:=.seq #[.ref h.objs.size,.ref (zg1 ta h a).objs.size] }
abbrev zg4 (ta tb:Bool)(h:Heap)(a b:Addr):Heap:=(zg3 ta tb h a b).push { cls:=.type "tuple", data:=.seq #[.none,.none] }
abbrev zg5 (ta tb:Bool)(h:Heap)(a b:Addr):Heap:=(zg4 ta tb h a b).push { cls:=.type "zip", data:=.fields #[.none,.bool false,.bool false,.ref (zg2 ta tb h a b).objs.size,.ref (zg3 ta tb h a b).objs.size] }
theorem A2 (ta tb:Bool)(a b:Addr)(xs ys:Array MN):Meets (Qy.«zip.__new__» ⟨[.type "zip", .ref a,.ref b],[]⟩) (λ_ R s=>cI ta s.heap a xs/\cI tb s.heap b ys/\R (.ok (.ret (.ref (zg4 ta tb s.heap a b).objs.size))) { s with heap:=zg5 ta tb s.heap a b }):=
 .of_wp λprog w A R s h=>by
  rcases s with ⟨hp,g,d,tk,os⟩
  obtain ⟨h1,h2,h⟩:=h
  have hs0:=PySem.sub_zip
  have H1:cI ta (Ut ⟨hp,g,d,tk,os⟩) a xs:=h1
  have H2:cI tb (Ut ⟨hp.push (itO ta a),g,d,tk,os⟩) b ys:=cI.at h2 λo e=>MP _ e
  wp_walk using EH H1,EH H2
  exact ⟨_,rfl,h⟩
theorem yL {ta tb:Bool}{a b:Addr}{xs ys:Array MN}{Q:MN->MQ->Prop}(h1:cI ta s.heap a xs)(h2:cI tb s.heap b ys)
  (q:∀ g,ZAt ta tb g (s.heap.objs.size+4) (s.heap.objs.size+2) (s.heap.objs.size+3) s.heap.objs.size (s.heap.objs.size+1) a b 0->(∀ c o,s.heap.get? c=some o->g.get? c=some o)->Q (.ref (s.heap.objs.size+4)) { s with heap:=g }) :
  M4 (Nb prog w) A (call (.type "zip") [.ref a,.ref b]) Q E s:=by
 refine callType_new F.called_zip (by decide) (F.typeCall_zip_2 _ _) (F.newCall_zip_2 _ _) (λobj=>F.args_object_init_3 obj _ _) F.entry_zip_new (A2 ta tb a b xs ys) ⟨h1,h2,?_⟩
 have s1:(zg1 ta s.heap a).objs.size=s.heap.objs.size+1:=OS ..
 have s2:(zg2 ta tb s.heap a b).objs.size=s.heap.objs.size+2:=by rw[OS,s1]
 have s3:(zg3 ta tb s.heap a b).objs.size=s.heap.objs.size+3:=by rw[OS,s2]
 have s4:(zg4 ta tb s.heap a b).objs.size=s.heap.objs.size+4:=by rw[OS,s3]
 have p5:(zg5 ta tb s.heap a b).get? (zg4 ta tb s.heap a b).objs.size=some _:=MW _ rfl
 have p4:(zg5 ta tb s.heap a b).get? (zg3 ta tb s.heap a b).objs.size=some _:=MP _ (MW _ rfl)
 have p3:(zg5 ta tb s.heap a b).get? (zg2 ta tb s.heap a b).objs.size=some _:=MP _ (MP _ (MW _ rfl))
 have p2:(zg5 ta tb s.heap a b).get? (zg1 ta s.heap a).objs.size=some (itO tb b):=MP _ (MP _ (MP _ (MW _ rfl)))
 have p1:(zg5 ta tb s.heap a b).get? s.heap.objs.size=some (itO ta a):=MP _ (MP _ (MP _ (MP _ (MW _ rfl))))
 have i1:eL ta (zg5 ta tb s.heap a b) s.heap.objs.size a 0:=by cases ta<;>exact ⟨_,p1,rfl,rfl⟩
 have i2:eL tb (zg5 ta tb s.heap a b) (zg1 ta s.heap a).objs.size b 0:=by cases tb<;>exact ⟨_,p2,rfl,rfl⟩
 show _/\_
 rw[s2,s3,s4] at p5
 rw[s1,s2] at p3
 rw[s3] at p4
 rw[s1] at i2
 rw[s4]
 exact ⟨⟨_,p5,rfl⟩,q _ ⟨p5,p3,⟨_,_,p4⟩,i1,i2⟩ λc o x=>MP _ (MP _ (MP _ (MP _ (MP _ x))))⟩
end
def Sq (tp:Bool)(K:ML)(H:Hp)(a:Addr)(xs:List V):Prop:=match tp with
 | true=>SqT K H a xs
 | false=>SqL K H a xs
def SqX (tp:Bool)(K:ML)(H:Hp)(a:Addr)(xs:List V):Prop:=match tp with
 | true=>SqT K H a xs
 | false=>SqF K H a xs
theorem SqX.sq {tp:Bool}{K:ML}{H:Hp}{a:Addr}{xs:List V}(h:SqX tp K H a xs):Sq tp K H a xs:=by
 cases tp with
 | true=>exact h
 | false=>exact SqF.sq h
theorem Inv.sq {X:Cx}{pins:List (Addr×Obj)}{σ:L2.St}{H:Hp}{s:MQ}{tp:Bool}{a:Addr}{xs:List V}(I:Inv X pins σ H s)(h:Sq tp X.K H a xs):∃ its:List MN,Vals xs its/\cI tp s.heap a its.toArray:=by
 cases tp with
 | true=>obtain ⟨its,r,p,_⟩:=I.tuple h;exact ⟨its,r,p⟩
 | false=>
  obtain ⟨its,r,⟨o,n,e1,e2,_,e3⟩,_⟩:=I.list h
  exact ⟨its,r,o,e1,e2,n,e3⟩
theorem Inv.uG {X:Cx}{pins:List (Addr×Obj)}{σ:L2.St}{H:Hp}{s:MQ}{tp:Bool}{a:Addr}{xs ys:List V}(I:Inv X pins σ H s)(h:Sq tp X.K H a xs)(h':Sq tp X.K H a ys):xs=ys:=by
 cases tp with
 | true=>exact I.jv h h'
 | false=>exact I.sF h h'
def Itz (ta tb:Bool)(K:ML)(a b:Addr):It:=
 ⟨λi H=>∃ xs ys x y,Sq ta K H a xs/\Sq tb K H b ys/\xs[i]? = some x/\ys[i]? = some y,
  λi H v H'=>∃ x y p,(∀ xs,Sq ta K H a xs->xs[i]? = some x)/\(∀ ys,Sq tb K H b ys->ys[i]? = some y)/\v=.ref p/\H p=none/\H'=L2.upd H p (.tup [x,y]),
  λi H=>∃ xs ys,Sq ta K H a xs/\Sq tb K H b ys/\(xs.length<=i∨ys.length<=i)⟩
theorem zN {P:Nh}{w:Nw}{K:ML}{es:List Nf}{ek:Nat}{ep:Pos}{ta tb:Bool}{z ti to i j a b:Addr}(Z:Zp z ti to i j a b) :
  Turn P w K (.Tuple es ek ep) (Itz ta tb K a b) [z,ti,to,i,j] z (λk h=>ZAt ta tb h z ti to i j a b k) where
 mem:=by simp
 obj:=λk h S c hc=>by
  obtain ⟨zz,zt,⟨u,v,zo⟩,zi,zj⟩:=S
  simp only[MY,Ny,or_false] at hc
  rcases hc with rfl | rfl | rfl | rfl | rfl
  ·exact ⟨_,zz,λv y=>by cases y⟩
  ·exact ⟨_,zt,λv y=>by cases y⟩
  ·exact ⟨_,zo,λv y=>by cases y⟩
  ·obtain ⟨o,e,vs,d⟩:=zi.ex;exact ⟨o,e,λv y=>by rw[d] at y;cases y⟩
  ·obtain ⟨o,e,vs,d⟩:=zj.ex;exact ⟨o,e,λv y=>by rw[d] at y;cases y⟩
 keep:=λk h g S kp=>by
  obtain ⟨zz,zt,⟨u,v,zo⟩,zi,zj⟩:=S
  exact ⟨kp z (by simp) _ zz,kp ti (by simp) _ zt,⟨u,v,kp to (by simp) _ zo⟩,zi.at λo e=>kp i (by simp) o e,zj.at λo e=>kp j (by simp) o e⟩
 item:=by
  intro X hP hw hK hc k pins s σ H E I hf S hg
  subst hP hw hK
  obtain ⟨xs,ys,x,y,qa,qb,ex,ey⟩:=hg
  obtain ⟨ia,ra,sa⟩:=Inv.sq I qa
  obtain ⟨ib,rb,sb⟩:=Inv.sq I qb
  obtain ⟨ux,hux,rx⟩:=ra.get ex
  obtain ⟨uy,huy,ry⟩:=rb.get ey
  refine yU Z S sa sb (x:=ux) (y:=uy) (by simpa using hux) (by simpa using huy) λg zz zt zo zi zj new al=>⟨_,rfl,wpAny_letOwnedTupleGo_zip zz λg2 zz2 k2=>?_⟩
  have nd:=Z.nd
  simp only[NB,MY,Ny,or_false,not_or] at nd
  obtain ⟨⟨n1,n2,n3,n4⟩,_⟩:=nd
  have zlt:z < s.heap.objs.size:=M1 S.zz
  have fr:H s.heap.objs.size=none:=I.hok.fresh (M0 _)
  have new2:N9 g2 s.heap.objs.size ux uy:=(k2.2 _ (OX zlt)).trans new
  have all:∀ c o,c ∉ [z,ti,to,i,j]->s.heap.get? c=some o->g2.get? c=some o:=λc o hc e=>by
   simp only[MY,Ny,or_false,not_or] at hc
   exact (k2.2 c hc.1).trans (al c o hc.1 hc.2.2.1 hc.2.2.2.1 hc.2.2.2.2 e)
  have nfp:∀ c u,H c=some u->c ∉ [z,ti,to,i,j]:=λc u e hc=>by rw[(hf c hc).1] at e;cases e
  refine ⟨.ref s.heap.objs.size,L2.upd H s.heap.objs.size (.tup [x,y]),?_,rfl,⟨x,y,_,λxs' q=>by rw[Inv.uG I q qa];exact ex,λys' q=>by rw[Inv.uG I q qb];exact ey,rfl,fr,rfl⟩,⟨zz2,(k2.2 ti (Np n1)).trans zt,⟨_,_,(k2.2 to (Np n2)).trans zo⟩,zi.at λo e=>(k2.2 i (Np n3)).trans e,zj.at λo e=>(k2.2 j (Np n4)).trans e⟩,λc hc=>?_⟩
  ·refine L2.Inv.step (s:=s) (H:=H) (H':=L2.upd H s.heap.objs.size (.tup [x,y])) (g':=s.gens) (d':=s.drawn) (t':=s.toks) (h':=g2) (ch:=[z,ti,to,i,j]) I (λc hc=>⟨(hf c hc).2.2.2.1,(hf c hc).2.1,(hf c hc).2.2.2.2.1,(hf c hc).2.2.2.2.2⟩) (λc o _ _ hc e _=>all c o hc e) (λc o _ _ hc e _=>⟨o.slots,all c o hc e⟩) (λc o hc e n=>?_) (λc o hc e=>⟨o,all c o hc e⟩)
    (λc xs e=>?_) (λc o u e=>?_) (λc ps e=>⟨#[],?_⟩) (λm hm=>?_) (λc u e=>?_) I.bare
   ·rw[az (Na (M1 e))];exact n
   ·rw[az (aR e fr)];exact e
   ·rw[az (aR e fr)];exact e
   ·rw[az (aR e fr),e];simp
   ·obtain ⟨o,es',ep',ho,r⟩:=hm
    exact ⟨o,es',ep',all _ o (λhc=>(hf _ hc).2.1 rfl) ho,r⟩
   ·by_cases hcT:c=s.heap.objs.size
    ·subst hcT
     rw[aC] at e;cases e
     exact ⟨by show 2<=sizeLine;decide,[ux,uy],.cons rx (.cons ry .nil),⟨_,new2⟩⟩
    ·rw[az hcT] at e
     refine (I.hok c u e).jj (λc' v hc' q=>all c' v ?_ q) (λc' q=>by rw[az (aR q fr)];exact q) λc' xs q=>by rw[az (aR q fr)];exact q
     rcases hc' with rfl | hc'
     ·exact nfp _ _ e
     ·exact nfp _ _ hc'
  ·have hcl:c≠s.heap.objs.size:=by
    obtain ⟨zz,zt,⟨u,v,zo⟩,zi,zj⟩:=S
    simp only[MY,Ny,or_false] at hc
    rcases hc with rfl | rfl | rfl | rfl | rfl
    ·exact Na (M1 zz)
    ·exact Na (M1 zt)
    ·exact Na (M1 zo)
    ·obtain ⟨o,e,_⟩:=zi.ex;exact Na (M1 e)
    ·obtain ⟨o,e,_⟩:=zj.ex;exact Na (M1 e)
   rw[az hcl];exact (hf c hc).1
 done:=by
  intro X hP hw hK hc k pins s σ H E I hf S hg
  subst hP hw hK
  obtain ⟨xs,ys,qa,qb,he⟩:=hg
  obtain ⟨ia,ra,sa⟩:=Inv.sq I qa
  obtain ⟨ib,rb,sb⟩:=Inv.sq I qb
  have la:=ra.length
  have lb:=rb.length
  refine AZ (I.ok.hd hc) Z S sa sb (he.imp (λh=>by simp;omega) λh=>by simp;omega) λg al=>⟨rfl,?_⟩
  have all:∀ c o,c ∉ [z,ti,to,i,j]->s.heap.get? c=some o->g.get? c=some o:=λc o hc e=>by
   simp only[MY,Ny,or_false,not_or] at hc
   exact al c o hc.1 hc.2.2.1 hc.2.2.2.1 hc.2.2.2.2 e
  have nfp:∀ c u,H c=some u->c ∉ [z,ti,to,i,j]:=λc u e hc=>by rw[(hf c hc).1] at e;cases e
  refine L2.Inv.step (s:=s) (H:=H) (H':=H) (g':=s.gens) (d':=s.drawn) (t':=s.toks) (h':=g) (ch:=[z,ti,to,i,j]) I (λc hc=>⟨(hf c hc).2.2.2.1,(hf c hc).2.1,(hf c hc).2.2.2.2.1,(hf c hc).2.2.2.2.2⟩) (λc o _ _ hc e _=>all c o hc e) (λc o _ _ hc e _=>⟨o.slots,all c o hc e⟩) (λc o hc e n=>n) (λc o hc e=>⟨o,all c o hc e⟩)
   (λc xs e=>e) (λc o u e=>e) (λc ps e=>⟨#[],by rw[e];simp⟩) (λm hm=>?_) (λc u e=>?_) I.bare
  ·obtain ⟨o,es',ep',ho,r⟩:=hm
   exact ⟨o,es',ep',all _ o (λhc=>(hf _ hc).2.1 rfl) ho,r⟩
  ·refine (I.hok c u e).jj (λc' v hc' q=>all c' v ?_ q) (λc' q=>q) λc' xs q=>q
   rcases hc' with rfl | hc'
   ·exact nfp _ _ e
   ·exact nfp _ _ hc'
 self:=λ_ _ _ _ _ S h=>Uj S.zz h
theorem KI (n a b:Nat)(ha:a < n)(hb:b < n):Zp (n+4) (n+2) (n+3) n (n+1) a b:=by
 refine ⟨?_,?_,?_⟩
 ·show ([n+4,n+2,n+3,n,n+1]:List Nat).Nodup
  simp only[NB,MY,Ny,or_false,not_or,List.nodup_nil,and_true,not_false_eq_true]
  and_intros<;>omega
 ·show a ∉ ([n+4,n+3,n,n+1]:List Nat)
  simp only[MY,Ny,or_false,not_or]
  omega
 ·show b ∉ ([n+4,n+3,n,n+1]:List Nat)
  simp only[MY,Ny,or_false,not_or]
  omega
theorem Fl (n c:Nat)(h:c∈([n+4,n+2,n+3,n,n+1]:List Nat)):n<=c:=by
 simp only[MY,Ny,or_false] at h
 omega
section
variable {X:Cx} {ea eb:Nf} {es:List Nf} {ek:Nat} {ep p pos:Pos}
def kQ (tp:Bool)(x:D)(f:List D->Prop):Prop:=match tp,x with
 | true,.tup ds=>f ds
 | false,.ls ds=>f ds
 | _,_=>False
theorem vb {K:ML}{H:Hp}{tp:Bool}{v:V}{x:D}{f:List D->Prop}(p:Dp K H v x)(h:kQ tp x f):∃ a xs ds,v=.ref a/\SqX tp K H a xs/\DpL K H xs ds/\f ds:=by
 cases tp with
 | true=>cases p with
  | @tup a xs ds q l=>exact ⟨a,xs,ds,rfl,q,l,h⟩
  | _=>exact MR h
 | false=>cases p with
  | @ls a xs ds q l=>exact ⟨a,xs,ds,rfl,q,l,h⟩
  | _=>exact MR h
theorem Tk.sq {K:ML}{H H':Hp}{tp:Bool}{a:Addr}{xs:List V}(t:Tk H H')(h:SqX tp K H a xs):Sq tp K H' a xs:=by
 cases tp with
 | true=>exact t.sqT h
 | false=>exact (t.sqF h).sq
end
end
section
open PySem PySem.Spec PyProof.Rows L2
def kObj (x:D)(f:Addr->Prop):Prop:=match x with
 | .obj a=>f a
 | _=>False
theorem kC (a:Addr)(f):kObj (.obj a) f=f a:=rfl
section
variable {X:Cx} {o a b c e:Nf} {To Ta Tb Tc Te T T':ETr} {pos:Pos}
theorem J2 {K:ML}{H:Hp}{μ:Mu}{q:Addr}{u:HO}(m:bw K H μ)(t:Tk H (L2.upd H q u)):bw K (L2.upd H q u) (dn μ q):=λz y ez=>by
 have zq:z≠q:=λw=>by subst w;unfold dn at ez;rw[if_pos rfl] at ez;cases ez
 have ez':μ z=some y:=by unfold dn at ez;rw[if_neg zq] at ez;exact ez
 exact (m z _ ez').ne t zq
theorem jh {H:Hp}{q:Addr}{u:HO}{xs:List V}(ex:H q=some (.lst xs)):Tk H (L2.upd H q u):=
 .upd (λys z=>by rw[ex] at z;cases z) λo' w z=>by rw[ex] at z;cases z
theorem Fo {K:ML}{H:Hp}{μ:Mu}{q:Addr}{xs ys:List V}{ds:List D}(m:bw K H μ)(ex:H q=some (.lst xs))(l:DpL K H ys ds):bw K (L2.upd H q (.lst ys)) (up μ q (.lst ds)):=λz y ez=>by
 by_cases zq:z=q
 ·subst zq
  rw[aA] at ez;cases ez
  exact ⟨ys,aC,l.mono (jh ex)⟩
 ·rw[aT zq] at ez
  exact (m z _ ez).ne (jh ex) zq
def yq (T:ETr):ETr:=λρ μ Q=>T ρ μ λx μ1=>kObj x λa=>kL μ1 a λds=>Q (.ls ds) (dn μ1 a)
theorem HD (h:LE X e T):LE X e (yq T):=by
 obtain ⟨t,p,s⟩:=h.ex
 refine ⟨_,mq p,λσ H ρ μ Q Q' rl h k=>s σ H ρ μ _ _ rl h λv H1 d μ1 t1 m1 p1 h1=>?_⟩
 cases p1 with
 | obj q=>
  obtain ⟨ds,e0,h2⟩:=bE h1
  obtain ⟨xs,ex,l⟩:=m1 q _ e0
  refine ⟨q,xs,rfl,ex,λu=>?_⟩
  have t2:Tk H1 (L2.upd H1 q (.frz u (.lst xs))):=jh ex
  exact k _ _ _ (dn μ1 q) (t1.trans t2) (J2 m1 t2) (.ls (.inl ⟨u,aC⟩) (l.mono t2)) h2
 | _=>exact MR h1
def kU (To Te:ETr):ETr:=λρ μ Q=>To ρ μ λx μ1=>kObj x λa=>kL μ1 a λ_=>Te ρ μ1 λy μ2=>kL μ2 a λds=>ds.length < 1000000/\Q .non (up μ2 a (.lst (ds++[y])))
theorem le_app {apos cpos:Pos}(ho:LE X o To)(he:LE X e Te)
  (hbase:O2 o (MK "append") X.env (N1 o X.env)=N1 o X.env:=by rfl)
  (hfew:((OL cpos (M6 [e] X.env)).all (λx=>!x.1)&&(backToKw cpos (Ur [] X.env)).all (λx=>x.1.isSome)
   && decide ([e].length+([]:List SA).length+(if ([]:List SA).isEmpty then 0 else 1) < 30))=true:=by rfl)
  (hline:(apos.endLine == cpos.line)=true:=by rfl) (hs:M6 [e] X.env=(false,N1 e X.env)::M6 [] X.env:=by rfl) (hplain:(OL cpos (M6 [] X.env)).any (·.1)=false:=by rfl) :
  LE X (.Call (.Attribute o (MK "append") apos) [e] [] cpos) (kU To Te):=by
 obtain ⟨to,po,so⟩:=ho.ex
 obtain ⟨te,pe,se⟩:=he.ex
 refine ⟨_,Fs Rr PySem.F.slot_list_append PySem.F.type_list_append oE po (kd pe qI hs) hbase hfew hline hs hplain,λσ H ρ μ Q Q' rl h k=>so σ H ρ μ _ _ rl h λx H1 dx μ1 t1 m1 p1 h1=>?_⟩
 cases p1 with
 | obj q=>
  obtain ⟨ds0,e0,h2⟩:=bE h1
  obtain ⟨xs0,ex0,_⟩:=m1 q _ e0
  refine ⟨.inl ⟨rfl,_,SqL.of ex0⟩,se σ H1 ρ μ1 _ _ (rl.go t1 m1) h2 λy H2 dy μ2 t2 m2 p2 h3=>?_⟩
  obtain ⟨ds,e1,lz,h4⟩:=bE h3
  obtain ⟨xs,ex,l⟩:=m2 q _ e1
  exact ⟨q,xs,y,rfl,rfl,ex,by rw[l.length];exact M9 lz (by decide),k _ _ _ _ ((t1.trans t2).trans (jh ex)) (Fo m2 ex (l.append (.cons p2 .nil))) .non h4⟩
 | _=>exact MR h1
def bR:FSp:=λds μ Q=>match ds with
 | [.tup xs]=>Q (.tup xs) μ
 | [.ls xs]=>Q (.tup xs) μ
 | [.obj a]=>kL μ a λxs=>Q (.tup xs) μ
 | _=>False
theorem bO {K:ML}:nR K (λxs H Q=>∃ p ys,xs=[.ref p]/\((SqL K H p ys/\∀ l,H l=none->Q (.ref l) (L2.upd H l (.tup ys)))∨(SqT K H p ys/\Q (.ref p) H))) bR:=λH μ xs ds Q Q' m p h k=>by
 unfold bR at h
 split at h
 ·cases p with | cons p1 p2=>cases p2;cases p1 with | tup q l=>exact ⟨_,_,rfl,.inr ⟨q,k _ H _ μ (.refl H) m (.tup q l) h⟩⟩
 ·cases p with | cons p1 p2=>cases p2;cases p1 with | ls q l=>exact ⟨_,_,rfl,.inl ⟨q.sq,λz hz=>k _ _ _ μ (.new hz) (bQ m hz) (.tup (SqT.of aC) (l.mono (.new hz))) h⟩⟩
 ·rename_i q
  cases p with | cons p1 p2=>
  cases p2;cases p1
  obtain ⟨ys,e0,h⟩:=bE h
  obtain ⟨xs,ex,l⟩:=m q _ e0
  exact ⟨_,_,rfl,.inl ⟨SqL.of ex,λz hz=>k _ _ _ μ (.new hz) (bQ m hz) (.tup (SqT.of aC) (l.mono (.new hz))) h⟩⟩
 ·exact MR h
def vd:FSp:=λds μ Q=>match ds with
 | [.tup xs]=>∀ p,μ p=none->Q (.obj p) (up μ p (.lst xs))
 | [.ls xs]=>∀ p,μ p=none->Q (.obj p) (up μ p (.lst xs))
 | [.obj a]=>kL μ a λxs=>∀ p,μ p=none->Q (.obj p) (up μ p (.lst xs))
 | _=>False
def vU:FSp:=λds μ Q=>match ds with
 | [.tup xs]=>Q (.ls xs) μ
 | [.ls xs]=>Q (.ls xs) μ
 | [.obj a]=>kL μ a λxs=>Q (.ls xs) μ
 | _=>False
def Li (Q:VK):VK:=λv H1=>∃ a xs,v=.ref a/\H1 a=some (.lst xs)/\∀ o,Q v (L2.upd H1 a (.frz o (.lst xs)))
theorem qg {K:ML}{H:Hp}{μ:Mu}{ys:List V}{ds:List D}{Q:DK}{Q':VK}{z:Addr}(m:bw K H μ)(l:DpL K H ys ds)(h:Q (.ls ds) μ)(k:f6 K H Q Q')(hz:H z=none):Li Q' (.ref z) (L2.upd H z (.lst ys)):=
 ⟨z,ys,rfl,aC,λo=>by
  have e:L2.upd (L2.upd H z (.lst ys)) z (.frz o (.lst ys))=L2.upd H z (.frz o (.lst ys)):=qo
  rw[e]
  exact k _ _ _ μ (.new hz) (bQ m hz) (.ls (.inl ⟨o,aC⟩) (l.mono (.new hz))) h⟩
def fo:D->Bool
 | .non=>true
 | .bl _=>true
 | .int _=>true
 | .str _=>true
 | _=>false
def inD (x:D)(xs:List D):Bool:=xs.any λy=>eqD y x
def rIn (neg:Bool):DR2:=λx y μ Q=>match y with
 | .tup xs=>(fo x=true/\xs.all fo=true)/\Q (.bl (if neg then !inD x xs else inD x xs)) μ
 | .ls xs=>(fo x=true/\xs.all fo=true)/\Q (.bl (if neg then !inD x xs else inD x xs)) μ
 | .obj a=>kL μ a λxs=>(fo x=true/\xs.all fo=true)/\Q (.bl (if neg then !inD x xs else inD x xs)) μ
 | _=>False
end
end
section
open PySem PySem.Spec PyProof.Rows L2
section
variable {X:Cx} {a b e:Nf} {Ta Tb T:ETr} {pos:Pos}
def Ku (t:TE):TE:=λσ H Q=>t σ H λv H1=>Q v H1∨Li Q v H1
theorem xx {t:TE}(h:PE X e t):PE X e (Ku t):=by
 have g:PE X e (λσ H Q=>∃ P:VK,yF t σ H P/\∀ v H',P v H'->Q v H'):=λpins s σ H Q I ⟨P,hP,k⟩=>
  thn (mq h pins s σ H P I hP) λu s1 ⟨v,H1,I1,r,q⟩=>⟨v,H1,I1,r,k _ _ q⟩
 intro pins s σ H Q I hh
 refine thn (h pins s σ H _ I hh) λu s1 ⟨v,H1,I1,r,q⟩=>?_
 rcases q with q | ⟨c,xs,rfl,ec,q⟩
 ·exact ⟨v,H1,I1,r,q⟩
 ·have hz:=I1.hok c _ ec
  obtain ⟨z,its,n,rv,hg⟩:=hz
  have nl:∀ d o,H1 d=some o->(∀ ys,o≠.lst ys)->d≠c:=λd o e1 e2 w=>by subst w;rw[ec] at e1;cases e1;exact e2 _ rfl
  refine ⟨.ref c,_,I1.un (h':=s1.heap) (t':=s1.toks) (H':=L2.upd H1 c (.frz { cls:=.type "list", data:=.seq its.toArray n } (.lst xs))) ⟨λd o e _ _ _=>e,λd o e _ _ _=>⟨o.slots,e⟩,λd o e w _=>?_,λd o e _=>⟨o,e⟩,λd ys e=>?_,λd o u e=>?_,λd ps e=>⟨#[],?_⟩⟩ (λd u e=>?_),r,q _⟩
  ·rw[az (λz=>by subst z;rw[ec] at w;cases w)];exact w
  ·rw[az (nl d _ e (λ_=>nofun))];exact e
  ·rw[az (nl d _ e (λ_=>nofun))];exact e
  ·rw[az (nl d _ e (λ_=>nofun)),e];simp
  ·by_cases hd:d=c
   ·subst hd
    rw[aC] at e;cases e
    exact ⟨hg,z,its,n,rv,hg⟩
   ·rw[az hd] at e
    refine (I1.hok d u e).jj (λk w _ q=>q) (λk q=>?_) λk ys q=>?_
    ·rw[az (nl k _ q (λ_=>nofun))];exact q
    ·rw[az (nl k _ q (λ_=>nofun))];exact q
def Fx (K:ML):R2:=λx y H Q=>∃ p q ys,x=.ref p/\y=.ref q/\SqT K H p []/\SqT K H q ys/\Q (.ref q) H
theorem Ea:OpR X (OR .Add) (Fx X.K):=λpins s σ H x y v u Q I rx ry ⟨p,q,ys,e1,e2,hp,hq,h⟩=>by
 subst e1 e2
 cases rx
 cases ry
 obtain ⟨its,r1,p1,_⟩:=I.tuple hp
 obtain ⟨its2,r2,p2,_⟩:=I.tuple hq
 cases r1
 obtain ⟨⟨c1,d1,t1,l1⟩,ho,hc,n,hd⟩:=id p1
 obtain ⟨⟨c2,d2,t2,l2⟩,ho2,hc2,n2,hd2⟩:=id p2
 simp only at hc hd hc2 hd2
 subst hc hd hc2 hd2
 exact RG ⟨_,ho,rfl⟩ ⟨_,ho2,rfl⟩ Rm SN PJ Px (Po _ _)
  (tuple_addW0 p q #[] its2.toArray n n2 d1 d2 l1 l2 rfl) ⟨ho,ho2,⟨.ref q,H,I,rfl,h⟩⟩
def FK (K:ML):R2:=λx y H Q=>∃ p q xs ys,x=.ref p/\y=.ref q/\SqL K H p xs/\SqL K H q ys/\xs.length+ys.length<=sizeLine/\∀ z,H z=none->Q (.ref z) (L2.upd H z (.lst (xs++ys)))
theorem Eg:OpR X (OR .Add) (FK X.K):=λpins s σ H x y v u Q I rx ry ⟨p,q,xs,ys,e1,e2,hp,hq,hz,h⟩=>by
 subst e1 e2
 cases rx
 cases ry
 obtain ⟨its,r1,p1,_⟩:=I.list hp
 obtain ⟨its2,r2,p2,_⟩:=I.list hq
 obtain ⟨⟨c1,d1,t1,l1⟩,n,ho,hc,hx,hd⟩:=id p1
 obtain ⟨⟨c2,d2,t2,l2⟩,n2,ho2,hc2,hx2,hd2⟩:=id p2
 simp only at hc hd hc2 hd2
 subst hc hd hc2 hd2
 have z1:=r1.length
 have z2:=r2.length
 refine RG ⟨_,ho,rfl⟩ ⟨_,ho2,rfl⟩ PySem.noFill_list_add PySem.seq_list_add PySem.F.slot_list_add PySem.F.entry_list_add (PySem.F.args_list_add_2 _ _)
  (list_addW p q its.toArray its2.toArray n n2 d1 d2 l1 l2 (by rw[M5,M5];omega)) ⟨ho,ho2,?_⟩
 have ea:its.toArray++its2.toArray=(its++its2).toArray:=by simp
 rw[ea]
 exact ⟨.ref _,_,I.Mv (t':=s.toks) (r1.append r2) (by rw[Nt];omega),rfl,h _ I.fresh⟩
def aK:DR2:=λx y μ Q=>match x,y with
 | .int i,.int j=>Q (.int (i+j)) μ
 | .str i,.str j=>i.length+j.length<=1000000/\Q (.str (i++j)) μ
 | .tup a,.tup b=>a.length+b.length<=1000000/\Q (.tup (a++b)) μ
 | .ls a,.ls b=>a.length+b.length<=1000000/\Q (.ls (a++b)) μ
 | _,_=>False
def rPl (K:ML):R2:=λx y H Q=>(rI0 λi j=>.int (i+j)) x y H Q∨(∃ i j,x=.str i/\y=.str j/\i.length+j.length<=sizeLine/\Q (.str (i++j)) H)∨FI K x y H Q∨Fx K x y H Q∨FK K x y H Q
theorem Dt:OpR X (OR .Add) (rPl X.K):=λpins s σ H x y v u Q I rx ry h=>by
 rcases h with h | h | h | h | h
 ·exact HH pins s σ H x y v u Q I rx ry h
 ·exact uw pins s σ H x y v u Q I rx ry h
 ·exact Et pins s σ H x y v u Q I rx ry h
 ·exact Ea pins s σ H x y v u Q I rx ry h
 ·exact Eg pins s σ H x y v u Q I rx ry h
theorem aF (ha:LE X a Ta)(hb:LE X b Tb):LE X (.BinOp a .Add b pos) (ak aK Ta Tb):=by
 obtain ⟨ta,pa,sa⟩:=ha.ex
 obtain ⟨tb,pb,sb⟩:=hb.ex
 refine ⟨_,xx (Fy Dt pa pb),λσ H ρ μ Q Q' rl h k=>sa σ H ρ μ _ _ rl h λx H1 dx μ1 t1 m1 p1 h1=>sb σ H1 ρ μ1 _ _ (rl.go t1 m1) h1 λy H2 dy μ2 t2 m2 p2 h2=>?_⟩
 have p1:=p1.mono t2
 have k:=k.go (t1.trans t2)
 cases p1 with
 | int i=>
  cases p2 with
  | int j=>exact .inl ⟨i,j,rfl,rfl,.inl (k _ H2 _ μ2 (.refl H2) m2 (.int _) h2)⟩
  | _=>exact MR h2
 | str i=>
  cases p2 with
  | str j=>exact .inr (.inl ⟨i,j,rfl,rfl,big h2.1,.inl (k _ H2 _ μ2 (.refl H2) m2 (.str _) h2.2)⟩)
  | _=>exact MR h2
 | @tup q xs ds sq l=>
  cases p2 with
  | @tup q' ys es sq' l'=>
   obtain ⟨hz,h3⟩:=h2
   by_cases hx:xs=[]
   ·subst hx
    cases l
    exact .inr (.inr (.inr (.inl ⟨q,q',ys,rfl,rfl,sq,sq',.inl (k _ H2 _ μ2 (.refl H2) m2 (.tup sq' l') h3)⟩)))
   ·refine .inr (.inr (.inl ⟨q,q',xs,ys,rfl,rfl,sq,sq',hx,by rw[l.length,l'.length];exact big hz,λhy=>?_,λ_ z hzn=>.inl ?_⟩))
    ·subst hy
     cases l'
     rw[NN] at h3
     exact .inl (k _ H2 _ μ2 (.refl H2) m2 (.tup sq l) h3)
    ·exact k _ _ _ μ2 (.new hzn) (bQ m2 hzn) (.tup (SqT.of aC) ((l.append l').mono (.new hzn))) h3
  | _=>exact MR h2
 | @ls q xs ds sq l=>
  cases p2 with
  | @ls q' ys es sq' l'=>exact .inr (.inr (.inr (.inr ⟨q,q',xs,ys,rfl,rfl,sq.sq,sq'.sq,by rw[l.length,l'.length];exact big h2.1,λz hz=>.inr (qg m2 (l.append l') h2.2 k hz)⟩)))
  | _=>exact MR h2
 | _=>cases p2<;>exact MR h2
abbrev OTr:=ST->Mu->(Option Int->Mu->Prop)->Prop
def ONo:OTr:=λ_ μ Q=>Q none μ
def mN (T:ETr):OTr:=λρ μ Q=>T ρ μ λx μ1=>kI x λi=>Q (some i) μ1
def LU (K:ML)(t:TO)(T:OTr):Prop:=∀ σ H ρ μ (Q:Option Int->Mu->Prop) (Q':Option Int->Hp->Prop),Rl K σ H ρ μ->T ρ μ Q->(∀ i H' μ',Tk H H'->bw K H' μ'->Q i μ'->Q' i H')->t σ H Q'
structure LO (X:Cx) (o:Option Nf) (T:OTr):Prop where
 ex:∃ t,PO X o t/\LU X.K t T
theorem sG:LO X none ONo:=⟨_,Eu,λσ H ρ μ Q Q' rl h k=>k none H μ (.refl H) rl.mu h⟩
theorem mf (h:LE X e T):LO X (some e) (mN T):=by
 obtain ⟨t,p,s⟩:=h.ex
 refine ⟨_,EJ p,λσ H ρ μ Q Q' rl h k=>s σ H ρ μ _ _ rl h λv H1 d μ1 t1 m1 p1 h1=>?_⟩
 cases p1 with
 | int i=>exact ⟨i,rfl,k _ H1 μ1 t1 m1 h1⟩
 | _=>exact MR h1
def cutD {α:Type}(xs:List α)(lo hi:Option Int):List α:=(xs.drop (HT.sIx xs.length 0 lo)).take (HT.sIx xs.length xs.length hi - HT.sIx xs.length 0 lo)
theorem ud {α:Type}{xs:List α}{lo hi:Option Int}(h:HT.sIx xs.length 0 lo=0/\HT.sIx xs.length xs.length hi=xs.length):cutD xs lo hi=xs:=by
 unfold cutD;rw[h.1,h.2];simp
theorem DpL.take {K:ML}{H:Hp}:∀ {vs:List V} {ds:List D} (n:Nat),DpL K H vs ds->DpL K H (vs.take n) (ds.take n)
 | _,_,0,_=>.nil
 | _,_,_+1,.nil=>.nil
 | _,_,n+1,.cons h l=>.cons h (DpL.take n l)
theorem DpL.drop {K:ML}{H:Hp}:∀ {vs:List V} {ds:List D} (n:Nat),DpL K H vs ds->DpL K H (vs.drop n) (ds.drop n)
 | _,_,0,l=>l
 | _,_,_+1,.nil=>.nil
 | _,_,n+1,.cons _ l=>DpL.drop n l
theorem DpL.cut {K:ML}{H:Hp}{vs:List V}{ds:List D}(lo hi:Option Int)(l:DpL K H vs ds):DpL K H (rR vs lo hi) (cutD ds lo hi):=by
 unfold rR cutD;rw[l.length];exact (l.drop _).take _
theorem tI {prog:Nh}{w:Nw}{A:NH}{E:MN->MQ->Prop}{s:MQ}{t sl:Addr}{items:Array MN}{vl vu:MN}{lo hi:Option Int}{Q:MN->MQ->Prop}(ht:SK s.heap t items)(hs:s.heap.IsSliceOf sl vl vu .none)(pl:IsPart vl lo)(pu:IsPart vu hi)
  (hw:HT.sIx items.size 0 lo=0/\HT.sIx items.size items.size hi=items.size) (h:Q (.ref t) s):M4 (Nb prog w) A (Qw (.ref t) (.ref sl)) Q E s:=by
 obtain ⟨os,hos,hcs,hds⟩:=id hs
 have hTs:s.TypeIs (.ref sl) "slice" := ⟨os,hos,hcs⟩
 unfold Qw
 try with_reducible refine O1 ?_
 first | refine MM (wpAny_pure ?_) | skip
 refine MM (TF ht.typeIs (by decide) ?_)
 refine MM (Nx (name:=MK "__getitem__") ht.typeIs NF (NQ NF ht.typeIs SG ?_ (S6 _ _)))
 show M4 _ _ (QJ (.ref t) >>= _) _ _ s
 refine MM (tupleItemsOf_ ht ?_)
 refine MM <| wpAny_typeOf hTs ?_
 rw[if_pos (by decide)]
 refine MM (HT.eJ hs pl pu ?_)
 rw[hw.1,hw.2]
 refine (show M4 _ _ (if (((0:Nat):Int) == 0&&(1:Int) == 1&&(items.size - 0) == items.size)=true then _ else _) _ _ s from ?_)
 rw[if_pos (by simp)]
 unfold UU
 refine MM (MM (wpAny_typeOf ht.typeIs (wpAny_pure ?_)))
 rw[if_pos (by decide)]
 first
  | exact MM (OW (MM (wpAny_pure (wpAny_pure ⟨_,rfl,wpAny_pure h⟩))))
  | exact MM (OW (wpAny_pure ⟨_,rfl,wpAny_pure h⟩))
  | exact MM (MM (OW (wpAny_pure (wpAny_pure ⟨_,rfl,wpAny_pure h⟩))))
def MC (K:ML):V->Option Int->Option Int->Hp->VK->Prop:=λx lo hi H Q=>∃ a xs,x=.ref a/\SqT K H a xs/\(HT.sIx xs.length 0 lo=0/\HT.sIx xs.length xs.length hi=xs.length)/\Q (.ref a) H
theorem zW:SlR X (MC X.K):=λpins s σ H x v vl vu lo hi sl Q I rx hs pl pu ⟨q,xs,e,hx,hw,h⟩=>by
 subst e
 cases rx
 obtain ⟨its,r,ht,_⟩:=I.tuple hx
 have hlen:its.toArray.size=xs.length:=by rw[M5];exact r.length.symm
 exact ⟨"tuple", _,NF.lookup,ht.typeIs,tI ht hs pl pu (by rw[hlen];exact hw) ⟨.ref q,H,I,rfl,h⟩⟩
def rSl:D->Option Int->Option Int->Mu->DK->Prop:=λx lo hi μ Q=>match x with
 | .tup xs=>Q (.tup (cutD xs lo hi)) μ
 | .ls xs=>Q (.ls (cutD xs lo hi)) μ
 | .obj a=>kL μ a λxs=>Q (.ls (cutD xs lo hi)) μ
 | _=>False
def TSl (a:ETr)(lo hi:OTr):ETr:=λρ μ Q=>a ρ μ λx μ1=>lo ρ μ1 λl μ2=>hi ρ μ2 λh μ3=>rSl x l h μ3 Q
theorem tN {lo hi:Option Nf}{Tl Th:OTr}{p2:Pos}(ha:LE X a Ta)(hl:LO X lo Tl)(hh:LO X hi Th):LE X (.Subscript a (.Slice lo hi none p2) pos) (TSl Ta Tl Th):=by
 obtain ⟨ta,pa,sa⟩:=ha.ex
 obtain ⟨tl,pl,sl⟩:=hl.ex
 obtain ⟨th,ph,sh⟩:=hh.ex
 refine ⟨_,xx (BS (SlR.or zW (SlR.or HZ E1)) pa pl ph),λσ H ρ μ Q Q' rl h k=>sa σ H ρ μ _ _ rl h λx H1 dx μ1 t1 m1 p1 h1=>sl σ H1 ρ μ1 _ _ (rl.go t1 m1) h1 λi H2 μ2 t2 m2 h2=>sh σ H2 ρ μ2 _ _ (rl.go (t1.trans t2) m2) h2 λj H3 μ3 t3 m3 h3=>?_⟩
 have p1:=p1.mono (t2.trans t3)
 have k:=k.go (t1.trans (t2.trans t3))
 cases p1 with
 | @tup q xs ds sq l=>
  by_cases hw:HT.sIx xs.length 0 i=0/\HT.sIx xs.length xs.length j=xs.length
  ·refine .inl ⟨q,xs,rfl,sq,hw,.inl (k _ H3 _ μ3 (.refl H3) m3 (.tup sq l) ?_)⟩
   rw[l.length] at hw
   have h3:Q (.tup (cutD ds i j)) μ3:=h3
   rw[ud hw] at h3;exact h3
  ·exact .inr (.inl ⟨q,xs,rfl,sq,hw,λz hz=>.inl (k _ _ _ μ3 (.new hz) (bQ m3 hz) (.tup (SqT.of aC) ((l.cut i j).mono (.new hz))) h3)⟩)
 | @ls q xs ds sq l=>exact .inr (.inr ⟨q,xs,rfl,sq.sq,λz hz=>.inr (qg m3 (l.cut i j) h3 k hz)⟩)
 | obj q=>
  obtain ⟨ds,e0,h4⟩:=bE h3
  obtain ⟨xs,ex,l⟩:=m3 q _ e0
  exact .inr (.inr ⟨q,xs,rfl,SqL.of ex,λz hz=>.inr (qg m3 (l.cut i j) h4 k hz)⟩)
 | _=>exact MR h3
theorem EO {α:Type}(xs:List α)(k:Nat):cutD xs none (some (k:Int))=xs.take k:=by
 unfold cutD
 rw[HT.A0,HT.Dr,List.drop_zero,Nat.sub_zero]
 rcases Nat.le_total k xs.length with h | h
 ·rw[Nat.min_eq_left h]
 ·rw[Nat.min_eq_right h,List.take_length,List.take_of_length_le h]
end
end
section
open PySem PySem.Spec PyProof.Rows L2
end
section
open PySem PySem.Spec PyProof.Rows L2
theorem _root_.L2.Inv.frz {X:Cx}{pins:List (Addr×Obj)}{σ:L2.St}{H:Hp}{s:MQ}{c:Addr}{xs:List V}(I1:Inv X pins σ H s)(ec:H c=some (.lst xs)):∃ o,Inv X pins σ (L2.upd H c (.frz o (.lst xs))) s:=by
 obtain ⟨z,its,n,rv,hg⟩:=I1.hok c _ ec
 have nl:∀ d o,H d=some o->(∀ ys,o≠.lst ys)->d≠c:=λd o e1 e2 w=>by subst w;rw[ec] at e1;cases e1;exact e2 _ rfl
 refine ⟨_,I1.un (h':=s.heap) (t':=s.toks) (H':=L2.upd H c (.frz { cls:=.type "list", data:=.seq its.toArray n } (.lst xs))) ⟨λd o e _ _ _=>e,λd o e _ _ _=>⟨o.slots,e⟩,λd o e w _=>?_,λd o e _=>⟨o,e⟩,λd ys e=>?_,λd o u e=>?_,λd ps e=>⟨#[],?_⟩⟩ (λd u e=>?_)⟩
 ·rw[az (λz=>by subst z;rw[ec] at w;cases w)];exact w
 ·rw[az (nl d _ e (λ_=>nofun))];exact e
 ·rw[az (nl d _ e (λ_=>nofun))];exact e
 ·rw[az (nl d _ e (λ_=>nofun)),e];simp
 ·by_cases hd:d=c
  ·subst hd
   rw[aC] at e;cases e
   exact ⟨hg,z,its,n,rv,hg⟩
  ·rw[az hd] at e
   refine (I1.hok d u e).jj (λk w _ q=>q) (λk q=>?_) λk ys q=>?_
   ·rw[az (nl k _ q (λ_=>nofun))];exact q
   ·rw[az (nl k _ q (λ_=>nofun))];exact q
theorem xn {X:Cx}{tg iter elt:Nf}{ifs:List Nf}{scope:Scope}{pos spos py:Pos}{y:Str}{iy:Nat}{wi:TI}{g:TG}{tt:TT}{te:TE}{Nc:List Str}{n:Nat}{caps:List Nat}
  (hxe:X.xe=λ_ _=>False) (hcalm:X.calm=true) (hi:PI X tg iter wi)
  (hbody:∀ (cl:List (Str×Addr)) (C:Addr) (s₀:MQ) (H₀:Hp) (ex:List Addr),PG (aX X scope Nc cl C s₀ H₀ ex) tg g/\vy (aX X scope Nc cl C s₀ H₀ ex) ifs tt/\PE (aX X scope Nc cl C s₀ H₀ ex) elt te)
  (hfree:∀ y∈scope.names,y.2=.free->X.env.kindOf y.1=some .cell) (hcell:∀ y∈scope.names,y.2≠.cell) (eF:scope.kind=.function)
  (hnames:∀ y∈scope.names,y.2=.local->scope.names.lookup y.1=some .local) (hlen:Nc.length=n+caps.length)
  (hcap:∀ (j k:Nat),caps[j]? = some k->∃ x,Nc[n+j]? = some x/\X.N[k]? = some x/\scope.names.lookup x=some .free)
  (pgy:PG X (.Name y py) (kJ iy))
  (hsw:Pe (.ListComp elt [⟨tg,iter,ifs,0⟩] scope pos) (some (.Name y py)) spos.line X.env=pure true)
  (hs:∀ x,NS iter X.env x=pure x:=by intro _;rfl) :
  PS X (.Assign [.Name y py] (.ListComp elt [⟨tg,iter,ifs,0⟩] scope pos) spos) (CZ (yF (jD wi g tt te n caps)) (kJ iy)):=
 CJ (Z:=yF) hxe hcalm hi hbody hfree hcell eF hnames hlen hcap pgy hsw (λσ H Q h=>⟨_,h,λpins D H5 s5 I5 ⟨a,xs,ea,eH,q⟩=>by
  cases ea
  obtain ⟨o,I6⟩:=I5.frz eH
  exact ⟨_,λb hb=>by rw[az (λz=>by rw[z,eH] at hb;cases hb)];exact hb,I6,q o⟩⟩) hs
theorem zV {K:ML}{wi:TI}{It':ATr}{G:GTr}{Tt:TTr}{Te:ETr}{n:Nat}{caps:List Nat}(si:JP K wi It'):Sim K (yF (jD wi (oi K n G) (liftT K Tt) (oz K Te) n caps)) (bS It' G Tt Te n caps):=by
 intro σ H ρ μ Q Q' rl h k
 refine si σ H ρ μ _ _ rl h λJ H1 ds μ1 t1 m1 Y h1 D hD=>?_
 have hp:=h1 D (m1.free hD)
 have tD:Tk H1 (L2.upd H1 D (.lst [])):=.new hD
 have mD:bw K (L2.upd H1 D (.lst [])) (up μ1 D (.lst [])):=λa o e=>by
  by_cases ha:a=D
  ·subst ha
   rw[aA] at e;cases e
   exact ⟨[],aC,.nil⟩
  ·rw[aT ha] at e
   exact bQ m1 hD a o e
 refine ⟨λi m ys H2=>m=ds.length - i/\i<=ds.length/\Tk H1 H2/\∃ μ2,bw K H2 μ2/\fO D G Tt Te (fu ρ n caps) (λμ'=>kL μ' D λzs=>Q (.ls zs) (dn μ' D)) (ds.drop i) μ2,
  ⟨ds.length,by simp,N0 _,tD,_,mD,by simpa using hp⟩,?_⟩
 rintro i m ys H2 ⟨rfl,hi,t12,μ2,m2,h2⟩
 by_cases hlt:i < ds.length
 ·refine .inr ⟨Y.go i H2 t12 hlt,λys' H'=>Tk H1 H'/\∃ μ',bw K H' μ'/\fO D G Tt Te (fu ρ n caps) (λμ'=>kL μ' D λzs=>Q (.ls zs) (dn μ' D)) (ds.drop (i+1)) μ',λys' H' ⟨t',μ',m',h'⟩=>⟨ds.length - (i+1),by omega,rfl,hlt,t',μ',m',h'⟩,λx H3 y=>?_⟩
  obtain ⟨t23,⟨d,ed,pd⟩,mk⟩:=Y.yld i H2 x H3 t12 hlt y
  have e:ds.drop i=d::ds.drop (i+1):=by
   refine (Ob hlt).trans ?_
   congr 1
   rw[MZ hlt] at ed
   exact Nl ed
  rw[e] at h2
  have t13:=t12.trans t23
  have r3:Rl K (hU σ n caps) H3 (fu ρ n caps) μ2:=qJ (rl.go (t1.trans t13) (mk _ m2)) n caps
  refine ⟨_,_,d,_,r3,pd,h2,λσ4 H4 ρ4 μ4 t4 r4 kp h4=>⟨⟨kp.1.symm,λj v ej=>?_⟩,_,_,_,r4,h4,λb H5 μ5 t5 m5 h5=>?_⟩⟩
  ·by_cases hj:n<=j
   ·rw[kp.2 j hj];exact ej
   ·obtain ⟨j',k',e1,_⟩:=iz ej
    omega
  ·have t15:=t13.trans (t4.trans t5)
   cases b with
   | false=>exact qF ⟨t15,μ5,m5,h5⟩
   | true=>
    refine pN ⟨_,_,_,r4.go t5 m5,h5,λv H6 d6 μ6 t6 m6 p6 h6=>?_⟩
    obtain ⟨zs,ez,lz,h7⟩:=bE h6
    obtain ⟨xs,ex,lx⟩:=m6 D _ ez
    have t67:Tk H6 (L2.upd H6 D (.lst (xs++[v]))):=.upd (λys z=>by rw[ex] at z;cases z) λo' u z=>by rw[ex] at z;cases z
    refine ⟨xs,ex,by rw[lx.length];exact M9 lz (by decide),(t15.trans t6).trans t67,up μ6 D (.lst (zs++[d6])),λa o ea=>?_,h7⟩
    by_cases ha:a=D
    ·subst ha
     rw[aA] at ea;cases ea
     exact ⟨_,aC,(lx.append (.cons p6 .nil)).mono t67⟩
    ·rw[aT ha] at ea
     exact (m6 a _ ea).ne t67 ha
 ·have e:i=ds.length:=by omega
  subst e
  rw[P0] at h2
  obtain ⟨zs,ez,hq⟩:=bE (show kL μ2 D λzs=>Q (.ls zs) (dn μ2 D) from h2)
  obtain ⟨xs,ex,lx⟩:=m2 D _ ez
  refine .inl ⟨Y.stop _ H2 t12 (M0 _),D,xs,rfl,ex,λo=>?_⟩
  have t2f:Tk H2 (L2.upd H2 D (.frz o (.lst xs))):=.upd (λys z=>by rw[ex] at z;cases z) λo' u z=>by rw[ex] at z;cases z
  refine k _ _ _ (dn μ2 D) ((t1.trans t12).trans t2f) (λa o' ea=>?_) (.ls (.inl ⟨o,aC⟩) (lx.mono t2f)) hq
  have ha:a≠D:=λz=>by subst z;unfold dn at ea;rw[if_pos rfl] at ea;cases ea
  have ea':μ2 a=some o':=by unfold dn at ea;rw[if_neg ha] at ea;exact ea
  exact (m2 a _ ea').ne t2f ha
theorem mj {X:Cx}{tg elt iter:Nf}{Te:ETr}{Tt:TTr}{pos spos py:Pos}{y:Str}{It':ATr}{G:GTr}{ifs:List Nf}{scope fsc:Scope}(iy:Nat)(hN:X.N.Nodup)(XN Nc:List Str)(n:Nat)(caps:List Nat)(hxe:X.xe=λ_ _=>False)(hcalm:X.calm=true)(hi:LI X tg iter It')
  (hbody:∀ (cl:List (Str×Addr)) (C:Addr) (s₀:MQ) (H₀:Hp) (ex:List Addr),LGc (aX X scope Nc cl C s₀ H₀ ex) n tg G/\yu (aX X scope Nc cl C s₀ H₀ ex) ifs Tt/\LE (aX X scope Nc cl C s₀ H₀ ex) elt Te)
  (hsc:X.env.scope=fsc) (hXN:X.N=XN) (hok:ji fsc.names XN scope Nc n caps=true)
  (hiy:X.N[iy]? = some y:=by rfl) (hx:Loc X.env.scope y:=by first | exact QK rfl | exact PZ rfl) (hf:X.fn y=true∨X.env.scope.names.lookup y=some .local:=by first | exact .inl rfl | exact .inr rfl | assumption)
  (hsw:Pe (.ListComp elt [⟨tg,iter,ifs,0⟩] scope pos) (some (.Name y py)) spos.line X.env=pure true:=by rfl)
  (hs:∀ x,NS iter X.env x=pure x:=by intro _;rfl) :
  LS X (.Assign [.Name y py] (.ListComp elt [⟨tg,iter,ifs,0⟩] scope pos) spos) (aQ (bS It' G Tt Te n caps) (aw iy)):=by
 unfold ji at hok
 simp only[NI,P1] at hok
 obtain ⟨⟨⟨h1,h2⟩,h3⟩,h4⟩:=hok
 obtain ⟨wi,pi,si⟩:=hi.ex
 refine ⟨_,xn (g:=oi X.K n G) (tt:=liftT X.K Tt) (te:=oz X.K Te) hxe hcalm pi (λcl C s₀ H₀ ex=>let ⟨h1,h2,h3⟩:=hbody cl C s₀ H₀ ex;⟨h1.pe,h2.pe,h3.pe⟩) (λy hy hf=>?_) (λy hy hf=>?_) (by simpa using h2) (λy hy hf=>?_) (by simpa using h3) (λj k hj=>?_) (gj hN hiy hx hf) hsw hs,λσ H ρ μ E E' rl h k=>zV si σ H ρ μ _ _ rl h λv H' d μ' t' m' p' h'=>gn iy σ H' ρ μ' v d _ _ (rl.go t' m') p' h' (k.go t').nx⟩
 ·have:=(h1 y hy).1.1
  show X.env.scope.names.lookup y.1=_
  rw[hsc]
  simpa[hf] using this
 ·have:=(h1 y hy).1.2
  simp[hf] at this
 ·have:=(h1 y hy).2
  simpa[hf] using this
 ·have hl:j < caps.length:=(Nm.mp hj).1
  have:=h4 j (QC.mpr hl)
  rw[hj] at this
  dsimp only at this
  rw[hXN]
  cases e:XN[k]? with
  | none=>rw[e] at this;cases this
  | some x=>
   rw[e] at this
   dsimp only at this
   rw[NI] at this
   exact ⟨x,by simpa using this.1,rfl,by simpa using this.2⟩
end
section
open PySem PySem.Spec PyProof.Rows L2
section
variable {X:Cx} {ea:Nf} {es:List Nf} {ek:Nat} {ep p pos:Pos}
def gW (ds:List D):List D:=(OK ds.length).zipWith (λi d=>.tup [.int (i:Nat),d]) ds
def KJ (t:ATr):ATr:=λρ μ Q=>t ρ μ λvs μ1=>match vs with
 | [.ls ds]=>Q (gW ds) μ1
 | _=>False
theorem oj (ds:List D)(i:Nat):(gW ds)[i]? = (ds[i]?).map λd=>.tup [.int (i:Nat),d]:=by
 unfold gW
 rw[R8]
 by_cases h:i < ds.length
 ·rw[List.getElem?_range h,MZ h];rfl
 ·rw[Ph.mpr (by simpa using h),Ph.mpr (by simpa using h)];rfl
theorem oM (ds:List D):(gW ds).length=ds.length:=by unfold gW;simp
variable {eb:Nf} {tg:Nf} {Ta Tb:ETr}
end
end
section
open PySem PySem.Spec PyProof PyProof.Rows L2
section
variable {X:Cx} {a b:Nf} {Ta Tb:ETr} {pos:Pos}
end
end
theorem qu (i j:Int)(μ Q):aK (.int i) (.int j) μ Q=Q (.int (i+j)) μ:=rfl
theorem qw (i j:Str)(μ Q):aK (.str i) (.str j) μ Q=(i.length+j.length<=1000000/\Q (.str (i++j)) μ):=rfl
theorem pW (a b:List D)(μ Q):aK (.tup a) (.tup b) μ Q=(a.length+b.length<=1000000/\Q (.tup (a++b)) μ):=rfl
theorem pR (a b:List D)(μ Q):aK (.ls a) (.ls b) μ Q=(a.length+b.length<=1000000/\Q (.ls (a++b)) μ):=rfl
theorem lO (a:List D)(μ Q):bR [.tup a] μ Q=Q (.tup a) μ:=rfl
theorem kW (a:List D)(μ Q):bR [.ls a] μ Q=Q (.tup a) μ:=rfl
theorem me (a:Addr)(μ Q):bR [.obj a] μ Q=kL μ a λxs=>Q (.tup xs) μ:=rfl
theorem kK (a:List D)(μ Q):vU [.tup a] μ Q=Q (.ls a) μ:=rfl
theorem lH (a:List D)(μ Q):vU [.ls a] μ Q=Q (.ls a) μ:=rfl
theorem lM (a:Addr)(μ Q):vU [.obj a] μ Q=kL μ a λxs=>Q (.ls xs) μ:=rfl
theorem kj (a:List D)(μ Q):vd [.tup a] μ Q = ∀ p,μ p=none->Q (.obj p) (up μ p (.lst a)):=rfl
theorem lP (a:List D)(μ Q):vd [.ls a] μ Q = ∀ p,μ p=none->Q (.obj p) (up μ p (.lst a)):=rfl
theorem kY (a:Addr)(μ Q):vd [.obj a] μ Q=kL μ a λxs=>∀ p,μ p=none->Q (.obj p) (up μ p (.lst xs)):=rfl
theorem CI (a:List D)(lo hi)(μ Q):rSl (.tup a) lo hi μ Q=Q (.tup (cutD a lo hi)) μ:=rfl
theorem BX (a:List D)(lo hi)(μ Q):rSl (.ls a) lo hi μ Q=Q (.ls (cutD a lo hi)) μ:=rfl
theorem Bh (a:Addr)(lo hi)(μ Q):rSl (.obj a) lo hi μ Q=kL μ a λxs=>Q (.ls (cutD xs lo hi)) μ:=rfl
theorem As (n:Bool)(x:D)(a:List D)(μ Q):L3.rIn n x (.tup a) μ Q=((fo x=true/\a.all fo=true)/\Q (.bl (if n then !inD x a else inD x a)) μ):=rfl
theorem Ag (n:Bool)(x:D)(a:List D)(μ Q):L3.rIn n x (.ls a) μ Q=((fo x=true/\a.all fo=true)/\Q (.bl (if n then !inD x a else inD x a)) μ):=rfl
theorem Ci (n:Bool)(x:D)(a:Addr)(μ Q):L3.rIn n x (.obj a) μ Q=kL μ a λxs=>(fo x=true/\xs.all fo=true)/\Q (.bl (if n then !inD x xs else inD x xs)) μ:=rfl
theorem u5 (a:Addr)(μ Q):gA [.obj a] μ Q=kL μ a λxs=>Q (.int xs.length) μ:=rfl
theorem uc (x:Str)(μ Q):gA [.str x] μ Q=(x.length<=1000000/\Q (.int x.length) μ):=rfl
theorem z8 (μ Q):rIs .non .non μ Q=Q (.bl true) μ:=rfl
theorem Al (i:Int)(μ Q):rIs (.int i) .non μ Q=Q (.bl false) μ:=rfl
theorem Ab (i:List D)(μ Q):rIs (.tup i) .non μ Q=Q (.bl false) μ:=rfl
theorem mJ (μ Q):t7 .non .non μ Q=Q (.bl false) μ:=rfl
theorem lQ (i:Int)(μ Q):t7 (.int i) .non μ Q=Q (.bl true) μ:=rfl
theorem lX (i:List D)(μ Q):t7 (.tup i) .non μ Q=Q (.bl true) μ:=rfl
theorem vN (c:String)(i:List D)(μ Q):xZ c (.ls i) μ Q=Q (.bl (ik "list" c)) μ:=rfl
theorem ub (c:String)(i:Str)(μ Q):xZ c (.str i) μ Q=Q (.bl (ik "str" c)) μ:=rfl
theorem u3 (c:String)(μ Q):xZ c .non μ Q=Q (.bl (ik "NoneType" c)) μ:=rfl
theorem bF (k:Nat)(ds:List D):atD ds (k:Int)=ds[k]?:=by
 unfold atD L2.atI L2.ixN
 rw[if_pos (Oz k)]
 by_cases h:k < ds.length
 ·rw[if_pos (by omega)];simp
 ·rw[if_neg (by omega)];simp;omega
theorem wQ (ds:List D):atD ds 0=ds[0]?:=bF 0 ds
theorem wL (ds:List D):atD ds 1=ds[1]?:=bF 1 ds
theorem xo (ds:List D):atD ds 2=ds[2]?:=bF 2 ds
theorem wB (ds:List D):atD ds 3=ds[3]?:=bF 3 ds
theorem wF (ds:List D):atD ds 4=ds[4]?:=bF 4 ds
theorem xg (ds:List D):atD ds 5=ds[5]?:=bF 5 ds
theorem qx (n k:Nat):L2.ixN n (k:Int)=if k < n then some k else none:=by
 unfold L2.ixN
 rw[if_pos (Oz k)]
 by_cases h:k < n
 ·rw[if_pos (by omega),if_pos h];simp
 ·rw[if_neg (by omega),if_neg h]
theorem CP (n:Nat):L2.ixN n 0=if 0 < n then some 0 else none:=qx n 0
theorem Bg (n:Nat):L2.ixN n 1=if 1 < n then some 1 else none:=qx n 1
theorem z7 (n:Nat):L2.ixN n 2=if 2 < n then some 2 else none:=qx n 2
theorem iO:ik "int" "int" = true:=by decide
theorem iD:ik "int" "bool" = false:=by decide
theorem iS:ik "bool" "bool" = true:=by decide
theorem iM:ik "bool" "int" = true:=by decide
theorem iZ:ik "tuple" "tuple" = true:=by decide
theorem iW:ik "int" "tuple" = false:=by decide
theorem iE:ik "bool" "tuple" = false:=by decide
theorem fm0 {a n:Int}(h:0 < n):0<=a.fmod n:=Int.fmod_nonneg_of_pos a h
theorem fm1 {a n:Int}(h:0 < n):a.fmod n < n:=Int.fmod_lt_of_pos a h
theorem yY (A B:Prop):kIf true A B=A:=rfl
theorem Bi (A B:Prop):kIf false A B=B:=rfl
theorem A7 (p:Prop) [Decidable p] (A B:Prop):kIf (decide p) A B=if p then A else B:=by by_cases h:p<;>simp[h,kIf]
theorem BZ (c:Bool)(A B:Prop):kIf (!c) A B=kIf c B A:=by cases c<;>rfl
theorem Bw (c:Bool)(f):kB (.bl c) f=f c:=rfl
theorem vK (c:Int)(f):kI (.int c) f=f c:=rfl
theorem oX (c:D)(f):kO (some c) f=f c:=rfl
theorem tX (c:List D)(f):kS (.tup c) f=f c:=rfl
theorem BP (c:List D)(f):kS (.ls c) f=f c:=rfl
theorem uK (a b:D)(f):k2 [a,b] f=f a b:=rfl
theorem o7 (c:Nat)(f):kN (some c) f=f c:=rfl
theorem wI (μ:Mu)(a:Addr)(ds:List D)(f):kL (up μ a (.lst ds)) a f=f ds:=by unfold kL;rw[aA]
theorem Fp {μ:Mu}{a:Addr}{ds:List D}(h:μ a=some (.lst ds))(f):kL μ a f=f ds:=by unfold kL;rw[h]
theorem mi (a:Addr)(n:Int)(y:D)(μ:Mu)(f):Kh (.obj a) (.int n) y μ f=kL μ a λds=>kN (L2.ixN ds.length n) λj=>f (up μ a (.lst (ds.set j y))):=rfl
theorem uZ (i j:Int)(μ Q):uP (.int i) (.int j) μ Q=Q (.int (i - j)) μ:=rfl
theorem vh (i j:Int)(μ Q):bX (.int i) (.int j) μ Q=(MulOk i j/\Q (.int (i*j)) μ):=rfl
theorem uB (i j:Int)(μ Q):jd (.int i) (.int j) μ Q=(eM j/\Q (.int (i.fdiv j)) μ):=rfl
theorem uv (i j:Int)(μ Q):fv (.int i) (.int j) μ Q=(j≠0/\Q (.int (i.fmod j)) μ):=rfl
theorem vm (i j:Int)(μ Q):Af (.int i) (.int j) μ Q=(oG i j/\Q (.int (i ^ j.toNat)) μ):=rfl
theorem vk (i:Int)(μ Q):vL (.int i) μ Q=Q (.int (-i)) μ:=rfl
theorem AI (i j:Int)(μ Q):rLt (.int i) (.int j) μ Q=Q (.bl (decide (i < j))) μ:=rfl
theorem Bv (i j:Int)(μ Q):rLe (.int i) (.int j) μ Q=Q (.bl (decide (i<=j))) μ:=rfl
theorem A4 (i j:Int)(μ Q):rGt (.int i) (.int j) μ Q=Q (.bl (decide (j < i))) μ:=rfl
theorem Cs (i j:Int)(μ Q):rGe (.int i) (.int j) μ Q=Q (.bl (decide (j<=i))) μ:=rfl
theorem zm (x y:D)(μ Q):L3.rEq x y μ Q=((okD 40 x=true/\okD 40 y=true)/\Q (.bl (eqD x y)) μ):=rfl
theorem zr (x y:D)(μ Q):L3.rNe x y μ Q=((okD 40 x=true/\okD 40 y=true)/\Q (.bl (!eqD x y)) μ):=rfl
theorem sQ (ds:List D)(i:Int)(μ Q):L3.rIx (.tup ds) (.int i) μ Q=kO (atD ds i) λd=>Q d μ:=rfl
theorem xG (ds:List D)(i:Int)(μ Q):L3.rIx (.ls ds) (.int i) μ Q=kO (atD ds i) λd=>Q d μ:=rfl
theorem Ce (a:Addr)(i:Int)(μ Q):L3.rIx (.obj a) (.int i) μ Q=kL μ a λds=>kO (atD ds i) λd=>Q d μ:=rfl
theorem tW (c:String)(i:Int)(μ Q):xZ c (.int i) μ Q=Q (.bl (ik "int" c)) μ:=rfl
theorem uR (c:String)(i:Bool)(μ Q):xZ c (.bl i) μ Q=Q (.bl (ik "bool" c)) μ:=rfl
theorem vf (c:String)(i:List D)(μ Q):xZ c (.tup i) μ Q=Q (.bl (ik "tuple" c)) μ:=rfl
theorem vB (i:Int)(μ Q):p7 [.int i] μ Q=Q (.int (if i < 0 then -i else i)) μ:=rfl
theorem vH (i j:Int)(μ Q):Kz [.int i,.int j] μ Q=Q (.int (if j > i then j else i)) μ:=rfl
theorem uo (i j:Int)(μ Q):Kv [.int i,.int j] μ Q=Q (.int (if j < i then j else i)) μ:=rfl
theorem vq (i:Int)(μ Q):BW [.int i] μ Q=Q (.int i) μ:=rfl
theorem vA (i:Bool)(μ Q):BW [.bl i] μ Q=Q (.int (if i then 1 else 0)) μ:=rfl
theorem uV (i:List D)(μ Q):gA [.tup i] μ Q=Q (.int i.length) μ:=rfl
theorem uL (i:List D)(μ Q):gA [.ls i] μ Q=Q (.int i.length) μ:=rfl
local macro_rules | `(tactic| walk_at "rd")=>zzS "L3.ah L3.TC L3.ak L3.TUn L3.zT L3.uT L3.nW L3.TB L3.rC L3.TOr L3.tw L3.rK L3.ue L3.ar L3.ag L3.a7 L3.eI L3.jc L3.aq L3.bT L3.aG L3.va L3.zX L3.fq L3.a5 L3.BH L3.df L3.aw L3.aQ L3.rP L3.dI L3.fK L3.eU L3.dh L3.yY L3.Bi L3.A7 L3.BZ L3.Bw L3.vK L3.oX L3.tX L3.BP L3.uK L3.o7 L3.wI L3.mi L3.qu L3.qw L3.pW L3.pR L3.kU L3.kC L3.yq L3.lO L3.kW L3.me L3.kK L3.lH L3.lM L3.kj L3.lP L3.kY L3.TSl L3.ONo L3.mN L3.CI L3.BX L3.Bh L3.As L3.Ag L3.Ci L3.u5 L3.uc L3.z8 L3.Al L3.Ab L3.mJ L3.lQ L3.lX L3.vN L3.ub L3.u3 L3.uZ L3.vh L3.uB L3.uv L3.vm L3.vk L3.AI L3.Bv L3.A4 L3.Cs L3.zm L3.zr L3.sQ L3.xG L3.Ce L3.tW L3.uR L3.vf L3.vB L3.vH L3.uo L3.vq L3.vA L3.uV L3.uL L3.lk L3.ini TR NZ N8 Uu Vp Rt Pq RL SR SS L3.wQ L3.wL L3.xo L3.wB L3.wF L3.xg L3.CP L3.Bg L3.z7 Pz PB L3.aA TU Ru if_true if_false true_and and_true SU Sn So Rv Qc RY decide_eq_true_eq Pw ite_false ite_true ne_eq not_false_eq_true RZ SV SW SX SY S0 TV L3.okD L3.aO L3.eqD L3.fh Rc Rf Rg L3.iO L3.iD L3.iS L3.iM L3.iZ L3.iW L3.iE"
local macro_rules | `(tactic| walk_at "ok")=>`(tactic| (simp only[L3.eM,L3.MulOk,L3.S64,L3.ei,L3.oG] at *;omega))
def Box (μ:Mu)(b:Addr):Prop:=∃ g s c:Int,μ b=some (.lst [.int g,.int s,.int c])/\0<=s/\s < 2147483647
structure cC (b:Addr) (μ μ':Mu):Prop where
 box:Box μ' b
 oth:∀ a,a≠b->μ' a=μ a
theorem cC.trans {b:Addr}{μ μ1 μ2:Mu}(x:cC b μ μ1)(y:cC b μ1 μ2):cC b μ μ2:=⟨y.box,λa h=>(y.oth a h).trans (x.oth a h)⟩
def aB:FSp:=λds μ Q=>kcO ds λb ds=>kcI ds λn ds=>kcN ds ((Box μ b/\0 < n/\n < 18446744073709551616)/\∀ k μ',0<=k->k < n->cC b μ μ'->Q (.int k) μ')
def y8:STr:=aG (dI (ah 0) (TC (.int 2)) (ak aK (ak L3.rIx (ah 0) (TC (.int 2))) (TC (.int 1)))) (aG (df (rC (TB (ak rGt (ak L3.rIx (ah 0) (TC (.int 0))) (TC (.int 0)))) (TB (ak rLe (ak L3.rIx (ah 0) (TC (.int 2))) (TC (.int 60))))) (aG (aQ (ak fv (ak L3.rIx (ah 0) (TC (.int 0))) (ah 1)) (aw 2)) (aG (dI (ah 0) (TC (.int 0)) (ak jd (ak L3.rIx (ah 0) (TC (.int 0))) (ah 1))) (a5 (ah 2)))) (bT)) (aG (dI (ah 0) (TC (.int 1)) (ak fv (ak aK (ak aK (ak bX (ak L3.rIx (ah 0) (TC (.int 1))) (TC (.int 48271))) (TC (.int 12345))) (ak L3.rIx (ah 0) (TC (.int 2)))) (TC (.int 2147483647)))) (a5 (ak fv (ak jd (ak fv (ak bX (ak L3.rIx (ah 0) (TC (.int 1))) (ak aK (ak fv (ak L3.rIx (ah 0) (TC (.int 1))) (TC (.int 40009))) (TC (.int 3)))) (TC (.int 2147483629))) (TC (.int 7))) (ah 1)))))
theorem C5:∀ ds μ Q,aB ds μ Q->y8 { nx:=λ_ μ'=>RT Q .non μ',rt:=RT Q } (ini 3 ds) μ:=by
 intro ds μ Q h
 replace h:=ecO h
 obtain ⟨b,ds,rfl,h⟩:=h
 replace h:=ecI h
 obtain ⟨n,ds,rfl,h⟩:=h
 replace h:=ecN h
 obtain ⟨rfl,h⟩:=h
 obtain ⟨⟨⟨g,s,c,hb,s0,s1⟩,n0,n1⟩,k⟩:=h
 unfold y8
 walk_at "rd"
 repeat (simp only[Fp hb];walk_at "rd")
 have dv:eM n:=by walk_at "ok"
 have n2:n≠0:=by omega
 have fin:∀ g' s':Int,∀ d:Int,0<=s'->s' < 2147483647->0<=d->d < n->RT Q (.int d) (up (up μ b (.lst [.int g,.int s,.int (c+1)])) b (.lst [.int g',.int s',.int (c+1)])):=λg' s' d h1 h2 h3 h4=>
  ⟨_,.refl _,k d _ h3 h4 ⟨⟨g',s',c+1,aA,h1,h2⟩,λa ha=>by rw[aT ha,aT ha]⟩⟩
 have els:MulOk s 48271/\MulOk ((s*48271+12345+(c+1)).fmod 2147483647) (((s*48271+12345+(c+1)).fmod 2147483647).fmod 40009+3)/\eM 7:=by
  have h1:=fm0 (a:=s*48271+12345+(c+1)) (n:=2147483647) (by decide)
  have h2:=fm1 (a:=s*48271+12345+(c+1)) (n:=2147483647) (by decide)
  refine ⟨by walk_at "ok", ?_,by walk_at "ok"⟩
  generalize (s*48271+12345+(c+1)).fmod 2147483647=z at *
  walk_at "ok"
 obtain ⟨e1,e2,e3⟩:=els
 have w:=λg'=>fin g' ((s*48271+12345+(c+1)).fmod 2147483647) _ (fm0 (by decide)) (fm1 (by decide)) (fm0 (a:=(((s*48271+12345+(c+1)).fmod 2147483647*(((s*48271+12345+(c+1)).fmod 2147483647).fmod 40009+3)).fmod 2147483629).fdiv 7) n0) (fm1 n0)
 split
 ·split
  ·exact ⟨n2,dv,fin _ _ _ s0 s1 (fm0 n0) (fm1 n0)⟩
  ·exact ⟨e1,e2,e3,n2,w g⟩
 ·exact ⟨e1,e2,e3,n2,w g⟩
theorem Ac:∀ ds μ Q,aB ds μ Q->ds.length=2:=λ_ _ _ h=>lcO h λ_ _ h=>lcI h λ_ _ h=>by rw[(ecN h).1];rfl
theorem rZ (x y:Int):Nj y (x.fmod y)=Nj x y:=by
 rw[Int.fmod_def,Int.gcd_sub_mul_left_right,Vg]
theorem zM (a:Int):(if a < 0 then -a else a)=(a.natAbs:Int):=by
 split<;>omega
def mz (i:Nat):ST->Mu->Nat:=λρ _=>match lk ρ i with
 | some (.int z)=>z.toNat
 | _=>0
structure Fr (p q:Int):Prop where
 q0:0 < q
 q1:q < 100000000000
 p0:-100000000000 < p
 p1:p < 100000000000
 g:Nj p q=1
theorem iw {a b:Int}(h:0 < b):a.fdiv b=a / b:=Int.fdiv_eq_ediv_of_nonneg a (TX h)
def fT:FSp:=λds μ Q=>kcL ds λxs ds=>kcI ds λk ds=>kcN ds ((∃ ns:List Int,xs=ns.map .int/\0<=k/\k<=1000)/\∀ p μ',μ p=none->Box μ' p->(∀ a,a≠p->μ' a=μ a)->Q (.obj p) μ')
theorem EX:∀ ds μ Q,fT ds μ Q->ds.length=2:=λ_ _ _ h=>lcL h λ_ _ h=>lcI h λ_ _ h=>by rw[(ecN h).1];rfl
def Ft:STr:=aG (aQ (rK (TB (ak rLt (ah 1) (aq gA (ag (ah 0) (ar))))) (ak L3.rIx (ah 0) (ah 1)) (TC (.int 0))) (aw 2)) (aG (aQ (ak bX (aq p7 (ag (ah 2) (ar))) (aq BW (ag (ak rGe (aq p7 (ag (ah 2) (ar))) (ak Af (TC (.int 10)) (TC (.int 18)))) (ar)))) (aw 3)) (a5 (jc (ag (ah 3) (ag (ak fv (ak bX (ak aK (ak aK (ak fv (ah 2) (TC (.int 2147483629))) (ak bX (ak bX (TC (.int 7919)) (ah 1)) (ah 1))) (TC (.int 11))) (TC (.int 48271))) (TC (.int 2147483647))) (ag (TC (.int 0)) (ar)))))))
theorem Ca {ns:List Int}{k:Int}(h0:0<=k)(h1:k < (ns.length:Int)):∃ z,atD (ns.map D.int) k=some (.int z):=by
 rcases OT h0 with ⟨j,rfl⟩
 rw[bF]
 have hj:j < ns.length:=by omega
 exact ⟨ns[j],by simp[hj]⟩
theorem F8:∀ ds μ Q,fT ds μ Q->Ft { nx:=λ_ μ'=>RT Q .non μ',rt:=RT Q } (ini 4 ds) μ:=by
 intro ds μ Q h
 replace h:=ecL h
 obtain ⟨xs,ds,rfl,h⟩:=h
 replace h:=ecI h
 obtain ⟨k,ds,rfl,h⟩:=h
 replace h:=ecN h
 obtain ⟨rfl,h⟩:=h
 obtain ⟨⟨ns,rfl,k0,k1⟩,hk⟩:=h
 have fin:∀ c:Int,oG 10 18/\MulOk (if c < 0 then -c else c) (if decide (1000000000000000000<=(if c < 0 then -c else c))=true then 1 else 0)/\MulOk 7919 k/\MulOk (7919*k) k/\MulOk (c.fmod 2147483629+7919*k*k+11) 48271:=λc=>
  ⟨by walk_at "ok", by split<;>walk_at "ok", by walk_at "ok", by walk_at "ok", .inl (.inr (by unfold S64;omega))⟩
 unfold Ft
 walk_at "rd"
 have go:∀ c:Int,RT Q=RT Q->∀ g s:Int,0<=s->s < 2147483647->∀ p,μ p=none->RT Q (.obj p) (up μ p (.lst [.int g,.int s,.int 0])):=λc _ g s s0 s1 p hp=>
  ⟨_,.refl _,hk p _ hp ⟨g,s,0,aA,s0,s1⟩ λa ha=>aT ha⟩
 split
 ·rename_i hlt
  rw[MX] at hlt
  obtain ⟨z,ez⟩:=Ca k0 hlt
  rw[ez]
  walk_at "rd"
  obtain ⟨f1,f2,f3,f4,f5⟩:=fin z
  simp only[decide_eq_true_eq] at f2
  exact ⟨f1,f2,f3,f4,f5,λp hp=>go z rfl _ _ (fm0 (by decide)) (fm1 (by decide)) p hp⟩
 ·obtain ⟨f1,f2,f3,f4,f5⟩:=fin 0
  simp only[decide_eq_true_eq] at f2
  exact ⟨f1,f2,f3,f4,f5,λp hp=>go 0 rfl _ _ (fm0 (by decide)) (fm1 (by decide)) p hp⟩
def dW:FSp:=λds μ Q=>kcL ds λxs ds=>kcN ds ((∃ ns:List Int,xs=ns.map .int/\ns.length<=63)/\∀ μ',Q (.bl true) μ')
theorem qL:∀ ds μ Q,dW ds μ Q->ds.length=1:=λ_ _ _ h=>lcL h λ_ _ h=>by rw[(ecN h).1];rfl
theorem jr (ns:List Int)(h:ns.length<=63)(μ:Mu):dW [.ls (ns.map .int)] μ (λd _=>d=.bl true):=⟨⟨ns,rfl,h⟩,λ_=>rfl⟩
local macro_rules | `(tactic| walk_at "rd")=>zzS "L3.ah L3.TC L3.ak L3.TUn L3.zT L3.uT L3.nW L3.TB L3.rC L3.TOr L3.tw L3.rK L3.ue L3.ar L3.ag L3.a7 L3.eI L3.jc L3.aq L3.bT L3.aG L3.va L3.zX L3.fq L3.a5 L3.BH L3.df L3.aw L3.aQ L3.rP L3.dI L3.fK L3.eU L3.dh L3.bS L3.fO L3.fu L3.j1 L3.KS L3.ILs L3.yY L3.Bi L3.A7 L3.BZ L3.Bw L3.vK L3.oX L3.tX L3.BP L3.uK L3.o7 L3.wI L3.mi L3.qu L3.qw L3.pW L3.pR L3.kU L3.kC L3.yq L3.lO L3.kW L3.me L3.kK L3.lH L3.lM L3.kj L3.lP L3.kY L3.TSl L3.ONo L3.mN L3.CI L3.BX L3.Bh L3.As L3.Ag L3.Ci L3.u5 L3.uc L3.z8 L3.Al L3.Ab L3.mJ L3.lQ L3.lX L3.vN L3.ub L3.u3 L3.uZ L3.vh L3.uB L3.uv L3.vm L3.vk L3.AI L3.Bv L3.A4 L3.Cs L3.zm L3.zr L3.sQ L3.xG L3.Ce L3.tW L3.uR L3.vf L3.vB L3.vH L3.uo L3.vq L3.vA L3.uV L3.uL L3.lk L3.ini TR NZ N8 Uu Vp Rt Pq RL SR SS L3.wQ L3.wL L3.xo L3.wB L3.wF L3.xg L3.CP L3.Bg L3.z7 Pz PB L3.aA L3.oh TU Ru if_true if_false true_and and_true SU Sn So Rv Qc RY decide_eq_true_eq Pw ite_false ite_true ne_eq not_false_eq_true RZ SV SW SX SY S0 TV L3.okD L3.aO L3.eqD L3.fh Rc Rf Rg L3.iO L3.iD L3.iS L3.iM L3.iZ L3.iW L3.iE"
structure IsPart (a b p q:Int):Prop where
 q0:0 < q
 g:Nj p q=1
 e:p*b=a*q
 pa:p.natAbs<=a.natAbs
 qb:q.natAbs<=b.natAbs
theorem mC {g c:Int}(hg:0 < g):c.natAbs<=(g*c).natAbs:=by
 rw[UW]
 exact Nat.le_mul_of_pos_left _ (by omega)
theorem xu {a b:Int}(hb:b≠0):IsPart a b (a.fdiv (if b < 0 then -(Nj a b:Int) else Nj a b)) (b.fdiv (if b < 0 then -(Nj a b:Int) else Nj a b)):=by
 have gp:0 < Nj a b:=Om a hb
 have gz:0 < (Nj a b:Int):=by omega
 obtain ⟨c,hc⟩:=Uk a b
 obtain ⟨d,hd⟩:=TY a b
 have g1:=QR gp
 have e1:a / (Nj a b:Int)=c:=Oo (by omega) hc
 have e2:b / (Nj a b:Int)=d:=Oo (by omega) hd
 rw[e1,e2] at g1
 generalize (Nj a b:Int)=g at *
 clear e1 e2 gp
 subst hc hd
 have p1:=mC (c:=c) gz
 have p2:=mC (c:=d) gz
 split
 ·rename_i hneg
  have d0:d < 0:=by
   rcases PM d 0 with h | h | h
   ·exact h
   ·subst h;omega
   ·have:=Oq gz h;omega
  have x1:(g*c).fdiv (-g) = -c:=by rw[show g*c = -g * -c by rw[UA]];exact OO _ (by omega)
  have x2:(g*d).fdiv (-g) = -d:=by rw[show g*d = -g * -d by rw[UA]];exact OO _ (by omega)
  rw[x1,x2]
  refine ⟨by omega,by rw[Int.neg_gcd,Int.gcd_neg];exact g1,?_,by omega,by omega⟩
  rw[Int.neg_mul,Int.mul_neg,Oj,P9]
 ·rename_i hneg
  have d0:0 < d:=by
   rcases PM d 0 with h | h | h
   ·have:=Pj gz h;omega
   ·subst h;omega
   ·exact h
  have x1:(g*c).fdiv g=c:=OO _ (by omega)
  have x2:(g*d).fdiv g=d:=OO _ (by omega)
  rw[x1,x2]
  refine ⟨d0,g1,?_,by omega,by omega⟩
  rw[Oj,P9]
def cN:FSp:=λds μ Q=>kcI ds λa ds=>kcI ds λb ds=>kcN ds (Q (.int (Nj a b)) μ)
theorem mV:∀ ds μ Q,cN ds μ Q->ds.length=2:=λ_ _ _ h=>lcI h λ_ _ h=>lcI h λ_ _ h=>by rw[(ecN h).1];rfl
def jN:STr:=aG (aQ (aq p7 (ag (ah 0) (ar))) (aw 2)) (aG (aQ (aq p7 (ag (ah 1) (ar))) (aw 3)) (aG (pK (TB (ak rGt (ah 3) (TC (.int 0)))) (aG (aQ (ak fv (ah 2) (ah 3)) (aw 4)) (aG (aQ (ah 3) (aw 2)) (aQ (ah 4) (aw 3))))) (a5 (ah 2))))
theorem oY:∀ ds μ Q,cN ds μ Q->jN { nx:=λ_ μ'=>RT Q .non μ',rt:=RT Q } (ini 5 ds) μ:=by
 intro ds μ Q k
 replace k:=ecI k
 obtain ⟨a,ds,rfl,k⟩:=k
 replace k:=ecI k
 obtain ⟨b,ds,rfl,k⟩:=k
 replace k:=ecN k
 obtain ⟨rfl,k⟩:=k
 unfold jN
 walk_at "rd"
 refine ⟨λρ μ'=>μ'=μ/\∃ (x y:Int) (z:Option D),ρ=[some (.int a),some (.int b),some (.int x),some (.int y),z]/\0<=x/\0<=y/\Nj x y=Nj a b,mz 3,⟨rfl,_,_,_,rfl,?_,?_,?_⟩,?_⟩
 ·split<;>omega
 ·split<;>omega
 ·rw[zM,zM];unfold Nj;rw[Tf,Tf]
 ·rintro ρ _ ⟨rfl,x,y,z,rfl,x0,y0,e⟩
  walk_at "rd"
  split
  ·rename_i hy
   refine ⟨by omega,⟨_,_,_,rfl,y0,fm0 hy,?_⟩,?_⟩
   ·rw[rZ];exact e
   ·have:=fm1 (a:=x) hy
    have:=fm0 (a:=x) hy
    simp only[mz,lk]
    omega
  ·rename_i hy
   have hy0:y=0:=by omega
   subst hy0
   rw[Tg] at e
   have hx:x=(Nj a b:Int):=by omega
   subst hx
   exact ⟨_,.refl _,k⟩
def eW:FSp:=λds μ Q=>kcI ds λa ds=>kcI ds λb ds=>kcN ds ((b≠0/\ei b)/\∀ p q,IsPart a b p q->Q (.tup [.int p,.int q]) μ)
theorem CM:∀ ds μ Q,eW ds μ Q->ds.length=2:=λ_ _ _ h=>lcI h λ_ _ h=>lcI h λ_ _ h=>by rw[(ecN h).1];rfl
def CH:STr:=aG (aQ (aq cN (ag (ah 0) (ag (ah 1) (ar)))) (aw 2)) (aG (df (TB (ak rLt (ah 1) (TC (.int 0)))) (aQ (TUn vL (ah 2)) (aw 2)) (bT)) (a5 (a7 (ag (ak jd (ah 0) (ah 2)) (ag (ak jd (ah 1) (ah 2)) (ar))))))
theorem Ee:∀ ds μ Q,eW ds μ Q->CH { nx:=λ_ μ'=>RT Q .non μ',rt:=RT Q } (ini 3 ds) μ:=by
 intro ds μ Q h
 replace h:=ecI h
 obtain ⟨a,ds,rfl,h⟩:=h
 replace h:=ecI h
 obtain ⟨b,ds,rfl,h⟩:=h
 replace h:=ecN h
 obtain ⟨rfl,h⟩:=h
 obtain ⟨⟨hb,hm⟩,k⟩:=h
 have P:=k _ _ (xu (a:=a) hb)
 have gp:0 < Nj a b:=Om a hb
 have gl:Nj a b<=b.natAbs:=Int.gcd_le_natAbs_right a hb
 unfold CH
 walk_at "rd"
 show (if b < 0 then _ else _)
 split
 ·rename_i hn
  rw[if_pos hn] at P
  have dv:eM (-(Nj a b:Int)):=by walk_at "ok"
  exact ⟨dv,dv,_,.refl _,P⟩
 ·rename_i hn
  rw[if_neg hn] at P
  have dv:eM (Nj a b:Int):=by walk_at "ok"
  exact ⟨dv,dv,_,.refl _,P⟩
structure FrB (lo hi p q:Int):Prop where
 q0:0 < q
 q1:q<=10000002
 g:Nj p q=1
 ge:lo*q<=p
 le:p<=hi*q
structure FrA (lo hi p q:Int):Prop extends FrB lo hi p q where
 ab:lo*q < p
structure FrL (hi p q:Int):Prop extends FrB 0 hi p q where
 ab:0 < p
 be:p < hi*q
theorem eK {a b:Int}(b0:0 < b):∃ g p q:Int,0 < g/\a=g*p/\b=g*q/\a.fdiv (Nj a b)=p/\b.fdiv (Nj a b)=q/\0 < q/\q<=b/\Nj p q=1:=by
 have gp:0 < Nj a b:=Om a (by omega)
 have gz:0 < (Nj a b:Int):=by omega
 obtain ⟨c,hc⟩:=Uk a b
 obtain ⟨d,hd⟩:=TY a b
 have g1:=QR gp
 have e1:a / (Nj a b:Int)=c:=Oo (by omega) hc
 have e2:b / (Nj a b:Int)=d:=Oo (by omega) hd
 rw[e1,e2] at g1
 refine ⟨_,c,d,gz,hc,hd,by rw[iw gz];exact e1,by rw[iw gz];exact e2,?_,?_,g1⟩
 all_goals generalize (Nj a b:Int)=g at *
 ·rcases PM d 0 with h | h | h
  ·have:=Pj gz h;omega
  ·subst h;omega
  ·exact h
 ·have d0:0 < d:=by
   rcases PM d 0 with h | h | h
   ·have:=Pj gz h;omega
   ·subst h;omega
   ·exact h
  have h:=NV (show (1:Int)<=g by omega) (show (0:Int)<=d by omega)
  omega
theorem nJ:(MK "still" = MK "step")=False:=eq_false (by decide +kernel)
theorem my:(MK "still" = MK "swell")=False:=eq_false (by decide +kernel)
theorem nM:(MK "still" = MK "heed")=False:=eq_false (by decide +kernel)
theorem mZ:(MK "still" = MK "calm")=False:=eq_false (by decide +kernel)
theorem nB:(MK "step" = MK "still")=False:=eq_false (by decide +kernel)
theorem ng:(MK "step" = MK "swell")=False:=eq_false (by decide +kernel)
theorem pP:(MK "step" = MK "heed")=False:=eq_false (by decide +kernel)
theorem qm:(MK "step" = MK "calm")=False:=eq_false (by decide +kernel)
theorem kM:(MK "swell" = MK "still")=False:=eq_false (by decide +kernel)
theorem m4:(MK "swell" = MK "step")=False:=eq_false (by decide +kernel)
theorem nU:(MK "swell" = MK "heed")=False:=eq_false (by decide +kernel)
theorem nh:(MK "swell" = MK "calm")=False:=eq_false (by decide +kernel)
theorem nq:(MK "heed" = MK "still")=False:=eq_false (by decide +kernel)
theorem pQ:(MK "heed" = MK "step")=False:=eq_false (by decide +kernel)
theorem mR:(MK "heed" = MK "swell")=False:=eq_false (by decide +kernel)
theorem qv:(MK "heed" = MK "calm")=False:=eq_false (by decide +kernel)
theorem mS:(MK "calm" = MK "still")=False:=eq_false (by decide +kernel)
theorem pj:(MK "calm" = MK "step")=False:=eq_false (by decide +kernel)
theorem nj:(MK "calm" = MK "swell")=False:=eq_false (by decide +kernel)
theorem pM:(MK "calm" = MK "heed")=False:=eq_false (by decide +kernel)
theorem xV:M7 (MK "still")=true:=by decide +kernel
theorem zQ:M7 (MK "step")=true:=by decide +kernel
theorem yg:M7 (MK "swell")=true:=by decide +kernel
theorem zx:M7 (MK "heed")=true:=by decide +kernel
theorem AL:M7 (MK "calm")=true:=by decide +kernel
abbrev fr (p q:Int):D:=.tup [.int p,.int q]
theorem dO (i:Decidable (MK "still" = MK "step")):@decide (MK "still" = MK "step") i=false:=by cases i with | isTrue h=>exact absurd h (by rw[nJ];exact not_false) | isFalse _=>rfl
theorem cT (i:Decidable (MK "still" = MK "swell")):@decide (MK "still" = MK "swell") i=false:=by cases i with | isTrue h=>exact absurd h (by rw[my];exact not_false) | isFalse _=>rfl
theorem d7 (i:Decidable (MK "still" = MK "heed")):@decide (MK "still" = MK "heed") i=false:=by cases i with | isTrue h=>exact absurd h (by rw[nM];exact not_false) | isFalse _=>rfl
theorem eu (i:Decidable (MK "still" = MK "calm")):@decide (MK "still" = MK "calm") i=false:=by cases i with | isTrue h=>exact absurd h (by rw[mZ];exact not_false) | isFalse _=>rfl
theorem dU (i:Decidable (MK "step" = MK "still")):@decide (MK "step" = MK "still") i=false:=by cases i with | isTrue h=>exact absurd h (by rw[nB];exact not_false) | isFalse _=>rfl
theorem d9 (i:Decidable (MK "step" = MK "swell")):@decide (MK "step" = MK "swell") i=false:=by cases i with | isTrue h=>exact absurd h (by rw[ng];exact not_false) | isFalse _=>rfl
theorem eX (i:Decidable (MK "step" = MK "heed")):@decide (MK "step" = MK "heed") i=false:=by cases i with | isTrue h=>exact absurd h (by rw[pP];exact not_false) | isFalse _=>rfl
theorem eV (i:Decidable (MK "step" = MK "calm")):@decide (MK "step" = MK "calm") i=false:=by cases i with | isTrue h=>exact absurd h (by rw[qm];exact not_false) | isFalse _=>rfl
theorem cW (i:Decidable (MK "swell" = MK "still")):@decide (MK "swell" = MK "still") i=false:=by cases i with | isTrue h=>exact absurd h (by rw[kM];exact not_false) | isFalse _=>rfl
theorem dY (i:Decidable (MK "swell" = MK "step")):@decide (MK "swell" = MK "step") i=false:=by cases i with | isTrue h=>exact absurd h (by rw[m4];exact not_false) | isFalse _=>rfl
theorem dQ (i:Decidable (MK "swell" = MK "heed")):@decide (MK "swell" = MK "heed") i=false:=by cases i with | isTrue h=>exact absurd h (by rw[nU];exact not_false) | isFalse _=>rfl
theorem dG (i:Decidable (MK "swell" = MK "calm")):@decide (MK "swell" = MK "calm") i=false:=by cases i with | isTrue h=>exact absurd h (by rw[nh];exact not_false) | isFalse _=>rfl
theorem dX (i:Decidable (MK "heed" = MK "still")):@decide (MK "heed" = MK "still") i=false:=by cases i with | isTrue h=>exact absurd h (by rw[nq];exact not_false) | isFalse _=>rfl
theorem fb (i:Decidable (MK "heed" = MK "step")):@decide (MK "heed" = MK "step") i=false:=by cases i with | isTrue h=>exact absurd h (by rw[pQ];exact not_false) | isFalse _=>rfl
theorem eC (i:Decidable (MK "heed" = MK "swell")):@decide (MK "heed" = MK "swell") i=false:=by cases i with | isTrue h=>exact absurd h (by rw[mR];exact not_false) | isFalse _=>rfl
theorem eP (i:Decidable (MK "heed" = MK "calm")):@decide (MK "heed" = MK "calm") i=false:=by cases i with | isTrue h=>exact absurd h (by rw[qv];exact not_false) | isFalse _=>rfl
theorem dZ (i:Decidable (MK "calm" = MK "still")):@decide (MK "calm" = MK "still") i=false:=by cases i with | isTrue h=>exact absurd h (by rw[mS];exact not_false) | isFalse _=>rfl
theorem fk (i:Decidable (MK "calm" = MK "step")):@decide (MK "calm" = MK "step") i=false:=by cases i with | isTrue h=>exact absurd h (by rw[pj];exact not_false) | isFalse _=>rfl
theorem dN (i:Decidable (MK "calm" = MK "swell")):@decide (MK "calm" = MK "swell") i=false:=by cases i with | isTrue h=>exact absurd h (by rw[nj];exact not_false) | isFalse _=>rfl
theorem e8 (i:Decidable (MK "calm" = MK "heed")):@decide (MK "calm" = MK "heed") i=false:=by cases i with | isTrue h=>exact absurd h (by rw[pM];exact not_false) | isFalse _=>rfl
theorem qi (a:Str)(i:Decidable (a=a)):@decide (a=a) i=true:=by cases i with | isTrue _=>rfl | isFalse h=>exact absurd rfl h
def kLs (x:D)(f:List D->Prop):Prop:=match x with
 | .ls ds=>f ds
 | _=>False
def kP (sp:FSp)(ds:List D)(μ:Mu)(Q:DK):Prop:=sp ds μ Q
def LEN (ds:List D)(P:Prop):Prop:=ds.length<=1000000/\P
theorem Iu (d:D)(r:ST)(μ:Mu)(Q:DK):ah 0 (some d::r) μ Q=Q d μ:=propext MT
theorem Dv (x0:Option D)(r:ST)(d:D)(μ:Mu)(k:ST->Mu->Prop):aw 0 d (x0::r) μ k=k (some d::r) μ:=propext MT
theorem Ib (x0:Option D)(d:D)(r:ST)(μ:Mu)(Q:DK):ah 1 (x0::some d::r) μ Q=Q d μ:=propext MT
theorem EC (x0 x1:Option D)(r:ST)(d:D)(μ:Mu)(k:ST->Mu->Prop):aw 1 d (x0::x1::r) μ k=k (x0::some d::r) μ:=propext MT
theorem GS (x0 x1:Option D)(d:D)(r:ST)(μ:Mu)(Q:DK):ah 2 (x0::x1::some d::r) μ Q=Q d μ:=propext MT
theorem Eb (x0 x1 x2:Option D)(r:ST)(d:D)(μ:Mu)(k:ST->Mu->Prop):aw 2 d (x0::x1::x2::r) μ k=k (x0::x1::some d::r) μ:=propext MT
theorem Gx (x0 x1 x2:Option D)(d:D)(r:ST)(μ:Mu)(Q:DK):ah 3 (x0::x1::x2::some d::r) μ Q=Q d μ:=propext MT
theorem E7 (x0 x1 x2 x3:Option D)(r:ST)(d:D)(μ:Mu)(k:ST->Mu->Prop):aw 3 d (x0::x1::x2::x3::r) μ k=k (x0::x1::x2::some d::r) μ:=propext MT
theorem IS (x0 x1 x2 x3:Option D)(d:D)(r:ST)(μ:Mu)(Q:DK):ah 4 (x0::x1::x2::x3::some d::r) μ Q=Q d μ:=propext MT
theorem DB (x0 x1 x2 x3 x4:Option D)(r:ST)(d:D)(μ:Mu)(k:ST->Mu->Prop):aw 4 d (x0::x1::x2::x3::x4::r) μ k=k (x0::x1::x2::x3::some d::r) μ:=propext MT
theorem Gk (x0 x1 x2 x3 x4:Option D)(d:D)(r:ST)(μ:Mu)(Q:DK):ah 5 (x0::x1::x2::x3::x4::some d::r) μ Q=Q d μ:=propext MT
theorem E4 (x0 x1 x2 x3 x4 x5:Option D)(r:ST)(d:D)(μ:Mu)(k:ST->Mu->Prop):aw 5 d (x0::x1::x2::x3::x4::x5::r) μ k=k (x0::x1::x2::x3::x4::some d::r) μ:=propext MT
theorem Jq (x0 x1 x2 x3 x4 x5:Option D)(d:D)(r:ST)(μ:Mu)(Q:DK):ah 6 (x0::x1::x2::x3::x4::x5::some d::r) μ Q=Q d μ:=propext MT
theorem C1 (x0 x1 x2 x3 x4 x5 x6:Option D)(r:ST)(d:D)(μ:Mu)(k:ST->Mu->Prop):aw 6 d (x0::x1::x2::x3::x4::x5::x6::r) μ k=k (x0::x1::x2::x3::x4::x5::some d::r) μ:=propext MT
theorem Ir (x0 x1 x2 x3 x4 x5 x6:Option D)(d:D)(r:ST)(μ:Mu)(Q:DK):ah 7 (x0::x1::x2::x3::x4::x5::x6::some d::r) μ Q=Q d μ:=propext MT
theorem EG (x0 x1 x2 x3 x4 x5 x6 x7:Option D)(r:ST)(d:D)(μ:Mu)(k:ST->Mu->Prop):aw 7 d (x0::x1::x2::x3::x4::x5::x6::x7::r) μ k=k (x0::x1::x2::x3::x4::x5::x6::some d::r) μ:=propext MT
theorem Gr (x0 x1 x2 x3 x4 x5 x6 x7:Option D)(d:D)(r:ST)(μ:Mu)(Q:DK):ah 8 (x0::x1::x2::x3::x4::x5::x6::x7::some d::r) μ Q=Q d μ:=propext MT
theorem Fd (x0 x1 x2 x3 x4 x5 x6 x7 x8:Option D)(r:ST)(d:D)(μ:Mu)(k:ST->Mu->Prop):aw 8 d (x0::x1::x2::x3::x4::x5::x6::x7::x8::r) μ k=k (x0::x1::x2::x3::x4::x5::x6::x7::some d::r) μ:=propext MT
theorem HK (x0 x1 x2 x3 x4 x5 x6 x7 x8:Option D)(d:D)(r:ST)(μ:Mu)(Q:DK):ah 9 (x0::x1::x2::x3::x4::x5::x6::x7::x8::some d::r) μ Q=Q d μ:=propext MT
theorem DE (x0 x1 x2 x3 x4 x5 x6 x7 x8 x9:Option D)(r:ST)(d:D)(μ:Mu)(k:ST->Mu->Prop):aw 9 d (x0::x1::x2::x3::x4::x5::x6::x7::x8::x9::r) μ k=k (x0::x1::x2::x3::x4::x5::x6::x7::x8::some d::r) μ:=propext MT
theorem Ff (x0 x1 x2 x3 x4 x5 x6 x7 x8 x9:Option D)(d:D)(r:ST)(μ:Mu)(Q:DK):ah 10 (x0::x1::x2::x3::x4::x5::x6::x7::x8::x9::some d::r) μ Q=Q d μ:=propext MT
theorem AS (x0 x1 x2 x3 x4 x5 x6 x7 x8 x9 x10:Option D)(r:ST)(d:D)(μ:Mu)(k:ST->Mu->Prop):aw 10 d (x0::x1::x2::x3::x4::x5::x6::x7::x8::x9::x10::r) μ k=k (x0::x1::x2::x3::x4::x5::x6::x7::x8::x9::some d::r) μ:=propext MT
theorem AK (x0 x1 x2 x3 x4 x5 x6 x7 x8 x9 x10 x11:Option D)(r:ST)(d:D)(μ:Mu)(k:ST->Mu->Prop):aw 11 d (x0::x1::x2::x3::x4::x5::x6::x7::x8::x9::x10::x11::r) μ k=k (x0::x1::x2::x3::x4::x5::x6::x7::x8::x9::x10::some d::r) μ:=propext MT
theorem BY (x0 x1 x2 x3 x4 x5 x6 x7 x8 x9 x10 x11 x12:Option D)(r:ST)(d:D)(μ:Mu)(k:ST->Mu->Prop):aw 12 d (x0::x1::x2::x3::x4::x5::x6::x7::x8::x9::x10::x11::x12::r) μ k=k (x0::x1::x2::x3::x4::x5::x6::x7::x8::x9::x10::x11::some d::r) μ:=propext MT
theorem DW (x0 x1 x2 x3 x4 x5 x6 x7 x8 x9 x10 x11 x12:Option D)(d:D)(r:ST)(μ:Mu)(Q:DK):ah 13 (x0::x1::x2::x3::x4::x5::x6::x7::x8::x9::x10::x11::x12::some d::r) μ Q=Q d μ:=propext MT
theorem Cu (x0 x1 x2 x3 x4 x5 x6 x7 x8 x9 x10 x11 x12 x13:Option D)(r:ST)(d:D)(μ:Mu)(k:ST->Mu->Prop):aw 13 d (x0::x1::x2::x3::x4::x5::x6::x7::x8::x9::x10::x11::x12::x13::r) μ k=k (x0::x1::x2::x3::x4::x5::x6::x7::x8::x9::x10::x11::x12::some d::r) μ:=propext MT
theorem EY (x0 x1 x2 x3 x4 x5 x6 x7 x8 x9 x10 x11 x12 x13:Option D)(d:D)(r:ST)(μ:Mu)(Q:DK):ah 14 (x0::x1::x2::x3::x4::x5::x6::x7::x8::x9::x10::x11::x12::x13::some d::r) μ Q=Q d μ:=propext MT
theorem Am (x0 x1 x2 x3 x4 x5 x6 x7 x8 x9 x10 x11 x12 x13 x14:Option D)(r:ST)(d:D)(μ:Mu)(k:ST->Mu->Prop):aw 14 d (x0::x1::x2::x3::x4::x5::x6::x7::x8::x9::x10::x11::x12::x13::x14::r) μ k=k (x0::x1::x2::x3::x4::x5::x6::x7::x8::x9::x10::x11::x12::x13::some d::r) μ:=propext MT
theorem DS (x0 x1 x2 x3 x4 x5 x6 x7 x8 x9 x10 x11 x12 x13 x14:Option D)(d:D)(r:ST)(μ:Mu)(Q:DK):ah 15 (x0::x1::x2::x3::x4::x5::x6::x7::x8::x9::x10::x11::x12::x13::x14::some d::r) μ Q=Q d μ:=propext MT
theorem zD (x0 x1 x2 x3 x4 x5 x6 x7 x8 x9 x10 x11 x12 x13 x14 x15:Option D)(r:ST)(d:D)(μ:Mu)(k:ST->Mu->Prop):aw 15 d (x0::x1::x2::x3::x4::x5::x6::x7::x8::x9::x10::x11::x12::x13::x14::x15::r) μ k=k (x0::x1::x2::x3::x4::x5::x6::x7::x8::x9::x10::x11::x12::x13::x14::some d::r) μ:=propext MT
theorem Lz (d:D)(ρ:ST)(μ:Mu)(Q:DK):TC d ρ μ Q=Q d μ:=propext MT
theorem Jx (r:DR2)(a b:ETr)(ρ:ST)(μ:Mu)(Q:DK):ak r a b ρ μ Q=a ρ μ λx μ1=>b ρ μ1 λy μ2=>r x y μ2 Q:=propext MT
theorem Lm (r:DR)(a:ETr)(ρ:ST)(μ:Mu)(Q:DK):TUn r a ρ μ Q=a ρ μ λx μ1=>r x μ1 Q:=propext MT
theorem Hg (a b:ETr)(ρ:ST)(μ:Mu)(Q:DK):uT a b ρ μ Q=a ρ μ λx μ1=>kB x λc=>kIf c (Q (.bl true) μ1) (b ρ μ1 Q):=propext MT
theorem Ef (a:ETr)(ρ:ST)(μ:Mu)(Q:DK):nW a ρ μ Q=a ρ μ λx μ1=>kB x λc=>Q (.bl (!c)) μ1:=propext MT
theorem Mk (t:ETr)(ρ:ST)(μ:Mu)(Q:Bool->Mu->Prop):TB t ρ μ Q=t ρ μ λx μ1=>kB x λc=>Q c μ1:=propext MT
theorem IX (t u:TTr)(ρ:ST)(μ:Mu)(Q:Bool->Mu->Prop):rC t u ρ μ Q=t ρ μ λc μ1=>kIf c (u ρ μ1 Q) (Q false μ1):=propext MT
theorem JB (t u:TTr)(ρ:ST)(μ:Mu)(Q:Bool->Mu->Prop):TOr t u ρ μ Q=t ρ μ λc μ1=>kIf c (Q true μ1) (u ρ μ1 Q):=propext MT
theorem IP (t:TTr)(ρ:ST)(μ:Mu)(Q:Bool->Mu->Prop):tw t ρ μ Q=t ρ μ λc μ1=>Q (!c) μ1:=propext MT
theorem GR (c:TTr)(a b:ETr)(ρ:ST)(μ:Mu)(Q:DK):rK c a b ρ μ Q=c ρ μ λk μ1=>kIf k (a ρ μ1 Q) (b ρ μ1 Q):=propext MT
theorem GW (ρ:ST)(μ:Mu)(Q:List D->Mu->Prop):ar ρ μ Q=Q [] μ:=propext MT
theorem Df (a:ETr)(r:ATr)(ρ:ST)(μ:Mu)(Q:List D->Mu->Prop):ag a r ρ μ Q=a ρ μ λx μ1=>r ρ μ1 λxs μ2=>Q (x::xs) μ2:=propext MT
theorem Je (t:ATr)(ρ:ST)(μ:Mu)(Q:DK):a7 t ρ μ Q=t ρ μ λds μ1=>LEN ds (Q (.tup ds) μ1):=propext MT
theorem HL (t:ATr)(ρ:ST)(μ:Mu)(Q:DK):eI t ρ μ Q=t ρ μ λds μ1=>LEN ds (Q (.ls ds) μ1):=propext MT
theorem Ie (t:ATr)(ρ:ST)(μ:Mu)(Q:DK):jc t ρ μ Q=t ρ μ λds μ1=>LEN ds (∀ p,μ1 p=none->Q (.obj p) (up μ1 p (.lst ds))):=propext MT
theorem E3 (sp:FSp)(t:ATr)(ρ:ST)(μ:Mu)(Q:DK):aq sp t ρ μ Q=t ρ μ λds μ1=>kP sp ds μ1 Q:=propext MT
theorem DN (nx:ST->Mu->Prop)(rt:DK)(bk ct:ST->Mu->Prop)(ρ:ST)(μ:Mu):bT ⟨nx,rt,bk,ct⟩ ρ μ=nx ρ μ:=propext MT
theorem HE (t u:STr)(nx:ST->Mu->Prop)(rt:DK)(bk ct:ST->Mu->Prop)(ρ:ST)(μ:Mu):aG t u ⟨nx,rt,bk,ct⟩ ρ μ=t ⟨u ⟨nx,rt,bk,ct⟩,rt,bk,ct⟩ ρ μ:=propext MT
theorem EV (e:ETr)(nx:ST->Mu->Prop)(rt:DK)(bk ct:ST->Mu->Prop)(ρ:ST)(μ:Mu):fq e ⟨nx,rt,bk,ct⟩ ρ μ=e ρ μ λ_ μ1=>nx ρ μ1:=propext MT
theorem Hi (e:ETr)(nx:ST->Mu->Prop)(rt:DK)(bk ct:ST->Mu->Prop)(ρ:ST)(μ:Mu):a5 e ⟨nx,rt,bk,ct⟩ ρ μ=e ρ μ rt:=propext MT
theorem F4 (c:TTr)(t u:STr)(nx:ST->Mu->Prop)(rt:DK)(bk ct:ST->Mu->Prop)(ρ:ST)(μ:Mu):df c t u ⟨nx,rt,bk,ct⟩ ρ μ=c ρ μ λb μ1=>kIf b (t ⟨nx,rt,bk,ct⟩ ρ μ1) (u ⟨nx,rt,bk,ct⟩ ρ μ1):=propext MT
theorem F7 (e:ETr)(g:GTr)(nx:ST->Mu->Prop)(rt:DK)(bk ct:ST->Mu->Prop)(ρ:ST)(μ:Mu):aQ e g ⟨nx,rt,bk,ct⟩ ρ μ=e ρ μ λd μ1=>g d ρ μ1 nx:=propext MT
theorem G1 (i j:Nat)(a:ATr)(nx:ST->Mu->Prop)(rt:DK)(bk ct:ST->Mu->Prop)(ρ:ST)(μ:Mu):rP i j a ⟨nx,rt,bk,ct⟩ ρ μ=a ρ μ λds μ1=>k2 ds λv w=>aw i v ρ μ1 λρ2 μ2=>aw j w ρ2 μ2 nx:=propext MT
theorem I0 (it:ATr)(g:GTr)(b:STr)(nx:ST->Mu->Prop)(rt:DK)(bk ct:ST->Mu->Prop)(ρ:ST)(μ:Mu):fK it g b ⟨nx,rt,bk,ct⟩ ρ μ=it ρ μ λds μ1=>forR g b ⟨nx,rt,bk,ct⟩ ds ρ μ1:=propext MT
theorem xR (a:ETr)(ρ:ST)(μ:Mu)(Q:List D->Mu->Prop):eU a ρ μ Q=a ρ μ λx μ1=>kI x λj=>(-4611686018427387904<=j/\j < 4611686018427387904)/\Q (cV 0 j.toNat) μ1:=propext MT
theorem wj (a:ETr)(ρ:ST)(μ:Mu)(Q:List D->Mu->Prop):KJ (ag a ar) ρ μ Q=a ρ μ λx μ1=>kLs x λds=>Q (gW ds) μ1:=propext (Iff.of_eq (congrArg (a ρ μ) (funext λx=>funext λμ1=>by cases x<;>rfl)))
theorem G6 (a:ETr)(ρ:ST)(μ:Mu)(Q:DK):yq a ρ μ Q=a ρ μ λx μ1=>kObj x λb=>kL μ1 b λds=>Q (.ls ds) (dn μ1 b):=propext MT
theorem ID (To Te:ETr)(ρ:ST)(μ:Mu)(Q:DK):kU To Te ρ μ Q=To ρ μ λx μ1=>kObj x λa=>kL μ1 a λ_=>Te ρ μ1 λy μ2=>kL μ2 a λds=>ds.length < 1000000/\Q .non (up μ2 a (.lst (ds++[y]))):=propext MT
theorem Lo (a:ETr)(lo hi:OTr)(ρ:ST)(μ:Mu)(Q:DK):TSl a lo hi ρ μ Q=a ρ μ λx μ1=>lo ρ μ1 λl μ2=>hi ρ μ2 λh μ3=>rSl x l h μ3 Q:=propext MT
theorem JZ (ρ:ST)(μ:Mu)(Q:Option Int->Mu->Prop):ONo ρ μ Q=Q none μ:=propext MT
theorem Iw (T:ETr)(ρ:ST)(μ:Mu)(Q:Option Int->Mu->Prop):mN T ρ μ Q=T ρ μ λx μ1=>kI x λi=>Q (some i) μ1:=propext MT
theorem Gj (i0 i1:Nat)(d0 d1:D)(ρ:ST)(μ:Mu)(k:ST->Mu->Prop):dR [i0,i1] (.tup [d0,d1]) ρ μ k=aw i0 d0 ρ μ λρ1 _=>aw i1 d1 ρ1 μ λρ2 _=>k ρ2 μ:=by simp[dR,fV,aw]
theorem IQ (i0 i1 i2 i3 i4:Nat)(d0 d1 d2 d3 d4:D)(ρ:ST)(μ:Mu)(k:ST->Mu->Prop):dR [i0,i1,i2,i3,i4] (.tup [d0,d1,d2,d3,d4]) ρ μ k=aw i0 d0 ρ μ λρ1 _=>aw i1 d1 ρ1 μ λρ2 _=>aw i2 d2 ρ2 μ λρ3 _=>aw i3 d3 ρ3 μ λρ4 _=>aw i4 d4 ρ4 μ λρ5 _=>k ρ5 μ:=by simp[dR,fV,aw]
theorem IM (i0 i1 i2 i3 i4 i5:Nat)(d0 d1 d2 d3 d4 d5:D)(ρ:ST)(μ:Mu)(k:ST->Mu->Prop):dR [i0,i1,i2,i3,i4,i5] (.tup [d0,d1,d2,d3,d4,d5]) ρ μ k=aw i0 d0 ρ μ λρ1 _=>aw i1 d1 ρ1 μ λρ2 _=>aw i2 d2 ρ2 μ λρ3 _=>aw i3 d3 ρ3 μ λρ4 _=>aw i4 d4 ρ4 μ λρ5 _=>aw i5 d5 ρ5 μ λρ6 _=>k ρ6 μ:=by simp[dR,fV,aw]
theorem K8 (P:Prop):LEN [] P=P:=by simp[LEN]
theorem Lh (x0:D)(P:Prop):LEN [x0] P=P:=by simp[LEN]
theorem Kn (x0 x1:D)(P:Prop):LEN [x0,x1] P=P:=by simp[LEN]
theorem JD (x0 x1 x2:D)(P:Prop):LEN [x0,x1,x2] P=P:=by simp[LEN]
theorem KH (x0 x1 x2 x3 x4:D)(P:Prop):LEN [x0,x1,x2,x3,x4] P=P:=by simp[LEN]
theorem Ko (x0 x1 x2 x3 x4 x5:D)(P:Prop):LEN [x0,x1,x2,x3,x4,x5] P=P:=by simp[LEN]
theorem Ht (x0:D)(r:List D)(μ:Mu)(Q:DK):L3.rIx (.tup (x0::r)) (.int 0) μ Q=Q x0 μ:=by rw[sQ];exact congrArg (λo=>kO o λd=>Q d μ) (bF 0 _)
theorem HF (x0:D)(r:List D)(μ:Mu)(Q:DK):L3.rIx (.ls (x0::r)) (.int 0) μ Q=Q x0 μ:=by rw[xG];exact congrArg (λo=>kO o λd=>Q d μ) (bF 0 _)
theorem GY (x0 x1:D)(r:List D)(μ:Mu)(Q:DK):L3.rIx (.tup (x0::x1::r)) (.int 1) μ Q=Q x1 μ:=by rw[sQ];exact congrArg (λo=>kO o λd=>Q d μ) (bF 1 _)
theorem Im (i j:Int)(μ:Mu)(Q:DK):L3.rEq (.int i) (.int j) μ Q=Q (.bl (decide (i=j))) μ:=by simp[L3.rEq,okD,eqD]
theorem HP (i j:Str)(μ:Mu)(Q:DK):L3.rEq (.str i) (.str j) μ Q=((M7 i=true/\M7 j=true)/\Q (.bl (decide (i=j))) μ):=by simp[L3.rEq,okD,eqD]
theorem Ho (i:Int)(μ:Mu)(Q:DK):kP p7 [.int i] μ Q=Q (.int (if i < 0 then -i else i)) μ:=propext MT
theorem BQ (a:List D)(μ:Mu)(Q:DK):kP bR [.ls a] μ Q=Q (.tup a) μ:=propext MT
theorem CN (a:Addr)(μ:Mu)(Q:DK):kP bR [.obj a] μ Q=kL μ a λxs=>Q (.tup xs) μ:=propext MT
theorem Hx (a:Addr)(μ:Mu)(Q:DK):kP gA [.obj a] μ Q=kL μ a λxs=>Q (.int xs.length) μ:=propext MT
theorem Cg (a:List D)(μ:Mu)(Q:DK):kP gA [.tup a] μ Q=Q (.int a.length) μ:=propext MT
theorem JO (n:Nat)(i:Int):okD n (.int i)=true:=by cases n<;>simp[okD]
theorem Ka (n:Nat)(x:Str):okD n (.str x)=M7 x:=by cases n<;>simp[okD]
theorem He (n:Nat)(ds:List D):okD (n+1) (.tup ds)=aO n ds:=by simp[okD]
theorem Gq (n:Nat)(ds:List D):okD (n+1) (.ls ds)=aO n ds:=by simp[okD]
theorem xk (n:Nat):aO n []=true:=by simp[aO]
theorem r8 (n:Nat)(d:D)(r:List D):aO n (d::r)=(okD n d&&aO n r):=by simp[aO]
theorem FH (i j:Int):eqD (.int i) (.int j)=decide (i=j):=by simp[eqD]
theorem FO (i j:Str):eqD (.str i) (.str j)=decide (i=j):=by simp[eqD]
theorem FY (a b:List D):eqD (.tup a) (.tup b)=fh a b:=by simp[eqD]
theorem FL (a b:List D):eqD (.ls a) (.ls b)=fh a b:=by simp[eqD]
theorem w8  : fh [] []=true:=by simp[fh]
theorem zl (b:D)(s:List D):fh (b::s) []=false:=by simp[fh]
theorem Ej (A B:Prop):kIf true A B=A:=propext MT
theorem E5 (A B:Prop):kIf false A B=B:=propext MT
theorem C6 (c:Bool)(f):kB (.bl c) f=f c:=propext MT
theorem zR (c:Int)(f):kI (.int c) f=f c:=propext MT
theorem xN (c:D)(f):kO (some c) f=f c:=propext MT
theorem z9 (c:List D)(f):kS (.tup c) f=f c:=propext MT
theorem EF (c:List D)(f):kS (.ls c) f=f c:=propext MT
theorem AG (a b:D)(f):k2 [a,b] f=f a b:=propext MT
theorem xI (c:Nat)(f):kN (some c) f=f c:=propext MT
theorem yB (i j:Int)(μ Q):aK (.int i) (.int j) μ Q=Q (.int (i+j)) μ:=propext MT
theorem yJ (a b:List D)(μ Q):aK (.tup a) (.tup b) μ Q=(a.length+b.length<=1000000/\Q (.tup (a++b)) μ):=propext MT
theorem yo (a b:List D)(μ Q):aK (.ls a) (.ls b) μ Q=(a.length+b.length<=1000000/\Q (.ls (a++b)) μ):=propext MT
theorem AE (i j:Int)(μ Q):uP (.int i) (.int j) μ Q=Q (.int (i - j)) μ:=propext MT
theorem Aq (i j:Int)(μ Q):bX (.int i) (.int j) μ Q=(MulOk i j/\Q (.int (i*j)) μ):=propext MT
theorem BA (i j:Int)(μ Q):jd (.int i) (.int j) μ Q=(eM j/\Q (.int (i.fdiv j)) μ):=propext MT
theorem zf (i j:Int)(μ Q):fv (.int i) (.int j) μ Q=(j≠0/\Q (.int (i.fmod j)) μ):=propext MT
theorem Ck (i j:Int)(μ Q):Af (.int i) (.int j) μ Q=(oG i j/\Q (.int (i ^ j.toNat)) μ):=propext MT
theorem AR (i:Int)(μ Q):vL (.int i) μ Q=Q (.int (-i)) μ:=propext MT
theorem CT (i j:Int)(μ Q):rLt (.int i) (.int j) μ Q=Q (.bl (decide (i < j))) μ:=propext MT
theorem Ew (i j:Int)(μ Q):rLe (.int i) (.int j) μ Q=Q (.bl (decide (i<=j))) μ:=propext MT
theorem EM (i j:Int)(μ Q):rGt (.int i) (.int j) μ Q=Q (.bl (decide (j < i))) μ:=propext MT
theorem EB (a:Addr)(i:Int)(μ Q):L3.rIx (.obj a) (.int i) μ Q=kL μ a λds=>kO (atD ds i) λd=>Q d μ:=propext MT
theorem Dy (μ Q):rIs .non .non μ Q=Q (.bl true) μ:=propext MT
theorem Eh (a:List D)(lo hi)(μ Q):rSl (.tup a) lo hi μ Q=Q (.tup (cutD a lo hi)) μ:=propext MT
theorem D2 (a:List D)(lo hi)(μ Q):rSl (.ls a) lo hi μ Q=Q (.ls (cutD a lo hi)) μ:=propext MT
theorem w6 (ds:List D)(i:Int)(μ Q):L3.rIx (.tup ds) (.int i) μ Q=kO (atD ds i) λd=>Q d μ:=propext MT
theorem xh (ds:List D)(i:Int)(μ Q):L3.rIx (.ls ds) (.int i) μ Q=kO (atD ds i) λd=>Q d μ:=propext MT
theorem wA (x y:D)(μ Q):L3.rEq x y μ Q=((okD 40 x=true/\okD 40 y=true)/\Q (.bl (eqD x y)) μ):=propext MT
theorem wH (x y:D)(μ Q):L3.rNe x y μ Q=((okD 40 x=true/\okD 40 y=true)/\Q (.bl (!eqD x y)) μ):=propext MT
theorem kif {p:Prop} [Decidable p] {A B:Prop}(h1:p->A)(h2:¬ p->B):kIf (decide p) A B:=by
 by_cases h:p
 ·rw[decide_eq_true h];exact h1 h
 ·rw[decide_eq_false h];exact h2 h
theorem wm {o:Option D}{d:D}{f:D->Prop}(e:o=some d)(h:f d):kO o f:=by rw[e];exact h
theorem bh {μ:Mu}{a:Addr}{ds:List D}{f:List D->Prop}(e:μ a=some (.lst ds))(h:f ds):kL μ a f:=by rw[Fp e];exact h
section
open PySem PySem.Spec PyProof.Rows L2
def F3 (kvs:List (Str×D))(s:Str):Option D:=(kvs.find? λkv=>decide (kv.1=s)).map (·.2)
def wG (K:ML):List Rp->List (Str×D)->Prop
 | [],[]=>True
 | e::es,(x,d)::r=>(∃ t,e.key=.str x t)/\(∃ v,RelV v e.val/\∀ H,Dp K H v d)/\wG K es r
 | _,_=>False
theorem sV (s x:Str)(t:Tok):O0 s (.str x t)=decide (x=s):=by
 by_cases h:x=s
 ·subst h;simp[O0]
 ·rw[decide_eq_false h];simp[O0];first | exact h | exact λz=>h z.symm
theorem wG.find {K:ML}(s:Str):∀ {es:List Rp} {kvs:List (Str×D)},wG K es kvs->
  match F3 kvs s with
  | none=>(es.find? λe=>O0 s e.key)=none
  | some d=>∃ e v,(es.find? λe=>O0 s e.key)=some e/\RelV v e.val/\∀ H,Dp K H v d
 | [],[],_=>rfl
 | e::es,(x,d)::r,h=>by
  obtain ⟨⟨t,ht⟩,⟨v,rv,pv⟩,hr⟩:=h
  have ih:=wG.find s hr
  unfold F3 at ih ⊢
  rw[NC,NC,ht,sV]
  by_cases hx:x=s
  ·simp only[decide_eq_true hx,Option.map_some]
   exact ⟨e,v,rfl,rv,pv⟩
  ·simp only[decide_eq_false hx]
   exact ih
 | [],_::_,h=>MR h
 | _::_,[],h=>MR h
section
variable {X:Cx} {a b c e:Nf} {Ta Tb Te:ETr} {pos gpos:Pos} {x:Str} {kvs:List (Str×D)}
end
section
variable {X:Cx} {a b:Nf} {Ta Tb:ETr} {pos:Pos}
end
end
section
open PySem PySem.Spec PyProof.Rows L2
def aU {κ:Type} [DecidableEq κ] (kvs:List (κ×D))(k:κ):Option D:=(kvs.find? λkv=>decide (kv.1=k)).map (·.2)
def putD {κ:Type} [DecidableEq κ] (kvs:List (κ×D))(k:κ)(v:D):List (κ×D):=
 if (kvs.any λkv=>decide (kv.1=k))=true then kvs.map (λkv=>if kv.1=k then (kv.1,v) else kv) else kvs++[(k,v)]
def rn (x:D)(f:Key->Prop):Prop:=match x with
 | .int i=>f (.inl i)
 | .str s=>f (.inr s)
 | _=>False
theorem DpK.nil {κ:Type}{K:ML}{H:Hp}:DpK (κ:=κ) K H [] []:=⟨rfl,.nil⟩
theorem DpK.cons {κ:Type}{K:ML}{H:Hp}{k:κ}{v:V}{d:D}{xs:List (κ×V)}{kvs:List (κ×D)}(h:Dp K H v d)(r:DpK K H xs kvs):DpK K H ((k,v)::xs) ((k,d)::kvs):=
 ⟨by simp[r.1],.cons h r.2⟩
theorem DpK.ind {κ:Type}{K:ML}{H:Hp}{P:List (κ×V)->List (κ×D)->Prop}(h0:P [] [])(h1:∀ k v d xs kvs,Dp K H v d->DpK K H xs kvs->P xs kvs->P ((k,v)::xs) ((k,d)::kvs)) :
  ∀ {xs:List (κ×V)} {kvs:List (κ×D)},DpK K H xs kvs->P xs kvs
 | [],[],_=>h0
 | [],_::_,h=>by cases h.1
 | _::_,[],h=>by cases h.1
 | (k,v)::xs,(k',d)::kvs,h=>by
  obtain ⟨h2,h3⟩:=h
  simp only[Ni,List.cons.injEq] at h2
  obtain ⟨rfl,h2⟩:=h2
  cases h3 with
  | cons p l=>exact h1 k v d xs kvs p ⟨h2,l⟩ (DpK.ind h0 h1 ⟨h2,l⟩)
theorem DpK.look {κ:Type} [DecidableEq κ] {K:ML}{H:Hp}{xs:List (κ×V)}{kvs:List (κ×D)}(h:DpK K H xs kvs)(k:κ) :
  (aU kvs k=none/\fN xs k=none)∨∃ v d,aU kvs k=some d/\fN xs k=some v/\Dp K H v d:=by
 refine DpK.ind (P:=λxs kvs=>(aU kvs k=none/\fN xs k=none)∨∃ v d,aU kvs k=some d/\fN xs k=some v/\Dp K H v d) (.inl ⟨rfl,rfl⟩) (λj v d xs kvs p _ ih=>?_) h
 by_cases e:j=k
 ·refine .inr ⟨v,d,?_,iC (p:=(j,v)) e,p⟩
  unfold aU;rw[NC];simp[e]
 ·have e1:aU ((j,d)::kvs) k=aU kvs k:=by unfold aU;rw[NC];simp[e]
  rw[e1,iJ (p:=(j,v)) e]
  exact ih
theorem DpK.any {κ:Type} [DecidableEq κ] {K:ML}{H:Hp}{xs:List (κ×V)}{kvs:List (κ×D)}(h:DpK K H xs kvs)(k:κ):(xs.any λkv=>decide (kv.1=k))=kvs.any λkv=>decide (kv.1=k):=by
 refine DpK.ind (P:=λxs kvs=>(xs.any λkv=>decide (kv.1=k))=kvs.any λkv=>decide (kv.1=k)) rfl (λj v d xs kvs p _ ih=>?_) h
 rw[O3,O3,ih]
theorem DpK.put {κ:Type} [DecidableEq κ] {K:ML}{H:Hp}{xs:List (κ×V)}{kvs:List (κ×D)}(h:DpK K H xs kvs)(k:κ){v:V}{d:D}(p:Dp K H v d):DpK K H (putK xs k v) (putD kvs k d):=by
 unfold putK putD
 rw[h.any k]
 split
 ·refine DpK.ind (P:=λxs kvs=>DpK K H (xs.map λkv=>if kv.1=k then (kv.1,v) else kv) (kvs.map λkv=>if kv.1=k then (kv.1,d) else kv)) .nil (λj v' d' xs kvs p' _ ih=>?_) h
  rw[Ni,Ni]
  by_cases e:j=k
  ·rw[if_pos e,if_pos e];exact .cons p ih
  ·rw[if_neg e,if_neg e];exact .cons p' ih
 ·refine DpK.ind (P:=λxs kvs=>DpK K H (xs++[(k,v)]) (kvs++[(k,d)])) (.cons p .nil) (λj v' d' xs kvs p' _ ih=>?_) h
  exact .cons p' ih
theorem DpK.length {κ:Type}{K:ML}{H:Hp}{xs:List (κ×V)}{kvs:List (κ×D)}(h:DpK K H xs kvs):xs.length=kvs.length:=by
 have:=h.2.length
 simpa using this
theorem i6 {K:ML}{H:Hp}{y:V}{dy:D}{f:Key->Prop}(p:Dp K H y dy)(h:rn dy f):∃ k,y=kV k/\f k:=by
 cases p with
 | int i=>exact ⟨.inl i,rfl,h⟩
 | str s=>exact ⟨.inr s,rfl,h⟩
 | _=>exact MR h
theorem bK {K:ML}{H:Hp}{x:V}{dx:D}{f:Addr->Prop}(p:Dp K H x dx)(h:kObj dx f):∃ a,x=.ref a/\f a:=by
 cases p with
 | obj a=>exact ⟨a,rfl,h⟩
 | _=>exact MR h
theorem pG {H:Hp}{q:Addr}{u:HO}{xs:List (Key×V)}(ex:H q=some (.dK xs)):Tk H (L2.upd H q u):=
 .upd (λys z=>by rw[ex] at z;cases z) λo' w z=>by rw[ex] at z;cases z
theorem Gs {K:ML}{H:Hp}{μ:Mu}{q:Addr}{xs ys:List (Key×V)}{ds:List (Key×D)}(m:bw K H μ)(ex:H q=some (.dK xs))(l:DpK K H ys ds):bw K (L2.upd H q (.dK ys)) (up μ q (.dct ds)):=λz y ez=>by
 by_cases zq:z=q
 ·subst zq
  rw[aA] at ez;cases ez
  exact ⟨ys,aC,l.mono (pG ex)⟩
 ·rw[aT zq] at ez
  exact (m z _ ez).ne (pG ex) zq
theorem wX {K:ML}{H:Hp}{μ:Mu}{q:Addr}{ys:List (Key×V)}{ds:List (Key×D)}(m:bw K H μ)(hq:H q=none)(l:DpK K H ys ds):bw K (L2.upd H q (.dK ys)) (up μ q (.dct ds)):=λz y ez=>by
 by_cases zq:z=q
 ·subst zq
  rw[aA] at ez;cases ez
  exact ⟨ys,aC,l.mono (.new hq)⟩
 ·rw[aT zq] at ez
  exact bQ m hq z y ez
section
variable {X:Cx} {o i a b c e value:Nf} {To Ti Ta Tb Te:ETr} {pos tpos:Pos}
theorem hu1 (hu:X.A.units+64 < cLine):X.A.units+1 < cLine:=by omega
def km (To Ti:ETr):ETr:=λρ μ Q=>To ρ μ λx μ1=>Ti ρ μ1 λy μ2=>kObj x λa=>kD μ2 a λkvs=>rn y λk=>kO (aU kvs k) λd=>Q d μ2
theorem iX (hu:X.A.units+64 < cLine)(ho:LE X o To)(hi:LE X i Ti)(hs:IK i:=by intro _ _;rfl):LE X (.Subscript o i pos) (km To Ti):=by
 obtain ⟨to,po,so⟩:=ho.ex
 obtain ⟨ti,pi,si⟩:=hi.ex
 refine ⟨_,EE (hu1 hu) po pi hs,λσ H ρ μ Q Q' rl h k=>so σ H ρ μ _ _ rl h λx H1 dx μ1 t1 m1 p1 h1=>si σ H1 ρ μ1 _ _ (rl.go t1 m1) h1 λy H2 dy μ2 t2 m2 p2 h2=>?_⟩
 obtain ⟨q,rfl,h2⟩:=bK p1 h2
 obtain ⟨kvs,e0,h2⟩:=jf h2
 obtain ⟨kk,rfl,h2⟩:=i6 p2 h2
 obtain ⟨d,e1,h2⟩:=jq h2
 obtain ⟨xs,ex,l⟩:=m2 q _ e0
 rcases l.look kk with ⟨z,_⟩ | ⟨v,d',z,ev,pv⟩
 ·rw[z] at e1;cases e1
 ·rw[z] at e1;cases e1
  exact ⟨q,v,rfl,by rw[← ev];exact iK.k ex,k _ H2 _ μ2 (t1.trans t2) m2 pv h2⟩
def uJ (neg:Bool)(Ti To:ETr):ETr:=λρ μ Q=>Ti ρ μ λy μ1=>To ρ μ1 λx μ2=>kObj x λa=>kD μ2 a λkvs=>rn y λk=>Q (.bl (if neg then !(aU kvs k).isSome else (aU kvs k).isSome)) μ2
theorem jE {K:ML}{H:Hp}{xs:List (Key×V)}{kvs:List (Key×D)}(l:DpK K H xs kvs)(k:Key):(fN xs k).isSome=(aU kvs k).isSome:=by
 rcases l.look k with ⟨a,b⟩ | ⟨v,d,a,b,_⟩ <;> rw[a,b]<;>rfl
theorem Dc {ti to:TE}{K:ML}(si:Sim K ti Ti)(so:Sim K to To):Sim K (K9 ti to) (uJ false Ti To):=λσ H ρ μ Q Q' rl h k=>
 si σ H ρ μ _ _ rl h λy H1 dy μ1 t1 m1 p1 h1=>so σ H1 ρ μ1 _ _ (rl.go t1 m1) h1 λx H2 dx μ2 t2 m2 p2 h2=>by
  obtain ⟨q,rfl,h2⟩:=bK p2 h2
  obtain ⟨kvs,e0,h2⟩:=jf h2
  obtain ⟨kk,rfl,h2⟩:=i6 p1 h2
  obtain ⟨xs,ex,l⟩:=m2 q _ e0
  exact ⟨q,_,rfl,iK.k ex,k _ H2 _ μ2 (t1.trans t2) m2 (.bl _) (by rw[jE l];exact h2)⟩
theorem ua {ti to:TE}{K:ML}(si:Sim K ti Ti)(so:Sim K to To):Sim K (wW ti to) (uJ true Ti To):=λσ H ρ μ Q Q' rl h k=>
 si σ H ρ μ _ _ rl h λy H1 dy μ1 t1 m1 p1 h1=>so σ H1 ρ μ1 _ _ (rl.go t1 m1) h1 λx H2 dx μ2 t2 m2 p2 h2=>by
  obtain ⟨q,rfl,h2⟩:=bK p2 h2
  obtain ⟨kvs,e0,h2⟩:=jf h2
  obtain ⟨kk,rfl,h2⟩:=i6 p1 h2
  obtain ⟨xs,ex,l⟩:=m2 q _ e0
  exact ⟨q,_,rfl,iK.k ex,k _ H2 _ μ2 (t1.trans t2) m2 (.bl _) (by rw[jE l];exact h2)⟩
def wD (To Ti Te:ETr):STr:=λE ρ μ=>Te ρ μ λv μ1=>To ρ μ1 λx μ2=>Ti ρ μ2 λy μ3=>kObj x λa=>kD μ3 a λkvs=>rn y λk=>kvs.length < 1000000/\E.nx ρ (up μ3 a (.dct (putD kvs k v)))
theorem wR (hu:X.A.units+64 < cLine)(ho:LE X o To)(hi:LE X i Ti)(he:LE X value Te)(hs:Pe value (some (.Subscript o i tpos)) pos.line X.env=pure false:=by rfl) :
  LS X (.Assign [.Subscript o i tpos] value pos) (wD To Ti Te):=by
 obtain ⟨to,po,so⟩:=ho.ex
 obtain ⟨ti,pi,si⟩:=hi.ex
 obtain ⟨te,pe,se⟩:=he.ex
 refine ⟨_,De (hu1 hu) po pi pe hs,λσ H ρ μ E E' rl h k=>se σ H ρ μ _ _ rl h λv H1 dv μ1 t1 m1 p1 h1=>so σ H1 ρ μ1 _ _ (rl.go t1 m1) h1 λx H2 dx μ2 t2 m2 p2 h2=>
  si σ H2 ρ μ2 _ _ (rl.go (t1.trans t2) m2) h2 λy H3 dy μ3 t3 m3 p3 h3=>?_⟩
 obtain ⟨q,rfl,h3⟩:=bK p2 h3
 obtain ⟨kvs,e0,h3⟩:=jf h3
 obtain ⟨kk,rfl,h3⟩:=i6 p3 h3
 obtain ⟨xs,ex,l⟩:=m3 q _ e0
 have t4:Tk H3 (L2.upd H3 q (.dK (putK xs kk v))):=pG ex
 have t14:=t1.trans (t2.trans (t3.trans t4))
 refine ⟨q,_,rfl,t9.k ex (by rw[l.length];exact M9 h3.1 (by decide)),k.nx _ _ ρ _ t14 (rl.go t14 (Gs m3 ex (l.put kk (p1.mono (t2.trans t3))))) h3.2⟩
def Ex (f:Int->Int->Int)(i:Nat)(Te:ETr):STr:=λE ρ μ=>kO (lk ρ i) λd=>kI d λm=>Te ρ μ λw μ1=>kI w λn=>aw i (.int (f m n)) ρ μ1 E.nx
theorem ET {te:TE}{K:ML}{f:Int->Int->Int}{j:Nat}(se:Sim K te Te):Dg K (KL j te (ipI f)) (Ex f j Te):=λσ H ρ μ E E' rl h k=>by
 obtain ⟨d,e1,h⟩:=jq h
 obtain ⟨v,ev,pv⟩:=rl.loc j d e1
 cases pv with
 | int m=>
  refine ⟨.int m,ev,se σ H ρ μ _ _ rl h λw H1 dw μ1 t1 m1 p1 h1=>?_⟩
  cases p1 with
  | int n=>exact ⟨m,n,rfl,rfl,k.nx _ _ _ _ t1 ((rl.go t1 m1).set (.int _) j) h1⟩
  | _=>exact MR h1
 | _=>exact MR h
theorem ya (j:Nat){x:Str}(hN:X.N.Nodup)(he:LE X e Te)(hi:X.N[j]? = some x:=by rfl)(hx:Loc X.env.scope x:=by first | exact QK rfl | exact PZ rfl)(hf:X.fn x=true∨X.env.scope.names.lookup x=some .local:=by first | exact .inl rfl | exact .inr rfl | assumption) :
  LS X (.AugAssign (.Name x tpos) .Add e pos) (Ex (λm n=>m+n) j Te):=by
 obtain ⟨te,pe,se⟩:=he.ex
 exact ⟨_,IA hN hi hx pe Jl hf,ET se⟩
theorem C4:LE X (.Dict [] [] pos) (λρ μ Q=>∀ p,μ p=none->Q (.obj p) (up μ p (.dct []))):=
 ⟨_,AA,λσ H ρ μ Q Q' rl h k p hp=>k _ _ _ _ (.new hp) (wX rl.mu hp .nil) (.obj p) (h p (rl.mu.free hp))⟩
theorem DpK.zip {K:ML}{H:Hp}:∀ {ks:List Key} {vs:List V} {ds:List D},DpL K H vs ds->DpK K H (ks.zip vs) (ks.zip ds)
 | [],_,_,_=>by simp;exact .nil
 | _::_,_,_,.nil=>by simp;exact .nil
 | k::ks,_,_,.cons p l=>.cons p (DpK.zip l)
end
end
section
open PySem PySem.Spec PyProof.Rows L2
theorem yf:S7 (.type "list") (MK "keys")=pure none:=am_miss_of_fast (by kernel_rfl)
theorem Hk {prog:Nh}{w:Nw}{A:NH}{E:MN->MQ->Prop}{s:MQ}{a:Addr}{o:Obj}{xs:Array MN}{k:Nat}{Q:Option MN->MQ->Prop}
  (hx:s.heap.get? a=some o) (hc:o.cls=.type "list") (hdat:o.data=.seq xs k) (hd:o.dict=none) (hA:A.handled=none)
  (h:∀ h' tk,(∀ b ob,s.heap.get? b=some ob->h'.get? b=some ob)->Q none { s with heap:=h',toks:=tk }) :
  M4 (Nb prog w) A (getAttr? (.ref a) "keys") Q E s:=by
 obtain ⟨c,dct,dat,sl⟩:=o
 simp only at hc hdat hd
 subst hc hdat hd
 obtain ⟨hp,g,d,tk,os⟩:=s
 have hT:∀ tk',(⟨hp,g,d,tk',os⟩:MQ).TypeIs (.ref a) "list" := λ_=>⟨_,hx,rfl⟩
 have f1:=sub_AttributeError
 have f3:=Pp.lookup
 have f4:=Pp.bind (.ref a)
 have f5:=am_list_getattr_none
 unfold getAttr? getAttrBy? getAttrBy
 repeat (any_goals (first | assumption | exact hT _ | ((with_reducible show M4 _ _ (call (Value.builtin "list.__getattribute__") _ _) _ _ _);refine UO Pp (hT _) am_entry_list_getattribute (F.args_list_getattribute_2 _ _) (meets_getattribute_miss_list a xs k sl (MK "keys") _ yf (by decide +kernel) (by decide +kernel)) ⟨hx,hA,λh' tk' e hx'=>?_⟩) | wp_step))
 obtain ⟨t',u',he⟩:=hx'.there
 show M4 _ _ (Tj _ _ _ _ _ _ _) _ _ _
 unfold Tj
 repeat (any_goals (first | assumption | wp_step))
 exact h _ _ hx'.keeps
theorem ir:plainId "dict.update.loop" = true:=by decide +kernel
theorem sJ:entryFor table "dict.update.loop" = some Qy.«dict.update.loop»:=entryFor_of_fast (by kernel_rfl)
inductive cO {prog:Nh} {w:Nw} {κ:Type} [DecidableEq κ] (knd:KeyKind prog w κ) (h:Heap):List MN->List (κ×MN)->Prop
 | nil:cO knd h [] []
 | cons {a:Addr} {u v:MN} {k:κ} {us:List MN} {r:List (κ×MN)}:SK h a #[u,v]->knd.is k u=true->cO knd h us r->cO knd h (.ref a::us) ((k,v)::r)
section
variable {prog:Nh} {w:Nw} {κ:Type} [DecidableEq κ] {knd:KeyKind prog w κ}
theorem cO.keeps {h h':Heap}(kp:∀ b o,h.get? b=some o->o.cls=.type "tuple" -> h'.get? b=some o):∀ {us:List MN} {r:List (κ×MN)},cO knd h us r->cO knd h' us r
 | _,_,.nil=>.nil
 | _,_,.cons t k r=>.cons (by obtain ⟨o,e,c,n,d⟩:=t;exact ⟨o,kp _ o e c,c,n,d⟩) k (r.keeps kp)
theorem tM {A:NH}{R:Result->MQ->Prop}{d it l:Addr}{items:Array MN}(hA:A.handled=none)(n1:d≠it)(n2:l≠it)(n3:l≠d) :
  ∀ (us:List MN) (r:List (κ×MN)) (i:Nat) (kvs:List (κ×MN)) (s:MQ),items.toList.drop i=us->cO knd s.heap us r->s.heap.IsListIter it l i->s.heap.IsList l items->s.heap.DictOf knd d kvs->kvs.length+r.length<=sizeLine->
   (∀ h' tk,h'.DictOf knd d (merged kvs r)->(∀ b o,b≠it->b≠d->s.heap.get? b=some o->h'.get? b=some o)->R (.ok (.ret .none)) { s with heap:=h',toks:=tk })->
   M4 (Nb prog w) A.in1 (Qy.«dict.update.loop» ⟨[.ref d,.ref it,OQ i,.none],[]⟩) (λfin s'=>match fin with | .done f=>R (.ok f) s' | .again c'=>c'.quiet=true/\QY (Nb prog w) A c' R s') (λe s'=>R (.error e) s') s
 | [],r,i,kvs,s,hd,P,hit,hl,hm,hz,h=>by
  cases P
  have hx:items[i]? = none:=by
   have:items.toList.length<=i:=by
    have:=congrArg NZ hd
    simp at this;simp;omega
   simpa using this
  show M4 _ _ (Pk (.ref it) >>= _) _ _ _
  refine MM (R6 (by exact hA) hit hl hx λh' k=>?_)
  show M4 _ _ (U4 d [] >>= _) _ _ _
  refine MM (wpAny_pure (wpAny_pure ?_))
  refine h h' s.toks ?_ λb o hb _ e=>k b o hb e
  obtain ⟨o,es,ep,ho,rest⟩:=hm
  exact ⟨o,es,ep,k d o n1 ho,rest⟩
 | u::us,r,i,kvs,s,hd,P,hit,hl,hm,hz,h=>by
  cases P with
  | @cons a ku v k _ r tp hk P=>
  have hx:items[i]? = some (.ref a):=by
   have:items.toList[i]? = some (.ref a):=by
    have:=congrArg (λl=>l[0]?) hd
    simpa using this
   simpa using this
  have hd':items.toList.drop (i+1)=us:=by
   have:=congrArg List.tail hd
   simpa using this
  show M4 _ _ (Pk (.ref it) >>= _) _ _ _
  refine MM (RE hit hl hx λh1 it1 k1=>?_)
  have ne_it:∀ b o,s.heap.get? b=some o->o.cls≠.type "list_iterator" -> b≠it:=λb o e c z=>by
   subst z
   obtain ⟨o',e',c',_⟩:=hit
   rw[e] at e';cases e';exact c c'
  have tp1:SK h1 a #[ku,v]:=by
   obtain ⟨o,e,c,n,dd⟩:=tp
   exact ⟨o,(k1.2 a (ne_it a o e (by rw[c];decide))).trans e,c,n,dd⟩
  obtain ⟨o,e,c,n,dd⟩:=tp1
  have hm1:h1.DictOf knd d kvs:=by
   obtain ⟨o,es,ep,ho,rest⟩:=hm
   exact ⟨o,es,ep,(k1.2 d n1).trans ho,rest⟩
  have hl1:h1.IsList l items:=by
   obtain ⟨o,e,c,n,dd⟩:=hl
   exact ⟨o,(k1.2 l n2).trans e,c,n,dd⟩
  dsimp only
  refine MM (O1 ?_)
  refine MM (wpAny_tryCatch ?_)
  unfold Vh
  refine MM (wpAny_typeOf (T := "tuple") ⟨o,e,c⟩ ?_)
  rw[if_pos (by decide)]
  refine MM (Oi e dd (wpAny_pure ?_))
  show M4 _ _ (QX [ku,v] (dictSet d ku v)) _ _ _
  refine O1 (wpAny_dictSet_pairs (hsz:=by have:=hz;simp at this;omega) hk hm1 λh2 hm2 k2=>?_)
  refine wpAny_pure ?_
  refine ⟨S1 ir _,R0 sJ ?_⟩
  rw[Qd ir _]
  have kp:∀ b o,b≠it->b≠d->s.heap.get? b=some o->h2.get? b=some o:=λb o b1 b2 q=>(k2.2 b b2).trans ((k1.2 b b1).trans q)
  have ci:((i:Int)+1)=((i+1:Nat):Int):=by push_cast;rfl
  have nd:∀ b o,s.heap.get? b=some o->o.cls≠.type "dict" -> b≠d:=λb o q c z=>by
   subst z
   obtain ⟨o',_,_,e',ex,_⟩:=hm
   rw[q] at e';cases e';exact c ex.1
  show M4 _ _ (Qy.«dict.update.loop» ⟨[.ref d,.ref it,OQ ((i:Int)+1),.none],[]⟩) _ _ _
  rw[ci]
  refine tM hA n1 n2 n3 us r (i+1) (stored kvs k v) _ hd' (P.keeps λb o q c=>kp b o (ne_it b o q (by rw[c];decide)) (nd b o q (by rw[c];decide)) q) ?_ ?_ hm2 ?_ ?_
  ·obtain ⟨o,e,c⟩:=it1
   exact ⟨o,(k2.2 it (Np n1)).trans e,c⟩
  ·obtain ⟨o,e,c⟩:=hl1
   exact ⟨o,(k2.2 l n3).trans e,c⟩
  ·have:=stored_length_le kvs k v
   simp at hz;omega
  ·intro h' tk hm' kp'
   exact h h' tk hm' λb o b1 b2 q=>kp' b o b1 b2 (kp b o b1 b2 q)
end
end
section
open PySem PySem.Spec PyProof.Rows L2
section
variable {prog:Nh} {w:Nw} {κ:Type} [DecidableEq κ] {knd:KeyKind prog w κ}
theorem ka {A:NH}{E:MN->MQ->Prop}{s:MQ}{l:Addr}{o:Obj}{items:Array MN}{k:Nat}{r:List (κ×MN)}{Q:MN->MQ->Prop}(hA:A.handled=none)
  (hx:s.heap.get? l=some o) (hc:o.cls=.type "list") (hdat:o.data=.seq items k) (hd:o.dict=none) (P:cO knd s.heap items.toList r) (hz:r.length<=sizeLine)
  (h:∀ h' tk,h'.DictOf knd s.heap.objs.size (merged [] r)->(∀ b o,s.heap.get? b=some o->h'.get? b=some o)->Q (.ref s.heap.objs.size) { s with heap:=h',toks:=tk }) :
  M4 (Nb prog w) A (call (.type "dict") [.ref l]) Q E s:=by
 refine callType_codes (Q₁:=λobj s₁=>obj=.ref s.heap.objs.size/\s₁={ s with heap:=s.heap.push { cls:=.type "dict", data:=.dict #[] } }) F.kt_called_dict (F.kt_typeCall_dict_1 _) F.entry_dict_init (kt_code_dict_new _ ⟨rfl,rfl⟩) ?_
 rintro obj s₁ ⟨rfl,rfl⟩
 have C3:(s.heap.push { cls:=.type "dict", data:=.dict #[] }).DictOf knd s.heap.objs.size []:=Ux s.heap
 have hx1:(s.heap.push { cls:=.type "dict", data:=.dict #[] }).get? l=some o:=MP _ hx
 have ll:l < s.heap.objs.size:=M1 hx
 refine ⟨C3.typeIs,F.args_dict_init_2 _ _,?_⟩
 unfold Qy.«dict.__init__»
 refine MM ?_
 unfold U5
 refine MM (wpAny_notOrdered_dict C3.typeIs ?_)
 show M4 _ _ (pure (s.heap.objs.size,[Nr l])) _ _ _
 refine wpAny_pure ?_
 show M4 _ _ (Rw "dict.__init__" s.heap.objs.size (.ref l) [] .none) _ _ _
 unfold Rw
 refine MM (wpAny_typeOf (T := "list") ⟨o,hx1,hc⟩ ?_)
 rw[if_pos (by decide)]
 refine MM (Hk hx1 hc hdat hd hA λh1 tk1 kp1=>?_)
 rw[if_pos (by decide)]
 refine MM (OW ?_)
 have hx2:h1.get? l=some o:=kp1 _ _ hx1
 have hl2:h1.IsList l items:=⟨o,hx2,hc,k,hdat⟩
 have lt1:s.heap.objs.size < h1.objs.size:=by
  obtain ⟨o',es,ep,ho,_⟩:=C3
  exact M1 (kp1 _ _ ho)
 refine MM (O8 hl2 ?_)
 refine MM (wpAny_pure (wpAny_pure ?_))
 refine ⟨S1 ir _,R0 sJ ?_⟩
 rw[Qd ir _]
 have kp2:∀ b o,s.heap.get? b=some o->(h1.push { cls:=.type "list_iterator", data:=.fields #[.ref l,.int 0 0] }).get? b=some o:=λb o q=>MP _ (kp1 _ _ (MP _ q))
 refine tM (A:=A.in1) (knd:=knd) (it:=h1.objs.size) (d:=s.heap.objs.size) (l:=l) (items:=items) (R:=wants (λr s₂=>r=O9/\Q (Nr s.heap.objs.size) s₂) E) hA (Na lt1) (Na (TL ll lt1)) (Na ll) items.toList r 0 [] _ rfl ?_ ?_ ?_ ?_ (by simpa using hz) ?_
 ·exact P.keeps λb o q _=>kp2 b o q
 ·exact ⟨_,MW _ rfl,rfl,rfl⟩
 ·exact ⟨o,MP _ hx2,hc,k,hdat⟩
 ·obtain ⟨o',es,ep,ho,rest⟩:=C3
  exact ⟨o',es,ep,MP _ (kp1 _ _ ho),rest⟩
 ·intro h' tk hm' kp'
  refine ⟨rfl,h h' tk hm' λb o q=>?_⟩
  have hb:b < s.heap.objs.size:=M1 q
  exact kp' b o (Na (TL hb lt1)) (Na hb) (kp2 b o q)
end
def dK:Key->D
 | .inl i=>.int i
 | .inr s=>.str s
def uh (kv:Key×D):D:=.tup [dK kv.1,kv.2]
def cm (kvs more:List (Key×D)):List (Key×D):=more.foldl (λacc kv=>putD acc kv.1 kv.2) kvs
inductive cz (K:ML) (H:Hp):List V->List (Key×V)->Prop
 | nil:cz K H [] []
 | cons {a:Addr} {k:Key} {v:V} {ys:List V} {r:List (Key×V)}:SqT K H a [kV k,v]->cz K H ys r->cz K H (.ref a::ys) ((k,v)::r)
theorem cz.at {X:Cx}{pins:List (Addr×Obj)}{σ:L2.St}{H:Hp}{s:MQ}(I:Inv X pins σ H s):∀ {ys:List V} {kvs:List (Key×V)} {us:List MN},cz X.K H ys kvs->Vals ys us->∃ r,cO (aS X.prog X.w) s.heap us r/\KV kvs r
 | _,_,_,.nil,.nil=>⟨[],.nil,.nil⟩
 | _,_,_,@cz.cons _ _ a k v ys r sq h,.cons ru rs=>by
  cases (show _=Nr a from ru)
  obtain ⟨r,p,q⟩:=h.at I rs
  obtain ⟨its,vs,it,_⟩:=I.tuple sq
  cases vs with | @cons _ u1 _ _ r1 vs=>cases vs with | @cons _ u2 _ _ r2 vs=>
  cases vs
  exact ⟨(k,u2)::r,.cons it (oD r1) p,.cons ⟨rfl,r2⟩ q⟩
theorem gZ {X:Cx}(hc:X.calm=true):bL X (.type "dict") (λxs H Q=>∃ l ys kvs,xs=[.ref l]/\SqL X.K H l ys/\cz X.K H ys kvs/\kvs.length<=sizeLine/\∀ p,H p=none->Q (.ref p) (L2.upd H p (.dK (fj [] kvs)))):=by
 intro pins s σ H xs us Q I rx h
 obtain ⟨l,ys,kvs,rfl,sq,pv,hz,q⟩:=h
 obtain ⟨u,rfl,ru⟩:=vals1 rx
 cases (show u=Nr l from ru)
 obtain ⟨its,vs,pl,_⟩:=I.list sq
 obtain ⟨o,n,e,c,hd,hdat⟩:=pl
 obtain ⟨r,pr,kv⟩:=pv.at I vs
 refine ka (knd:=aS X.prog X.w) (I.ok.hd hc) e c hdat hd (r:=r) (by simpa using pr) (by rw[← kv.length];exact hz) λh' tk dd kp=>?_
 have hl:(fj [] kvs).length<=sizeLine:=by have:=gH kvs [];simp at this;omega
 exact ⟨.ref s.heap.objs.size,_,I.laid (a:=s.heap.objs.size) (o:=.dK (fj [] kvs)) kp (M0 _) (CA hl (beq_eq_false_iff_ne.mpr (Np (Na I.big))) (KV.merge kv .nil) dd),rfl,q _ (I.hok.fresh (M0 _))⟩
def oF:FSp:=λds μ Q=>match ds with
 | [.ls xs]=>∃ kvs:List (Key×D),xs=kvs.map uh/\kvs.length<=1000000/\∀ p,μ p=none->Q (.obj p) (up μ p (.dct (cm [] kvs)))
 | _=>False
theorem Hj {K:ML}{H:Hp}{v:V}{k:Key}(h:Dp K H v (dK k)):v=kV k:=by
 cases k with
 | inl i=>cases h;rfl
 | inr s=>cases h;rfl
theorem cz.of {K:ML}{H:Hp}:∀ {kvs:List (Key×D)} {xs:List V},DpL K H xs (kvs.map uh)->∃ r,cz K H xs r/\DpK K H r kvs
 | [],_,h=>by cases h;exact ⟨[],.nil,.nil⟩
 | kv::kvs,_,h=>by
  obtain ⟨k,d⟩:=kv
  cases h with
  | cons p l=>
   obtain ⟨r,h1,h2⟩:=cz.of l
   cases p with
   | tup sq lp=>
    cases lp with | cons p1 lp=>cases lp with | cons p2 lp=>
    cases lp
    cases Hj p1
    exact ⟨(k,_)::r,.cons sq h1,.cons p2 h2⟩
theorem DpK.merge {K:ML}{H:Hp}{xs:List (Key×V)}{kvs:List (Key×D)}(h:DpK K H xs kvs):∀ {axs:List (Key×V)} {akvs:List (Key×D)},DpK K H axs akvs->DpK K H (fj axs xs) (cm akvs kvs):=
 DpK.ind (P:=λxs kvs=>∀ {axs:List (Key×V)} {akvs:List (Key×D)},DpK K H axs akvs->DpK K H (fj axs xs) (cm akvs kvs)) (λh=>h) (λk v d xs kvs p _ ih axs akvs ha=>ih (ha.put k p)) h
theorem mv {K:ML}:nR K (λxs H Q=>∃ l ys kvs,xs=[.ref l]/\SqL K H l ys/\cz K H ys kvs/\kvs.length<=sizeLine/\∀ p,H p=none->Q (.ref p) (L2.upd H p (.dK (fj [] kvs)))) oF:=λH μ xs ds Q Q' m p h k=>by
 unfold oF at h
 split at h
 ·obtain ⟨kvs,rfl,hl,h⟩:=h
  cases p with | cons p1 p2=>
  cases p2
  cases p1 with
  | ls q l=>
   obtain ⟨r,h1,h2⟩:=cz.of l
   exact ⟨_,_,r,rfl,q.sq,h1,by rw[h2.length];exact big hl,λz hz=>k _ _ _ _ (.new hz) (wX m hz (h2.merge .nil)) (.obj z) (h z (m.free hz))⟩
 ·exact MR h
end
section
open PySem PySem.Spec PyProof.Rows L2
section
variable {X:Cx} {o i a b c e value:Nf} {To Ti Ta Tb Te:ETr} {pos tpos apos cpos:Pos}
def HS (To Ti:ETr):ETr:=λρ μ Q=>To ρ μ λx μ1=>kObj x λa=>kL μ1 a λ_=>Ti ρ μ1 λy μ2=>kI y λj=>(-9223372036854775808<=j/\j < 9223372036854775808)/\kL μ2 a λds=>kN (L2.ixN ds.length j) λk=>kO ds[k]? λd=>Q d (up μ2 a (.lst (ds.eraseIdx k)))
theorem AY {n k:Nat}{j:Int}(h:L2.ixN n j=some k):QB j n=some k:=by
 unfold L2.ixN at h
 unfold QB
 split at h
 ·split at h
  ·cases h
   rename_i h1 h2
   simp[show ¬ (j < 0) by omega,h1,h2]
  ·cases h
 ·split at h
  ·cases h
   rename_i h1 h2
   simp[show j < 0 by omega]
   omega
  ·cases h
theorem DpL.erase {K:ML}{H:Hp}:∀ {vs:List V} {ds:List D} (i:Nat),DpL K H vs ds->DpL K H (vs.eraseIdx i) (ds.eraseIdx i)
 | _,_,_,.nil=>by simp;exact .nil
 | _,_,0,.cons _ l=>l
 | _,_,i+1,.cons q l=>.cons q (DpL.erase i l)
theorem IE (ho:LE X o To)(hi:LE X i Ti)
  (hbase:O2 o "pop" X.env (N1 o X.env)=N1 o X.env:=by rfl)
  (hfew:((OL cpos (M6 [i] X.env)).all (λx=>!x.1)&&(backToKw cpos (Ur [] X.env)).all (λx=>x.1.isSome)
   && decide (([i]:List Nf).length+([]:List SA).length+(if ([]:List SA).isEmpty then 0 else 1) < 30))=true:=by rfl)
  (hline:(apos.endLine == cpos.line)=true:=by rfl) (hs:M6 [i] X.env=(false,N1 i X.env)::M6 [] X.env:=by rfl) (hplain:(OL cpos (M6 [] X.env)).any (·.1)=false:=by rfl) :
  LE X (.Call (.Attribute o "pop" apos) [i] [] cpos) (HS To Ti):=by
 obtain ⟨to,po,so⟩:=ho.ex
 obtain ⟨ti,pi,si⟩:=hi.ex
 refine ⟨_,Fs Rr PySem.F.slot_list_pop PySem.F.type_list_pop Cc po (kd pi qI hs) hbase hfew hline hs hplain,λσ H ρ μ Q Q' rl h k=>so σ H ρ μ _ _ rl h λx H1 dx μ1 t1 m1 p1 h1=>?_⟩
 obtain ⟨q,rfl,h1⟩:=bK p1 h1
 obtain ⟨ds0,e0,h1⟩:=bE h1
 obtain ⟨xs0,ex0,_⟩:=m1 q _ e0
 refine ⟨.inl ⟨rfl,_,SqL.of ex0⟩,si σ H1 ρ μ1 _ _ (rl.go t1 m1) h1 λy H2 dy μ2 t2 m2 p2 h2=>?_⟩
 cases p2 with
 | int j=>
  obtain ⟨hr,h2⟩:=h2
  obtain ⟨ds,e2,h3⟩:=bE (show kL μ2 q _ from h2)
  obtain ⟨kk,e3,h3⟩:=vZ h3
  obtain ⟨d,e4,h3⟩:=jq h3
  obtain ⟨xs,ex,l⟩:=m2 q _ e2
  obtain ⟨v,ev,pv⟩:=l.get e4
  have e3':L2.ixN xs.length j=some kk:=by rw[l.length];exact e3
  exact ⟨q,xs,j,kk,v,rfl,rfl,ex,by omega,by omega,AY e3',ev,k _ _ _ _ ((t1.trans t2).trans (jh ex)) (Fo m2 ex (l.erase kk)) (pv.mono (jh ex)) h3⟩
 | _=>exact MR h2
end
noncomputable def rh (h:Heap) (dx:PyData) (y:MN):Bool:=@decide (∃ d as,Reads h y d as/\UQ d=true/\ON d dx=true) (PD _)
theorem Dl {h:Heap}{dx d:PyData}{y:MN}{as:List Addr}(r:Reads h y d as)(hd:d.canLay0=true):rh h dx y=ON d dx:=by
 unfold rh
 cases e:ON d dx with
 | true=>exact @decide_eq_true _ (PD _) ⟨d,as,r,hd,e⟩
 | false=>
  refine @decide_eq_false _ (PD _) ?_
  rintro ⟨d',as',r',hd',e'⟩
  cases SeqAt.Reads.unique _ _ _ _ _ hd r r'
  rw[e] at e';cases e'
theorem ke {n:Nat}:∀ {ds:List D} {d:D},aO n ds=true->d∈ds->okD n d=true
 | x::r,d,h,hm=>by
  have h':okD n x=true/\aO n r=true:=by simpa[aO] using h
  rcases MY.mp hm with rfl | hm
  ·exact h'.1
  ·exact ke h'.2 hm
section
variable {X:Cx} {pins:List (Addr×Obj)} {σ:L2.St} {H:Hp} {s:MQ}
theorem item_at (I:Inv X pins σ H s){vs:List V}{ds:List D}{us:List MN}(l:DpL X.K H vs ds)(r:Vals vs us)(ok:aO 38 ds=true){dy:D}{y:MN}{bs:List Addr}(oy:okD 38 dy=true)(ry:Reads s.heap y (toP dy) bs)(hu:X.A.units+64 < cLine)
  {m:Nat} {u:MN} (hm:us[m]? = some u):∃ d,ds[m]? = some d/\rh s.heap (toP dy) u=eqD d dy/\Vu X.A.in1 s u y (rh s.heap (toP dy) u):=by
 have hlt:m < vs.length:=by rw[r.length];exact (Nm.mp hm).1
 obtain ⟨u',e1,rv⟩:=r.get (MZ hlt)
 rw[hm] at e1;cases e1
 obtain ⟨d,ed,pd⟩:=l.get' (MZ hlt)
 have od:=ke ok (Oh ed)
 obtain ⟨as,ra⟩:=bV I pd od rv
 obtain ⟨l1,d1⟩:=cM 38 d od
 obtain ⟨l2,d2⟩:=cM 38 dy oy
 have e:=Dl (dx:=toP dy) ra l1
 refine ⟨d,ed,by rw[e,iT 38 38 d dy od oy],?_⟩
 rw[e]
 exact Ul _ _ _ s _ _ _ _ ra ry l1 l2 (by have:=Qj (toP d).depth (toP dy).depth;rw[Um];omega)
end
section
variable {X:Cx} {o i a b c e value:Nf} {To Ti Ta Tb Te:ETr} {pos tpos apos cpos:Pos}
def inG (x:D)(ds:List D):Bool:=ds.any λy=>eqD y x
def BE (K:ML)(neg:Bool):L2.R2:=λx y H Q=>∃ p xs ds dx,y=.ref p/\(SqL K H p xs∨SqT K H p xs)/\DpL K H xs ds/\Dp K H x dx/\aO 38 ds=true/\okD 38 dx=true/\Q (.bl (if neg then !inG dx ds else inG dx ds)) H
theorem p8 {pins:List (Addr×Obj)}{σ:L2.St}{H:Hp}{s:MQ}(I:Inv X pins σ H s)(hu:X.A.units+64 < cLine){vs:List V}{ds:List D}{us:List MN}(l:DpL X.K H vs ds)(r:Vals vs us)(ok:aO 38 ds=true){dy:D}{y:MN}{bs:List Addr}(oy:okD 38 dy=true)(ry:Reads s.heap y (toP dy) bs) :
  (∀ w,w∈us.toArray->Vu X.A.in1 s w y (rh s.heap (toP dy) w))/\us.toArray.any (rh s.heap (toP dy))=inG dy ds:=by
 have hl:ds.length=us.length:=by rw[← l.length,r.length]
 constructor
 ·intro w hw
  obtain ⟨m,hm,rfl⟩:=Array.mem_iff_getElem.mp hw
  obtain ⟨d,_,_,e3⟩:=item_at I l r ok oy ry hu (m:=m) (u:=us.toArray[m]) (by simp at hm ⊢)
  exact e3
 ·unfold inG
  rw[show us.toArray.any (rh s.heap (toP dy))=us.any (rh s.heap (toP dy)) by simp]
  rw[R4,Ou,Ou]
  constructor
  ·rintro ⟨w,hw,e⟩
   obtain ⟨m,hm,rfl⟩:=Sr.mp hw
   obtain ⟨d,e1,e2,_⟩:=item_at I l r ok oy ry hu (m:=m) (u:=us[m]) (by simp)
   exact ⟨d,Oh e1,by rw[← e2];exact e⟩
  ·rintro ⟨d,hd,e⟩
   obtain ⟨m,hm,rfl⟩:=Sr.mp hd
   obtain ⟨d',e1,e2,_⟩:=item_at I l r ok oy ry hu (m:=m) (u:=us[m]'(by omega)) (by simp)
   rw[MZ hm] at e1;cases e1
   exact ⟨us[m]'(by omega),P6 _,by rw[e2];exact e⟩
theorem GK (hu:X.A.units+64 < cLine):OpR X (N5 .In) (BE X.K false):=by
 intro pins s σ H x y v u Q I rx ry h
 obtain ⟨p,xs,ds,dx,rfl,hq,l,px,o1,o2,q⟩:=h
 cases (show u=Nr p from ry)
 obtain ⟨bs,rb⟩:=bV I px o2 rx
 rcases hq with hq | hq
 ·obtain ⟨its,r,pl,hz⟩:=I.list hq
  obtain ⟨h1,h2⟩:=p8 I hu l r o1 o2 rb
  exact SeqAt.in_listAt _ pl.isList h1 ⟨.bl _,H,I,rfl,by rw[h2];exact q⟩
 ·obtain ⟨its,r,pl,hz⟩:=I.tuple hq
  obtain ⟨h1,h2⟩:=p8 I hu l r o1 o2 rb
  exact SeqAt.in_tupleAt _ pl h1 ⟨.bl _,H,I,rfl,by rw[h2];exact q⟩
theorem yG (hu:X.A.units+64 < cLine):OpR X (N5 .NotIn) (BE X.K true):=by
 intro pins s σ H x y v u Q I rx ry h
 obtain ⟨p,xs,ds,dx,rfl,hq,l,px,o1,o2,q⟩:=h
 cases (show u=Nr p from ry)
 obtain ⟨bs,rb⟩:=bV I px o2 rx
 rcases hq with hq | hq
 ·obtain ⟨its,r,pl,hz⟩:=I.list hq
  obtain ⟨h1,h2⟩:=p8 I hu l r o1 o2 rb
  exact SeqAt.notIn_listAt _ pl.isList h1 ⟨.bl _,H,I,rfl,by rw[h2];exact q⟩
 ·obtain ⟨its,r,pl,hz⟩:=I.tuple hq
  obtain ⟨h1,h2⟩:=p8 I hu l r o1 o2 rb
  exact SeqAt.notIn_tupleAt _ pl h1 ⟨.bl _,H,I,rfl,by rw[h2];exact q⟩
def Mz (μ:Mu)(x:D)(f:List D->Prop):Prop:=match x with
 | .tup ds=>f ds
 | .ls ds=>f ds
 | .obj a=>kL μ a f
 | _=>False
def tZ (neg:Bool):DR2:=λx y μ Q=>Mz μ y λds=>(aO 38 ds=true/\okD 38 x=true)/\Q (.bl (if neg then !inG x ds else inG x ds)) μ
theorem xl {K:ML}(neg:Bool):dm K (BE K neg) (tZ neg):=λH μ x y dx dy Q Q' m px py h k=>by
 cases py with
 | tup sq l=>exact ⟨_,_,_,dx,rfl,.inr sq,l,px,h.1.1,h.1.2,k _ H _ μ (.refl H) m (.bl _) h.2⟩
 | ls sq l=>exact ⟨_,_,_,dx,rfl,.inl sq.sq,l,px,h.1.1,h.1.2,k _ H _ μ (.refl H) m (.bl _) h.2⟩
 | obj q=>
  obtain ⟨ds,e0,h⟩:=bE (show kL μ q _ from h)
  obtain ⟨xs,ex,l⟩:=m q _ e0
  exact ⟨_,_,_,dx,rfl,.inl (SqL.of ex),l,px,h.1.1,h.1.2,k _ H _ μ (.refl H) m (.bl _) h.2⟩
 | _=>exact MR h
theorem Cj (hu:X.A.units+64 < cLine)(ha:LE X a Ta)(hb:LE X b Tb)(hm:NU .In b=false:=by rfl):LT X (.Compare a [.In] [b] pos) (TB (ak (tZ false) Ta Tb)):=cK (GK hu) (xl false) ha hb hm
theorem ym (hu:X.A.units+64 < cLine)(ha:LE X a Ta)(hb:LE X b Tb)(hm:NU .NotIn b=false:=by rfl):LT X (.Compare a [.NotIn] [b] pos) (TB (ak (tZ true) Ta Tb)):=cK (yG hu) (xl true) ha hb hm
end
end
section
open PySem PySem.Spec PyProof.Rows L2
def Hs (K:ML)(n:Nat)(t:TGs)(is:List Nat):Prop:=∀ σ H ρ μ vs ds (k:ST->Mu->Prop) (k':L2.St->Hp->Prop),Rl K σ H ρ μ->DpL K H vs ds->ds.length=is.length->k (fV ρ is ds) μ->FX K n σ H k k'->t vs σ H k'
structure DG (X:Cx) (n:Nat) (es:List Nf) (is:List Nat):Prop where
 ex:∃ t,PGs X es t/\Hs X.K n t is
section
variable {X:Cx} {e tg:Nf} {es:List Nf} {is:List Nat} {pos:Pos} {x:Str} {n:Nat}
theorem sW:DG X n [] []:=⟨_,xF,λσ H ρ μ vs ds k k' rl l hl h q=>by
 cases ds with
 | nil=>cases l;exact ⟨rfl,q _ _ _ _ (.refl H) rl ⟨rfl,λ_ _=>rfl⟩ h⟩
 | cons=>cases hl⟩
theorem gs (i:Nat)(hN:X.N.Nodup)(h2:DG X n es is)(hin:i < n:=by decide)(hi:X.N[i]? = some x:=by rfl)(hx:Loc X.env.scope x:=by first | exact QK rfl | exact PZ rfl)(hf:X.fn x=true∨X.env.scope.names.lookup x=some .local:=by first | exact .inr rfl | exact .inl rfl | assumption)
  (hs:(N3 (.Name x pos::es) X.env).map (·.2)=QE (.Name x pos) X.env::(N3 es X.env).map (·.2):=by rfl):DG X n (.Name x pos::es) (i::is):=by
 obtain ⟨t,pt,st⟩:=h2.ex
 refine ⟨_,tq (gj hN hi hx hf) pt hs,λσ H ρ μ vs ds k k' rl l hl h q=>?_⟩
 cases l with
 | nil=>cases hl
 | @cons v d vs ds p l=>
  refine ⟨v,vs,rfl,st _ H _ μ vs ds k k' (rl.set p i) l (by simpa using hl) h λσ' H' ρ' μ' t' r' hk kk=>q σ' H' ρ' μ' t' r' ⟨?_,λj hj=>?_⟩ kk⟩
  ·rw[hk.1];simp
  ·rw[hk.2 j hj,OG (by omega)]
theorem wx {k:Nat}(hc:X.calm=true)(h:DG X n es is)(hn:(N3 es X.env).length=is.length:=by rfl)(hst:(N3 es X.env).findIdx? (·.1)=none:=by rfl):LGc X n (.Tuple es k pos) (dR is):=by
 obtain ⟨t,pt,st⟩:=h.ex
 refine ⟨λpins s σ H v u k' I r ⟨ρ,μ,d,k,rl,p,h,post⟩=>BV hc pt hn hst pins s σ H v u k' I r ?_⟩
 cases p with
 | @tup a xs ds sq l=>exact ⟨a,xs,rfl,sq,by rw[l.length];exact h.1,st σ H ρ μ xs ds k k' rl l h.1 h.2 post⟩
 | _=>exact MR h
end
section
variable {X:Cx} {o i a b c e value:Nf} {To Ti Ta Tb Te:ETr} {pos tpos apos cpos:Pos}
end
section
variable {P:Nh} {w:Nw} {K:ML} {mg:Str->Option MN} {base:Heap}
end
end
section
open PySem PySem.Spec PyProof.Rows L2
section
variable {X:Cx} {tg a ea eb:Nf} {Ta:ETr} {es:List Nf} {ek:Nat} {ep p pos:Pos}
def Mo (K:ML)(tl:TE):TI:=λσ H R=>tl σ H λx H1=>∃ q,x=.ref q/\(((∃ xs,SqL K H1 q xs)/\R (Itl K q) H1)∨((∃ xs,SqT K H1 q xs)/\R (Itt K q) H1))
theorem GD {tl:TE}(hl:PE X a tl):PI X tg a (Mo X.K tl):=by
 intro pins s σ H R I h
 refine thn (hl pins s σ H _ I h) λv s1 ⟨x,H1,I1,r1,q,ex,qq⟩=>?_
 subst ex
 cases (show v=Nr q from r1)
 have fp:∀ b∈[s1.heap.objs.size],_:=λb hb=>by
  have e:b=s1.heap.objs.size:=by simpa using hb
  subst e
  exact I1.pz (M0 _) (I1.hok.fresh (M0 _))
 rcases qq with ⟨⟨xs,sq⟩,qq⟩ | ⟨⟨xs,sq⟩,qq⟩
 ·obtain ⟨its,rv,pl,hz⟩:=I1.list sq
  exact O8 pl.isList ⟨s1.heap.objs.size,[s1.heap.objs.size],_,_,H1,rfl,I1.kept (t':=s1.toks) (λb o e=>MP _ e),oB q _,⟨_,MW _ rfl,rfl,rfl⟩,fp,qq⟩
 ·obtain ⟨its,rv,pl,hz⟩:=I1.tuple sq
  exact S9 (show s1.heap.IsTuple q its.toArray from pl) ⟨s1.heap.objs.size,[s1.heap.objs.size],_,_,H1,rfl,I1.kept (t':=s1.toks) (λb o e=>MP _ e),vV q _,⟨_,MW _ rfl,rfl,rfl⟩,fp,qq⟩
theorem bH (ha:LE X a Ta):LI X tg a (dh Ta):=by
 obtain ⟨ta,pa,sa⟩:=ha.ex
 refine ⟨_,GD pa,λσ H ρ μ Q R rl h k=>sa σ H ρ μ _ _ rl h λx H1 d μ1 t1 m1 p1 h1=>?_⟩
 cases p1 with
 | @tup p xs ds q l=>exact ⟨p,rfl,.inr ⟨⟨xs,q⟩,k _ H1 ds μ1 t1 m1 (CF q l) h1⟩⟩
 | @ls p xs ds q l=>exact ⟨p,rfl,.inl ⟨⟨xs,q.sq⟩,k _ H1 ds μ1 t1 m1 (E8 q l) h1⟩⟩
 | _=>exact MR h1
def Lr (K:ML)(t:TA):TI:=λσ H R=>t σ H λvs H1=>∃ (ta tb:Bool) (a b:Addr),vs=[.ref a,.ref b]/\(∃ xs,Sq ta K H1 a xs)/\(∃ ys,Sq tb K H1 b ys)/\R (Itz ta tb K a b) H1
theorem Fe {t:TA}(hg:Gl X "zip")(hm:X.mg "zip" = none)(ha:PA X [ea,eb] t)(hs:M6 [ea,eb] X.env=[(false,N1 ea X.env),(false,N1 eb X.env)]:=by rfl)(hs2:M6 [eb] X.env=[(false,N1 eb X.env)]:=by rfl) :
  PI X (.Tuple es ek ep) (.Call (.Name "zip" p) [ea,eb] [] pos) (Lr X.K t):=by
 intro pins s σ H R I h
 refine Call_ (jn I hg hm boot_zip (N7 (thn (ha pos pins s σ H _ I h) λus s1 ⟨vs,H1,I1,r1,ta,tb,a,b,e,⟨xs,qa⟩,⟨ys,qb⟩,q⟩=>?_) (by rw[hs,hs2]) (by rw[hs2];rfl)))
 subst e
 cases r1 with | cons r rr=>cases rr with | cons r' rr=>
 cases rr
 cases (show _=Nr a from r)
 cases (show _=Nr b from r')
 obtain ⟨ia,ra,sa⟩:=Inv.sq I1 qa
 obtain ⟨ib,rb,sb⟩:=Inv.sq I1 qb
 have alt:a < s1.heap.objs.size:=by cases ta<;>(obtain ⟨o,e,_⟩:=sa;exact M1 e)
 have blt:b < s1.heap.objs.size:=by cases tb<;>(obtain ⟨o,e,_⟩:=sb;exact M1 e)
 refine yL sa sb λg S kp=>Uj S.zz ⟨s1.heap.objs.size+4,[s1.heap.objs.size+4,s1.heap.objs.size+2,s1.heap.objs.size+3,s1.heap.objs.size,s1.heap.objs.size+1],_,_,H1,rfl,I1.kept (t':=s1.toks) kp,zN (KI _ _ _ alt blt),S,λc hc=>?_,q⟩
 exact I1.pz (Fl _ _ hc) (I1.hok.fresh (Fl _ _ hc))
def wy (t:ATr):ATr:=λρ μ Q=>t ρ μ λvs μ1=>k2 vs λx y=>kS x λds=>kS y λes=>Q (RM (λd e=>.tup [d,e]) ds es) μ1
theorem vx {K:ML}{H:Hp}{v:V}{x:D}{f:List D->Prop}(p:Dp K H v x)(h:kS x f):∃ (tp:Bool) (a:Addr) (xs:List V) (ds:List D),v=.ref a/\SqX tp K H a xs/\DpL K H xs ds/\kQ tp x f:=by
 cases p with
 | @tup a xs ds q l=>exact ⟨true,a,xs,ds,rfl,q,l,h⟩
 | @ls a xs ds q l=>exact ⟨false,a,xs,ds,rfl,q,l,h⟩
 | _=>exact MR h
theorem w4 {At:ATr}(hg:Gl X "zip")(hm:X.mg "zip" = none)(ha:LA X [ea,eb] At)
  (hs:M6 [ea,eb] X.env=[(false,N1 ea X.env),(false,N1 eb X.env)]:=by rfl) (hs2:M6 [eb] X.env=[(false,N1 eb X.env)]:=by rfl) :
  LI X (.Tuple es ek ep) (.Call (.Name "zip" p) [ea,eb] [] pos) (wy At):=by
 obtain ⟨t,pt,st⟩:=ha.ex
 refine ⟨_,Fe hg hm pt hs hs2,λσ H ρ μ Q R rl h k=>st σ H ρ μ _ _ rl h λvs H1 ds μ1 t1 m1 p1 h1=>?_⟩
 unfold L3.k2 at h1
 split at h1
 case h_2=>exact MR h1
 cases p1 with | cons pa p2=>cases p2 with | cons pb p3=>
 cases p3
 obtain ⟨ta,a,xs,dx,rfl,qa,la,h2⟩:=vx pa h1
 obtain ⟨a',xs',dx',ea',qa',la',h2⟩:=vb pa h2
 cases ea'
 obtain ⟨tb,b,ys,dy,rfl,qb,lb,h3⟩:=vx pb h2
 obtain ⟨b',ys',dy',eb',qb',lb',h3⟩:=vb pb h3
 cases eb'
 refine ⟨ta,tb,a,b,rfl,⟨xs',qa'.sq⟩,⟨ys',qb'.sq⟩,k _ H1 _ μ1 t1 m1 ⟨λi H' tk hi=>?_,λi H' v H'' tk hi yv=>?_,λi H' tk hi=>?_⟩ h3⟩
 ·have l1:=la'.length
  have l2:=lb'.length
  rw[SH] at hi
  exact ⟨xs',ys',xs'[i],ys'[i],tk.sq qa',tk.sq qb',by simp[show i < xs'.length by omega],by simp[show i < ys'.length by omega]⟩
 ·obtain ⟨x,y,q,fx,fy,rfl,fr,rfl⟩:=yv
  obtain ⟨d,ed,pd⟩:=la'.get' (fx _ (tk.sq qa'))
  obtain ⟨e,ee,pe⟩:=lb'.get' (fy _ (tk.sq qb'))
  have tn:Tk H' (L2.upd H' q (.tup [x,y])):=.new fr
  exact ⟨tn,⟨.tup [d,e],by simp[R8,ed,ee],.tup (SqT.of aC) (.cons ((pd.mono tk).mono tn) (.cons ((pe.mono tk).mono tn) .nil))⟩,λμ' m'=>bQ m' fr⟩
 ·have l1:=la'.length
  have l2:=lb'.length
  rw[SH] at hi
  exact ⟨xs',ys',tk.sq qa',tk.sq qb',by omega⟩
variable {i o:Nf} {Ti To:ETr}
theorem GZ (hu:X.A.units+64 < cLine)(hi:LE X i Ti)(ho:LE X o To)(hm:NU .In o=false:=by rfl):LT X (.Compare i [.In] [o] pos) (TB (uJ false Ti To)):=by
 obtain ⟨ti,pi,si⟩:=hi.ex
 obtain ⟨to,po,so⟩:=ho.ex
 exact ⟨_,CD (G8 (hu1 hu) pi po) hm,u9 (Dc si so)⟩
end
end
section
open PySem PySem.Spec PyProof.Rows L2
def ltS (x y:Str):Bool:=decide (x.cps.toList < y.cps.toList)
theorem iG:∀ {us:List MN} {ss:List Str},StrsAre us ss->Vals (ss.map V.str) us
 | _,_,.nil=>.nil
 | _,_,.cons n t h=>.cons ⟨t,rfl⟩ (iG h)
theorem wa:∀ {us:List MN} {ss:List Str},Vals (ss.map V.str) us->StrsAre us ss
 | _,[],h=>by cases h;exact .nil
 | _,s::r,h=>by
  cases h with
  | cons q h=>obtain ⟨t,rfl⟩:=(show ∃ t,_=Sy s t from q);exact .cons s t (wa h)
def Gh (K:ML):List V->Hp->VK->Prop:=λxs H Q=>∃ (p:Addr) (ss:List Str),xs=[.ref p]/\SqL K H p (ss.map V.str)/\ss.length < 64/\∀ ss':List Str,ss'.Perm ss->ss'.Pairwise (λa b=>ltS b a=false)->∀ z,H z=none->Q (.ref z) (L2.upd H z (.lst (ss'.map V.str)))
theorem yV:∀ (p:Str) (l:List Str),risingS p l=true->(p::l).Pairwise (λa b=>ltS b a=false):=by
 have tr:∀ a b c:Str,ltS b a=false->ltS c b=false->ltS c a=false:=by
  intro a b c h1 h2
  unfold ltS at *
  rw[decide_eq_false_iff_not,List.not_lt] at *
  exact List.le_trans h1 h2
 intro p l
 induction l generalizing p with
 | nil=>intro _;exact List.pairwise_singleton _ _
 | cons x r ih=>
  intro h
  have h':ltCps x.cps.toList p.cps.toList=false/\risingS x r=true:=by
   have:(!ltCps x.cps.toList p.cps.toList&&risingS x r)=true:=h
   simpa using this
  have hx:=ih x h'.2
  have hpx:ltS x p=false:=by unfold ltS;rw[← ltCps_eq];exact h'.1
  refine Tn.mpr ⟨λy hy=>?_,hx⟩
  rcases MY.mp hy with rfl | hy
  ·exact hpx
  ·exact tr p x y hpx ((Tn.mp hx).1 y hy)
theorem yX:∀ (l:List Str),sortedS l=true->l.Pairwise (λa b=>ltS b a=false)
 | [],_=>.nil
 | p::l,h=>yV p l h
theorem vi {X:Cx}:bL X (.builtin "sorted") (Gh X.K):=λpins s σ H xs us Q I rx ⟨p,ss,e1,sq,hl,q⟩=>by
 subst e1
 obtain ⟨u,rfl,ru⟩:=vals1 rx
 cases (show u=Nr p from ru)
 obtain ⟨its,rv,pl,hz⟩:=I.list sq
 have hi:StrsAre its ss:=wa rv
 have hlen:its.length < 64:=by have:=rv.length;simp at this;omega
 refine sorted_strs pl.isList hi hlen λout ss' a1 a2 a3=>?_
 obtain ⟨n,en⟩:=sortedAll_at s.heap its out
 refine ⟨.ref _,_,I.laid (t':=s.toks) (o:=.lst (ss'.map V.str)) (λb o e=>sortedAll_old e) (Sg _) ?_,rfl,q ss' a2 (yX _ a3) _ (I.hok.fresh (Sg _))⟩
 have z1:ss'.length=ss.length:=a2.length_eq
 exact ⟨by rw[MX,z1];exact RD (M9 hl (by decide)),out.toList,n,iG a1,by simpa[seqObj] using en⟩
def vw:FSp:=λds μ Q=>match ds with
 | [.ls xs]=>∃ ss:List Str,(xs=ss.map .str/\ss.length < 64)/\∀ ss':List Str,ss'.Perm ss->ss'.Pairwise (λa b=>ltS b a=false)->Q (.ls (ss'.map .str)) μ
 | _=>False
theorem DpL.strs {K:ML}{H:Hp}:∀ ss:List Str,DpL K H (ss.map V.str) (ss.map D.str)
 | []=>.nil
 | s::r=>.cons (.str s) (DpL.strs r)
theorem DpL.iG {K:ML}{H:Hp}:∀ {xs:List V} {ss:List Str},DpL K H xs (ss.map .str)->xs=ss.map V.str
 | _,[],.nil=>rfl
 | _,s::r,.cons h l=>by cases h;rw[DpL.iG l];rfl
section
variable {X:Cx} {e a b:Nf} {x:Str} {p pos:Pos} {At:ATr} {Ta Tb:ETr}
theorem zO (hg:Gl X x)(hm:X.mg x=none)(hv:OF x=some (.builtin "sorted"))(ha:LA X [e] At)(hn:x ≠ "__name__" := by decide)(hdb:(x == ("__debug__" : Str))=false:=by decide)
  (h1:M6 [e] X.env=(false,N1 e X.env)::M6 [] X.env:=by rfl) (h2:(OL pos (M6 [] X.env)).any (·.1)=false:=by rfl):LE X (.Call (.Name x p) [e] [] pos) (aq vw At):=by
 obtain ⟨ta,pa,sa⟩:=ha.ex
 refine ⟨_,mq (qS vi hg hm hv pa hn hdb h1 h2),λσ H ρ μ Q Q' rl h k=>sa σ H ρ μ _ _ rl h λxs H1 ds μ1 t1 m1 p1 h1=>?_⟩
 unfold vw at h1
 split at h1
 ·obtain ⟨ss,⟨rfl,hl⟩,h2⟩:=h1
  cases p1 with | cons p1 p2=>
  cases p2
  cases p1 with
  | @ls a ys _ q l=>
   cases DpL.iG l
   refine ⟨a,ss,rfl,q.sq,hl,λss' a2 a3 z hz=>⟨z,_,rfl,aC,λo=>?_⟩⟩
   have e:L2.upd (L2.upd H1 z (.lst (ss'.map V.str))) z (.frz o (.lst (ss'.map V.str)))=L2.upd H1 z (.frz o (.lst (ss'.map V.str))):=qo
   rw[e]
   exact k _ _ _ μ1 (t1.trans (.new hz)) (bQ m1 hz) (.ls (.inl ⟨o,aC⟩) (.strs ss')) (h2 ss' a2 a3)
 ·exact MR h1
end
end
section
open PySem PySem.Spec PyProof.Rows L2
def hE (C:Mu->Prop)(p:Addr)(G:GTr)(tt:TTr)(te:ETr)(ρc:ST)(K:Mu->Prop):List D->Mu->Prop
 | [],μ=>C μ/\K μ
 | d::r,μ=>C μ/\G d ρc μ λρ1 μ1=>tt ρ1 μ1 λb μ2=>kIf b (te ρ1 μ2 λy μ3=>kL μ3 p λzs=>zs.length < 1000000/\hE C p G tt te ρc K r (up μ3 p (.lst (zs++[y])))) (hE C p G tt te ρc K r μ2)
def pY (To:ETr)(G:GTr)(tt:TTr)(te:ETr)(n:Nat)(caps:List Nat):ETr:=λρ μ Q=>To ρ μ λx μ1=>kObj x λa=>kL μ1 a λds=>∀ p,μ1 p=none->
 hE (λμ=>μ a=some (.lst ds)) p G tt te (fu ρ n caps) (λμ'=>kL μ' p λzs=>Q (.ls zs) (dn μ' p)) ds (up μ1 p (.lst []))
theorem xK {K:ML}{ta:TE}{To:ETr}{G:GTr}{Tt:TTr}{Te:ETr}{n:Nat}{caps:List Nat}(sa:Sim K ta To):Sim K (yF (jD (FP K ta) (oi K n G) (liftT K Tt) (oz K Te) n caps)) (pY To G Tt Te n caps):=by
 intro σ H ρ μ Q Q' rl h k
 refine sa σ H ρ μ _ _ rl h λx H1 dx μ1 t1 m1 px hx=>?_
 obtain ⟨q,rfl,hx⟩:=bK px hx
 obtain ⟨ds,eq0,h1⟩:=bE hx
 obtain ⟨xs0,exs0,l0⟩:=m1 q _ eq0
 refine ⟨q,rfl,⟨_,SqL.of exs0⟩,λD hD=>?_⟩
 have hp:=h1 D (m1.free hD)
 have tD:Tk H1 (L2.upd H1 D (.lst [])):=.new hD
 have mD:bw K (L2.upd H1 D (.lst [])) (up μ1 D (.lst [])):=λa o e=>by
  by_cases ha:a=D
  ·subst ha
   rw[aA] at e;cases e
   exact ⟨[],aC,.nil⟩
  ·rw[aT ha] at e
   exact bQ m1 hD a o e
 refine ⟨λi m ys H2=>m=ds.length - i/\i<=ds.length/\Tk H1 H2/\∃ μ2,bw K H2 μ2/\hE (λμ=>μ q=some (.lst ds)) D G Tt Te (fu ρ n caps) (λμ'=>kL μ' D λzs=>Q (.ls zs) (dn μ' D)) (ds.drop i) μ2,
  ⟨ds.length,by simp,N0 _,tD,_,mD,by simpa using hp⟩,?_⟩
 rintro i m ys H2 ⟨rfl,hi,t12,μ2,m2,h2⟩
 have hg:μ2 q=some (.lst ds):=by
  cases hdr:ds.drop i with
  | nil=>rw[hdr] at h2;exact h2.1
  | cons=>rw[hdr] at h2;exact h2.1
 obtain ⟨xs2,ex2,l2⟩:=m2 q _ hg
 have ll:=l2.length
 by_cases hlt:i < ds.length
 ·refine .inr ⟨⟨xs2,xs2[i]'(by omega),SqL.of ex2,MZ (by omega)⟩,λys' H'=>Tk H1 H'/\∃ μ',bw K H' μ'/\hE (λμ=>μ q=some (.lst ds)) D G Tt Te (fu ρ n caps) (λμ'=>kL μ' D λzs=>Q (.ls zs) (dn μ' D)) (ds.drop (i+1)) μ',λys' H' ⟨t',μ',m',h'⟩=>⟨ds.length - (i+1),by omega,rfl,hlt,t',μ',m',h'⟩,λx H3 y=>?_⟩
  obtain ⟨rfl,y⟩:=y
  have exi:=y xs2 (SqL.of ex2)
  obtain ⟨d,ed,pd⟩:=l2.get' exi
  have e:ds.drop i=d::ds.drop (i+1):=by
   refine (Ob hlt).trans ?_
   congr 1
   rw[MZ hlt] at ed
   exact Nl ed
  rw[e] at h2
  have t13:=t12
  have r3:Rl K (hU σ n caps) H3 (fu ρ n caps) μ2:=qJ (rl.go (t1.trans t13) m2) n caps
  refine ⟨_,_,d,_,r3,pd,h2.2,λσ4 H4 ρ4 μ4 t4 r4 kp h4=>⟨⟨kp.1.symm,λj v ej=>?_⟩,_,_,_,r4,h4,λb H5 μ5 t5 m5 h5=>?_⟩⟩
  ·by_cases hj:n<=j
   ·rw[kp.2 j hj];exact ej
   ·obtain ⟨j',k',e1,_⟩:=iz ej
    omega
  ·have t15:=t13.trans (t4.trans t5)
   cases b with
   | false=>exact qF ⟨t15,μ5,m5,h5⟩
   | true=>
    refine pN ⟨_,_,_,r4.go t5 m5,h5,λv H6 d6 μ6 t6 m6 p6 h6=>?_⟩
    obtain ⟨zs,ez,lz,h7⟩:=bE h6
    obtain ⟨xs,ex,lx⟩:=m6 D _ ez
    have t67:Tk H6 (L2.upd H6 D (.lst (xs++[v]))):=.upd (λys z=>by rw[ex] at z;cases z) λo' u z=>by rw[ex] at z;cases z
    refine ⟨xs,ex,by rw[lx.length];exact M9 lz (by decide),(t15.trans t6).trans t67,up μ6 D (.lst (zs++[d6])),λa o ea=>?_,h7⟩
    by_cases ha:a=D
    ·subst ha
     rw[aA] at ea;cases ea
     exact ⟨_,aC,(lx.append (.cons p6 .nil)).mono t67⟩
    ·rw[aT ha] at ea
     exact (m6 a _ ea).ne t67 ha
 ·have e:i=ds.length:=by omega
  subst e
  rw[P0] at h2
  obtain ⟨zs,ez,hq⟩:=bE (show kL μ2 D λzs=>Q (.ls zs) (dn μ2 D) from h2.2)
  obtain ⟨xs,ex,lx⟩:=m2 D _ ez
  refine .inl ⟨⟨xs2,SqL.of ex2,by omega⟩,D,xs,rfl,ex,λo=>?_⟩
  have t2f:Tk H2 (L2.upd H2 D (.frz o (.lst xs))):=.upd (λys z=>by rw[ex] at z;cases z) λo' u z=>by rw[ex] at z;cases z
  refine k _ _ _ (dn μ2 D) ((t1.trans t12).trans t2f) (λa o' ea=>?_) (.ls (.inl ⟨o,aC⟩) (lx.mono t2f)) hq
  have ha:a≠D:=λz=>by subst z;unfold dn at ea;rw[if_pos rfl] at ea;cases ea
  have ea':μ2 a=some o':=by unfold dn at ea;rw[if_neg ha] at ea;exact ea
  exact (m2 a _ ea').ne t2f ha
theorem yz {X:Cx}{tg elt iter:Nf}{Te:ETr}{Tt:TTr}{pos spos py:Pos}{y:Str}{To:ETr}{G:GTr}{ifs:List Nf}{scope fsc:Scope}(iy:Nat)(hN:X.N.Nodup)(XN Nc:List Str)(n:Nat)(caps:List Nat)(hxe:X.xe=λ_ _=>False)(hcalm:X.calm=true)(hi:LE X iter To)
  (hbody:∀ (cl:List (Str×Addr)) (C:Addr) (s₀:MQ) (H₀:Hp) (ex:List Addr),LGc (aX X scope Nc cl C s₀ H₀ ex) n tg G/\yu (aX X scope Nc cl C s₀ H₀ ex) ifs Tt/\LE (aX X scope Nc cl C s₀ H₀ ex) elt Te)
  (hsc:X.env.scope=fsc) (hXN:X.N=XN) (hok:ji fsc.names XN scope Nc n caps=true)
  (hiy:X.N[iy]? = some y:=by rfl) (hx:Loc X.env.scope y:=by first | exact QK rfl | exact PZ rfl) (hf:X.fn y=true∨X.env.scope.names.lookup y=some .local:=by first | exact .inl rfl | exact .inr rfl | assumption)
  (hsw:Pe (.ListComp elt [⟨tg,iter,ifs,0⟩] scope pos) (some (.Name y py)) spos.line X.env=pure true:=by rfl)
  (hs:∀ x,NS iter X.env x=pure x:=by intro _;rfl) :
  LS X (.Assign [.Name y py] (.ListComp elt [⟨tg,iter,ifs,0⟩] scope pos) spos) (aQ (pY To G Tt Te n caps) (aw iy)):=by
 unfold ji at hok
 simp only[NI,P1] at hok
 obtain ⟨⟨⟨h1,h2⟩,h3⟩,h4⟩:=hok
 obtain ⟨ta,pa,sa⟩:=hi.ex
 refine ⟨_,xn (g:=oi X.K n G) (tt:=liftT X.K Tt) (te:=oz X.K Te) hxe hcalm (DF pa) (λcl C s₀ H₀ ex=>let ⟨h1,h2,h3⟩:=hbody cl C s₀ H₀ ex;⟨h1.pe,h2.pe,h3.pe⟩) (λy hy hf=>?_) (λy hy hf=>?_) (by simpa using h2) (λy hy hf=>?_) (by simpa using h3) (λj k hj=>?_) (gj hN hiy hx hf) hsw hs,λσ H ρ μ E E' rl h k=>xK sa σ H ρ μ _ _ rl h λv H' d μ' t' m' p' h'=>gn iy σ H' ρ μ' v d _ _ (rl.go t' m') p' h' (k.go t').nx⟩
 ·have:=(h1 y hy).1.1
  show X.env.scope.names.lookup y.1=_
  rw[hsc]
  simpa[hf] using this
 ·have:=(h1 y hy).1.2
  simp[hf] at this
 ·have:=(h1 y hy).2
  simpa[hf] using this
 ·have hl:j < caps.length:=(Nm.mp hj).1
  have:=h4 j (QC.mpr hl)
  rw[hj] at this
  dsimp only at this
  rw[hXN]
  cases e:XN[k]? with
  | none=>rw[e] at this;cases this
  | some x=>
   rw[e] at this
   dsimp only at this
   rw[NI] at this
   exact ⟨x,by simpa using this.1,rfl,by simpa using this.2⟩
end
theorem C8 (a b:ETr)(ρ:ST)(μ:Mu)(Q:DK):km a b ρ μ Q=a ρ μ λx μ1=>b ρ μ1 λy μ2=>kObj x λa=>kD μ2 a λkvs=>rn y λk=>kO (aU kvs k) λd=>Q d μ2:=propext MT
theorem IJ (n:Bool)(a b:ETr)(ρ:ST)(μ:Mu)(Q:DK):uJ n a b ρ μ Q=a ρ μ λy μ1=>b ρ μ1 λx μ2=>kObj x λa=>kD μ2 a λkvs=>rn y λk=>Q (.bl (if n then !(aU kvs k).isSome else (aU kvs k).isSome)) μ2:=propext MT
theorem Dz (a b e:ETr)(nx:ST->Mu->Prop)(rt:DK)(bk ct:ST->Mu->Prop)(ρ:ST)(μ:Mu):wD a b e ⟨nx,rt,bk,ct⟩ ρ μ=e ρ μ λv μ1=>a ρ μ1 λx μ2=>b ρ μ2 λy μ3=>kObj x λa=>kD μ3 a λkvs=>rn y λk=>kvs.length < 1000000/\nx ρ (up μ3 a (.dct (putD kvs k v))):=propext MT
theorem GX (f:Int->Int->Int)(i:Nat)(e:ETr)(nx:ST->Mu->Prop)(rt:DK)(bk ct:ST->Mu->Prop)(ρ:ST)(μ:Mu):Ex f i e ⟨nx,rt,bk,ct⟩ ρ μ=ah i ρ μ λd _=>kI d λm=>e ρ μ λw μ1=>kI w λn=>aw i (.int (f m n)) ρ μ1 nx:=propext MT
theorem IV (a b:ETr)(ρ:ST)(μ:Mu)(Q:DK):HS a b ρ μ Q=a ρ μ λx μ1=>kObj x λa=>kL μ1 a λ_=>b ρ μ1 λy μ2=>kI y λj=>(-9223372036854775808<=j/\j < 9223372036854775808)/\kL μ2 a λds=>kN (L2.ixN ds.length j) λk=>kO ds[k]? λd=>Q d (up μ2 a (.lst (ds.eraseIdx k))):=propext MT
theorem GP (a:ETr)(ρ:ST)(μ:Mu)(Q:List D->Mu->Prop):dh a ρ μ Q=a ρ μ λx μ1=>kS x λds=>Q ds μ1:=propext MT
theorem DH (t:ATr)(ρ:ST)(μ:Mu)(Q:List D->Mu->Prop):wy t ρ μ Q=t ρ μ λvs μ1=>k2 vs λx y=>kS x λds=>kS y λes=>Q (RM (λd e=>.tup [d,e]) ds es) μ1:=propext MT
theorem Gb (n:Bool)(x:D)(ds:List D)(μ:Mu)(Q:DK):tZ n x (.tup ds) μ Q=((aO 38 ds=true/\okD 38 x=true)/\Q (.bl (if n then !inG x ds else inG x ds)) μ):=propext MT
theorem HX (s:Str)(f:L2.Key->Prop):rn (.str s) f=f (.inr s):=propext MT
theorem FC {μ:Mu}{a:Addr}{ds:List (L2.Key×D)}(h:μ a=some (.dct ds))(f):kD μ a f=f ds:=by unfold kD;rw[h]
theorem Ln (μ:Mu)(a:Addr)(ds:List (L2.Key×D))(f:List (L2.Key×D)->Prop):kD (up μ a (.dct ds)) a f=f ds:=FC aA f
theorem gL {μ:Mu}{a:Addr}{ds:List (L2.Key×D)}{f:List (L2.Key×D)->Prop}(e:μ a=some (.dct ds))(h:f ds):kD μ a f:=by rw[FC e];exact h
theorem El (xs:List D)(μ:Mu)(Q:DK):kP oF [.ls xs] μ Q=(∃ kvs:List (L2.Key×D),xs=kvs.map uh/\kvs.length<=1000000/\∀ p,μ p=none->Q (.obj p) (up μ p (.dct (cm [] kvs)))):=propext MT
theorem IsPart.of_eq {a b c d x y:Int}(h:IsPart a b x y)(hb:0 < b)(hd:0 < d)(e:a*d=c*b):IsPart c d x y:=by
 have xd:x*d=c*y:=by
  refine Int.eq_of_mul_eq_mul_right (a:=b) (by omega) ?_
  calc x*d*b=(x*b)*d:=by ac_rfl
   _=(a*y)*d:=by rw[h.e]
   _=(a*d)*y:=by ac_rfl
   _=(c*b)*y:=by rw[e]
   _=c*y*b:=by ac_rfl
 have y0:=h.q0
 have dx:x ∣ c:=by
  have:x ∣ y*c:=⟨d,by rw[RO y c];exact xd.symm⟩
  have h':=Qz.mpr this
  rw[h.g] at h'
  simpa using h'
 have dy:y ∣ d:=by
  have:y ∣ x*d:=⟨c,by rw[xd,RO]⟩
  have h':=Qz.mpr this
  rw[Vg,h.g] at h'
  simpa using h'
 refine ⟨h.q0,h.g,xd,?_,U6 (by omega) (R9.mpr dy)⟩
 by_cases hc:c=0
 ·subst hc
  have:x=0:=by
   rcases Int.mul_eq_zero.mp (show x*d=0 by rw[xd,Int.zero_mul]) with z | z
   ·exact z
   ·omega
  rw[this];exact M0 _
 ·exact U6 (by omega) (R9.mpr dx)
structure Vl (d:D) (a b:Int):Prop where
 ex:∃ p q,d=fr p q/\IsPart a b p q
 b0:0 < b
theorem Vl.of_eq {d:D}{a b a' b':Int}(h:Vl d a b)(hb:0 < b')(e:a*b'=a'*b):Vl d a' b':=by
 obtain ⟨⟨p,q,rfl,P⟩,b0⟩:=h
 exact ⟨⟨p,q,rfl,P.of_eq b0 hb e⟩,hb⟩
theorem G9 (a:Int){b:Int}(b0:0 < b):Vl (.tup [.int (a.fdiv (Nj a b)),.int (b.fdiv (Nj a b))]) a b:=by
 have h:=xu (a:=a) (b:=b) (by omega)
 rw[if_neg (by omega)] at h
 exact ⟨⟨_,_,rfl,h⟩,b0⟩
theorem IG {lo hi p q:Int}(h:FrB lo hi p q):Vl (fr p q) p q:=⟨⟨p,q,rfl,h.q0,h.g,rfl,M0 _,M0 _⟩,h.q0⟩
theorem wV {a b x y:Int}(h:IsPart a b x y)(b0:0 < b):Vl (fr x y) a b:=⟨⟨x,y,rfl,h⟩,b0⟩
theorem Lu {p q a b:Int}(g:Int)(q0:0 < q)(b0:0 < b)(e:p*b=a*q):p*g / q=a*g / b:=by
 calc p*g / q=(p*g)*b / (q*b):=(Qn _ _ b0).symm
  _=(a*g)*q / (b*q):=by rw[show p*g*b=(p*b)*g by ac_rfl,e,RO q b,show a*q*g=a*g*q by ac_rfl]
  _=a*g / b:=Qn _ _ q0
theorem Iv {p q a b:Int}(q0:0 < q)(b0:0 < b)(e:p*b=a*q):p / q=a / b:=by
 have:=Lu 1 q0 b0 e
 simpa using this
theorem J9 {p q r s a b c e:Int}(q0:0 < q)(s0:0 < s)(b0:0 < b)(e0:0 < e)(h1:p*b=a*q)(h2:r*e=c*s):(p*s < r*q)↔(a*e < c*b):=by
 have k1:(p*s)*(b*e)=(a*e)*(q*s):=by
  calc (p*s)*(b*e)=(p*b)*(s*e):=by ac_rfl
   _=(a*q)*(s*e):=by rw[h1]
   _=(a*e)*(q*s):=by ac_rfl
 have k2:(r*q)*(b*e)=(c*b)*(q*s):=by
  calc (r*q)*(b*e)=(r*e)*(q*b):=by ac_rfl
   _=(c*s)*(q*b):=by rw[h2]
   _=(c*b)*(q*s):=by ac_rfl
 have be:0 < b*e:=Oq b0 e0
 have qs:0 < q*s:=Oq q0 s0
 constructor
 ·intro h
  have:=QA h be
  rw[k1,k2] at this
  exact QL this (TX qs)
 ·intro h
  have:=QA h qs
  rw[← k1,← k2] at this
  exact QL this (TX be)
def Le (a A:Int):Prop:=-A<=a/\a<=A
theorem Le.mono {a A B:Int}(h:Le a A)(hb:A<=B):Le a B:=⟨by have:=h.1;omega,by have:=h.2;omega⟩
theorem Le.of {a A:Int}(h0:0<=a)(h1:a<=A):Le a A:=⟨by omega,h1⟩
theorem Le.add {a b A B:Int}(h:Le a A)(k:Le b B):Le (a+b) (A+B):=⟨by have:=h.1;have:=k.1;omega,by have:=h.2;have:=k.2;omega⟩
theorem Le.neg {a A:Int}(h:Le a A):Le (-a) A:=⟨by have:=h.2;omega,by have:=h.1;omega⟩
theorem Le.abs {a A:Int}(h:Le a A):(a.natAbs:Int)<=A:=by have:=h.1;have:=h.2;omega
theorem Le.zg {a A:Int}(h:(a.natAbs:Int)<=A):Le a A:=⟨by omega,by omega⟩
theorem Le.mul {a b A B:Int}(h:Le a A)(k:Le b B):Le (a*b) (A*B):=by
 refine .zg ?_
 rw[UW,Int.natCast_mul]
 have a0:(0:Int)<=(a.natAbs:Int):=Oz _
 have b0:(0:Int)<=(b.natAbs:Int):=Oz _
 exact Ss h.abs k.abs b0 (Int.le_trans a0 h.abs)
abbrev Bd (a:Int):Prop:=Le a 1000000000000000000000000000000
theorem Bd.m {a:Int}(h:Bd a):ei a:=by have:=h.1;have:=h.2;unfold ei;omega
theorem Bd.mm {a b:Int}(h:Bd a)(k:Bd b):ei (a*b):=by
 have:=(h.mul k).1;have:=(h.mul k).2
 unfold ei;omega
theorem Bd.mul {a b:Int}(h:Bd a)(k:Bd b):MulOk a b:=.inr ⟨h.m,k.m⟩
theorem IsPart.bp {a b x y:Int}(h:IsPart a b x y)(ha:Bd a):Bd x:=.zg (by have:=h.pa;have:=ha.abs;omega)
theorem IsPart.bq {a b x y:Int}(h:IsPart a b x y)(hb:Bd b):Bd y:=.zg (by have:=h.qb;have:=hb.abs;omega)
inductive Wd | jz | step | oq | Cw | calm
 deriving DecidableEq
structure RN where
 wd:Wd
 p:Int
 q:Int
 x:Int
 y:Int
 a:Int
 b:Int
 l:Int
 h:Int
 r:Int
 s:Int
def Wd.str:Wd->Str
 | .jz=>MK "still"
 | .step=>MK "step"
 | .oq=>MK "swell"
 | .Cw=>MK "heed"
 | .calm=>MK "calm"
def RN.toD (R:RN):D:=match R.wd with
 | .jz=>.tup [.str "still", fr R.p R.q]
 | .step=>.tup [.str "step", fr R.p R.q,fr R.x R.y,fr R.a R.b,fr R.r R.s]
 | .oq=>.tup [.str "swell", fr R.p R.q,fr R.x R.y,fr R.a R.b,fr R.r R.s]
 | .Cw=>.tup [.str "heed", fr R.p R.q,fr R.x R.y,fr R.a R.b,fr R.r R.s]
 | .calm=>.tup [.str "calm", fr R.p R.q,fr R.x R.y,.int R.l,.int R.h,fr R.r R.s]
structure RN.Ok (R:RN):Prop where
 w:FrB 1 60 R.p R.q
 t:FrB 1 60 R.r R.s
 wt:R.p*R.s<=R.r*R.q
 u:FrA 0 60 R.x R.y
 u1:R.wd=.oq->R.y < R.x
 g:FrA 0 1 R.a R.b
 d1:R.wd=.step∨R.wd=.oq->R.a < R.b
 l0:0<=R.l
 lh:R.l<=R.h
 h1:R.h<=60
 st:R.wd=.jz->R.r=R.p/\R.s=R.q
theorem DA {lo hi:Int}(h0:lo < 1)(h1:1<=hi):FrA lo hi 1 1:=⟨⟨by decide,by decide,by decide,by omega,by omega⟩,by omega⟩
structure Hd where
 good:Int
 mark:Int
 ED:Int
 wt:Int
structure Hd.Ok (h:Hd):Prop where
 g0:0<=h.good
 g1:h.good<=1000000
 m0:0<=h.mark
 m1:h.mark<=1000000
 l0:0<=h.ED
 l1:h.ED<=1000000
 w0:0<=h.wt
def Hd.toD (h:Hd):D:=.tup [.int h.good,.int h.mark,.int h.ED,.int h.wt]
def RN.idle (R:RN)(h:Hd):Prop:=R.wd=.jz∨h.good+h.mark+h.ED=0
instance (R:RN) (h:Hd):Decidable (R.idle h):=by unfold RN.idle;infer_instance
local macro_rules | `(tactic| walk_at "rd")=>zzS "L3.ah L3.TC L3.ak L3.TUn L3.zT L3.uT L3.nW L3.TB L3.rC L3.TOr L3.tw L3.rK L3.ue L3.ar L3.ag L3.a7 L3.eI L3.jc L3.aq L3.bT L3.aG L3.va L3.zX L3.fq L3.a5 L3.BH L3.df L3.aw L3.aQ L3.rP L3.dI L3.fK L3.eU L3.dh L3.bS L3.fO L3.fu L3.j1 L3.KS L3.ILs L3.yY L3.Bi L3.A7 L3.BZ L3.Bw L3.vK L3.oX L3.tX L3.BP L3.uK L3.o7 L3.wI L3.mi L3.qu L3.qw L3.pW L3.pR L3.kU L3.kC L3.yq L3.lO L3.kW L3.me L3.kK L3.lH L3.lM L3.kj L3.lP L3.kY L3.TSl L3.ONo L3.mN L3.CI L3.BX L3.Bh L3.As L3.Ag L3.Ci L3.u5 L3.uc L3.z8 L3.Al L3.Ab L3.mJ L3.lQ L3.lX L3.vN L3.ub L3.u3 L3.uZ L3.vh L3.uB L3.uv L3.vm L3.vk L3.AI L3.Bv L3.A4 L3.Cs L3.zm L3.zr L3.sQ L3.xG L3.Ce L3.tW L3.uR L3.vf L3.vB L3.vH L3.uo L3.vq L3.vA L3.uV L3.uL L3.lk L3.ini TR NZ N8 Uu Vp Rt Pq RL SR SS L3.wQ L3.wL L3.xo L3.wB L3.wF L3.xg L3.CP L3.Bg L3.z7 Pz PB L3.aA L3.oh TU Ru if_true if_false true_and and_true SU Sn So Rv Qc RY decide_eq_true_eq Pw ite_false ite_true ne_eq not_false_eq_true RZ SV SW SX SY S0 TV L3.okD L3.aO L3.eqD L3.fh Rc Rf Rg L3.dR L3.fV decide_true decide_false Bool.or_true U0 Ve U2 Bool.and_false UK and_self L3.dO L3.cT L3.d7 L3.eu L3.dU L3.d9 L3.eX L3.eV L3.cW L3.dY L3.dQ L3.dG L3.dX L3.fb L3.eC L3.eP L3.dZ L3.fk L3.dN L3.e8 L3.qi L3.xV L3.zQ L3.yg L3.zx L3.AL L3.iO L3.iD L3.iS L3.iM L3.iZ L3.iW L3.iE"
def kf:FSp:=λds μ Q=>kcA ds λd1 ds=>kcA ds λd2 ds=>kcN ds (∃ a b c e,((Vl d1 a b/\Vl d2 c e)/\Bd a/\Bd b/\Bd c/\Bd e)/\∀ z,Vl z (a*e+c*b) (b*e)->Q z μ)
theorem BN:∀ ds μ Q,kf ds μ Q->ds.length=2:=λ_ _ _ h=>lcA h λ_ _ h=>lcA h λ_ _ h=>by rw[(ecN h).1];rfl
def Cv:STr:=a5 (aq eW (ag (ak aK (ak bX (ak L3.rIx (ah 0) (TC (.int 0))) (ak L3.rIx (ah 1) (TC (.int 1)))) (ak bX (ak L3.rIx (ah 1) (TC (.int 0))) (ak L3.rIx (ah 0) (TC (.int 1))))) (ag (ak bX (ak L3.rIx (ah 0) (TC (.int 1))) (ak L3.rIx (ah 1) (TC (.int 1)))) (ar))))
theorem D9:∀ ds μ Q,kf ds μ Q->Cv { nx:=λ_ μ'=>RT Q .non μ',rt:=RT Q } (ini 2 ds) μ:=by
 intro ds μ Q h
 replace h:=ecA h
 obtain ⟨d1,ds,rfl,h⟩:=h
 replace h:=ecA h
 obtain ⟨d2,ds,rfl,h⟩:=h
 replace h:=ecN h
 obtain ⟨rfl,h⟩:=h
 unfold Cv
 walk_at "rd"
 obtain ⟨a,b,c,e,⟨⟨V1,V2⟩,Ba,Bb,Bc,Be⟩,k⟩:=h
 obtain ⟨⟨p,q,rfl,P⟩,b0⟩:=V1
 obtain ⟨⟨r,s,rfl,S⟩,e0⟩:=V2
 have q0:=P.q0
 have s0:=S.q0
 have be:0 < b*e:=Oq b0 e0
 have qs:0 < q*s:=Oq q0 s0
 have Bp:=P.bp Ba
 have Bq:=P.bq Bb
 have Br:=S.bp Bc
 have Bs:=S.bq Be
 walk_at "rd"
 refine ⟨Bp.mul Bs,Br.mul Bq,Bq.mul Bs,⟨by omega,Bq.mm Bs⟩,λx y Pt=>⟨_,.refl _,k _ ⟨⟨x,y,rfl,Pt.of_eq qs be ?_⟩,be⟩⟩⟩
 calc (p*s+r*q)*(b*e)=(p*b)*(s*e)+(r*e)*(q*b):=by rw[Q2];congr 1<;>ac_rfl
  _=(a*q)*(s*e)+(c*s)*(q*b):=by rw[P.e,S.e]
  _=(a*e+c*b)*(q*s):=by rw[Q2];congr 1<;>ac_rfl
def i7:FSp:=λds μ Q=>kcA ds λd1 ds=>kcA ds λd2 ds=>kcN ds (∃ a b c e,((Vl d1 a b/\Vl d2 c e)/\Bd a/\Bd b/\Bd c/\Bd e)/\∀ z,Vl z (a*e - c*b) (b*e)->Q z μ)
theorem xH:∀ ds μ Q,i7 ds μ Q->ds.length=2:=λ_ _ _ h=>lcA h λ_ _ h=>lcA h λ_ _ h=>by rw[(ecN h).1];rfl
def wU:STr:=a5 (aq eW (ag (ak uP (ak bX (ak L3.rIx (ah 0) (TC (.int 0))) (ak L3.rIx (ah 1) (TC (.int 1)))) (ak bX (ak L3.rIx (ah 1) (TC (.int 0))) (ak L3.rIx (ah 0) (TC (.int 1))))) (ag (ak bX (ak L3.rIx (ah 0) (TC (.int 1))) (ak L3.rIx (ah 1) (TC (.int 1)))) (ar))))
theorem By:∀ ds μ Q,i7 ds μ Q->wU { nx:=λ_ μ'=>RT Q .non μ',rt:=RT Q } (ini 2 ds) μ:=by
 intro ds μ Q h
 replace h:=ecA h
 obtain ⟨d1,ds,rfl,h⟩:=h
 replace h:=ecA h
 obtain ⟨d2,ds,rfl,h⟩:=h
 replace h:=ecN h
 obtain ⟨rfl,h⟩:=h
 unfold wU
 walk_at "rd"
 obtain ⟨a,b,c,e,⟨⟨V1,V2⟩,Ba,Bb,Bc,Be⟩,k⟩:=h
 obtain ⟨⟨p,q,rfl,P⟩,b0⟩:=V1
 obtain ⟨⟨r,s,rfl,S⟩,e0⟩:=V2
 have q0:=P.q0
 have s0:=S.q0
 have be:0 < b*e:=Oq b0 e0
 have qs:0 < q*s:=Oq q0 s0
 have Bp:=P.bp Ba
 have Bq:=P.bq Bb
 have Br:=S.bp Bc
 have Bs:=S.bq Be
 walk_at "rd"
 refine ⟨Bp.mul Bs,Br.mul Bq,Bq.mul Bs,⟨by omega,Bq.mm Bs⟩,λx y Pt=>⟨_,.refl _,k _ ⟨⟨x,y,rfl,Pt.of_eq qs be ?_⟩,be⟩⟩⟩
 calc (p*s - r*q)*(b*e)=(p*b)*(s*e) - (r*e)*(q*b):=by rw[Int.sub_mul];congr 1<;>ac_rfl
  _=(a*q)*(s*e) - (c*s)*(q*b):=by rw[P.e,S.e]
  _=(a*e - c*b)*(q*s):=by rw[Int.sub_mul];congr 1<;>ac_rfl
def ja:FSp:=λds μ Q=>kcA ds λd1 ds=>kcA ds λd2 ds=>kcN ds (∃ a b c e,((Vl d1 a b/\Vl d2 c e)/\Bd a/\Bd b/\Bd c/\Bd e)/\Q (.bl (decide (a*e < c*b))) μ)
theorem Bt:∀ ds μ Q,ja ds μ Q->ds.length=2:=λ_ _ _ h=>lcA h λ_ _ h=>lcA h λ_ _ h=>by rw[(ecN h).1];rfl
def zY:STr:=a5 (ak rLt (ak bX (ak L3.rIx (ah 0) (TC (.int 0))) (ak L3.rIx (ah 1) (TC (.int 1)))) (ak bX (ak L3.rIx (ah 1) (TC (.int 0))) (ak L3.rIx (ah 0) (TC (.int 1)))))
theorem D0:∀ ds μ Q,ja ds μ Q->zY { nx:=λ_ μ'=>RT Q .non μ',rt:=RT Q } (ini 2 ds) μ:=by
 intro ds μ Q h
 replace h:=ecA h
 obtain ⟨d1,ds,rfl,h⟩:=h
 replace h:=ecA h
 obtain ⟨d2,ds,rfl,h⟩:=h
 replace h:=ecN h
 obtain ⟨rfl,h⟩:=h
 unfold zY
 walk_at "rd"
 obtain ⟨a,b,c,e,⟨⟨V1,V2⟩,Ba,Bb,Bc,Be⟩,k⟩:=h
 obtain ⟨⟨p,q,rfl,P⟩,b0⟩:=V1
 obtain ⟨⟨r,s,rfl,S⟩,e0⟩:=V2
 walk_at "rd"
 refine ⟨(P.bp Ba).mul (S.bq Be),(S.bp Bc).mul (P.bq Bb),_,.refl _,?_⟩
 rw[show decide (p*s < r*q)=decide (a*e < c*b) from decide_eq_decide.mpr (J9 P.q0 S.q0 b0 e0 P.e S.e)]
 exact k
def dj:FSp:=λds μ Q=>kcA ds λd1 ds=>kcN ds (∃ a b,(Vl d1 a b/\Bd b)/\Q (.int (a / b)) μ)
theorem qC:∀ ds μ Q,dj ds μ Q->ds.length=1:=λ_ _ _ h=>lcA h λ_ _ h=>by rw[(ecN h).1];rfl
def mw:STr:=a5 (ak jd (ak L3.rIx (ah 0) (TC (.int 0))) (ak L3.rIx (ah 0) (TC (.int 1))))
theorem rB:∀ ds μ Q,dj ds μ Q->mw { nx:=λ_ μ'=>RT Q .non μ',rt:=RT Q } (ini 1 ds) μ:=by
 intro ds μ Q h
 replace h:=ecA h
 obtain ⟨d1,ds,rfl,h⟩:=h
 replace h:=ecN h
 obtain ⟨rfl,h⟩:=h
 unfold mw
 walk_at "rd"
 obtain ⟨a,b,⟨⟨⟨p,q,rfl,P⟩,b0⟩,Bb⟩,k⟩:=h
 have q0:=P.q0
 walk_at "rd"
 rw[iw q0,Iv q0 b0 P.e]
 exact ⟨⟨by omega,(P.bq Bb).m⟩,_,.refl _,k⟩
theorem BG {xs:List D}{d:D}(h:xs[xs.length - 1]? = some d)(h0:xs≠[]):atD xs ((xs.length:Int) - 1)=some d:=by
 have:0 < xs.length:=List.length_pos_iff.mpr h0
 have e:((xs.length:Int) - 1)=((xs.length - 1:Nat):Int):=by omega
 rw[e,bF,h]
theorem RN.tup (R:RN)(hst:R.wd=.jz->R.r=R.p/\R.s=R.q):∃ xs,R.toD=.tup xs/\xs[0]? = some (.str R.wd.str)/\xs[1]? = some (fr R.p R.q)/\xs[xs.length - 1]? = some (fr R.r R.s)/\xs≠[]:=by
 obtain ⟨wd,p,q,x,y,a,b,l,h,r,s⟩:=R
 cases wd
 ·obtain ⟨e1,e2⟩:=hst rfl
  dsimp only at e1 e2
  subst e1 e2
  exact ⟨_,rfl,rfl,rfl,rfl,nofun⟩
 all_goals exact ⟨_,rfl,rfl,rfl,rfl,nofun⟩
def gr:FSp:=λds μ Q=>kcA ds λd ds=>kcN ds (∃ R:RN,(R.Ok/\d=R.toD)/\Q (fr R.r R.s) μ)
theorem vS:∀ ds μ Q,gr ds μ Q->ds.length=1:=λ_ _ _ h=>lcA h λ_ _ h=>by rw[(ecN h).1];rfl
def qM:STr:=a5 (ak L3.rIx (ah 0) (ak uP (aq gA (ag (ah 0) (ar))) (TC (.int 1))))
theorem xS:∀ ds μ Q,gr ds μ Q->qM { nx:=λ_ μ'=>RT Q .non μ',rt:=RT Q } (ini 1 ds) μ:=by
 intro ds μ Q h
 replace h:=ecA h
 obtain ⟨d,ds,rfl,h⟩:=h
 replace h:=ecN h
 obtain ⟨rfl,h⟩:=h
 unfold qM
 walk_at "rd"
 obtain ⟨R,⟨K,rfl⟩,k⟩:=h
 obtain ⟨xs,e,_,_,e3,e4⟩:=R.tup K.st
 rw[e]
 walk_at "rd"
 rw[BG e3 e4]
 exact ⟨_,.refl _,k⟩
def K1:=Jn @Iu <| Jn @Dv <| Jn @Ib <| Jn @EC <| Jn @GS <| Jn @Eb <| Jn @Gx <| Jn @E7 <| Jn @IS <| Jn @DB <| Jn @Gk <| Jn @E4 <| Jn @Jq <| Jn @C1 <| Jn @Ir <| Jn @EG <| Jn @Gr <| Jn @Fd <| Jn @HK <| Jn @DE <| Jn @Ff <| Jn @AS <| Jn @AK <| Jn @BY <| Jn @DW <| Jn @Cu <| Jn @EY <| Jn @Am <| Jn @DS <| Jn @zD <| Jn @Lz <| Jn @Jx <| Jn @Lm <| Jn @Hg <| Jn @Ef <| Jn @Mk <| Jn @IX <| Jn @JB <| Jn @IP <| Jn @GR <| Jn @GW <| Jn @Df <| Jn @Je <| Jn @HL <| Jn @Ie <| Jn @E3 <| Jn @DN <| Jn @HE <| Jn @EV <| Jn @Hi <| Jn @F4 <| Jn @F7 <| Jn @G1 <| Jn @I0 <| Jn @xR <| Jn @G6 <| Jn @ID <| Jn @Lo <| Jn @JZ <| Jn @Iw <| Jn @Gj <| Jn @IQ <| Jn @IM <| Jn @K8 <| Jn @Lh <| Jn @Kn <| Jn @JD <| Jn @KH <| Jn @Ko <| Jn @Ht <| Jn @HF <| Jn @GY <| Jn @Ej <| Jn @E5 <| Jn @C6 <| Jn @zR <| Jn @xN <| Jn @z9 <| Jn @EF <| Jn @AG <| Jn @xI <| Jn @wI <| Jn @yB <| Jn @yJ <| Jn @yo <| Jn @AE <| Jn @Aq <| Jn @BA <| Jn @zf <| Jn @Ck <| Jn @AR <| Jn @CT <| Jn @Ew <| Jn @EM <| Jn @EB <| Jn @Dy <| Jn @Eh <| Jn @D2 <| Jn @Im <| Jn @HP <| Jn @Ho <| Jn @BQ <| Jn @CN <| @Hx
local macro_rules | `(tactic| walk_at "go")=>zzS "↓L3.K1 ↓L3.wj ↓L3.kC L3.dO L3.cT L3.d7 L3.eu L3.dU L3.d9 L3.eX L3.eV L3.cW L3.dY L3.dQ L3.dG L3.dX L3.fb L3.eC L3.eP L3.dZ L3.fk L3.dN L3.e8 L3.qi L3.JO L3.Ka L3.He L3.Gq L3.xk L3.r8 L3.FH L3.FO L3.FY L3.FL L3.w8 L3.zl L3.Cg L3.w6 L3.xh L3.wA L3.wH true_and and_true and_self Bool.not_true Bool.not_false decide_true decide_false Bool.or_true Bool.or_false Bool.true_or Bool.false_or Bool.and_false Bool.false_and Bool.and_true Bool.true_and Int.reduceToNat Int.reducePow Int.reduceNeg Int.reduceSub Int.reduceAdd Int.reduceMul Int.reduceEq Int.reduceLT Int.reduceLE Int.reduceBEq L3.oh L3.iO L3.iD L3.iS L3.iM L3.iZ L3.iW L3.iE if_true if_false Bool.false_eq_true reduceCtorEq decide_eq_true_eq"
local macro_rules | `(tactic| walk_at "ini")=>`(tactic| simp only[ini,List.map,List.length,List.replicate,Nat.reduceSub,Nat.reduceAdd,Nat.sub_self,List.cons_append,List.nil_append,List.append_nil])
theorem cZ {xs:List D}{P:D->Prop}(h:∀ d∈xs,P d){k:Int}(k0:0<=k)(k1:k < xs.length):∃ d,atD xs k=some d/\P d:=by
 obtain ⟨j,rfl⟩:=OT k0
 rw[bF]
 have hj:j < xs.length:=by omega
 exact ⟨xs[j],by simp[hj],h _ (P6 hj)⟩
def IsL (hi:Int)(d:D):Prop:=∃ p q,d=fr p q/\FrL hi p q
def IsI (lo hi:Int)(d:D):Prop:=∃ i:Int,d=.int i/\lo<=i/\i<=hi
theorem gY {P:D->Prop}:∀ d∈([]:List D),P d:=λ_ h=>nomatch h
theorem a6 {P:D->Prop}{a:D}{xs:List D}(h:P a)(k:∀ d∈xs,P d):∀ d∈a::xs,P d:=λd hd=>by
 rcases MY.mp hd with e | e
 ·rw[e];exact h
 ·exact k d e
local macro_rules | `(tactic| walk_at "all")=>`(tactic| repeat' (first | exact gY | refine a6 ?_ ?_))
structure m7 (b p:Addr) (xs:List D) (μ μ':Mu):Prop where
 box:Box μ' b
 ne:p≠b
 new:μ p=none
 at':μ' p=some (.lst xs)
 oth:∀ a,a≠b->a≠p->μ' a=μ a
theorem m7.go {b p:Addr}{xs:List D}{μ μ1 μ2:Mu}(h:m7 b p xs μ μ1)(B:cC b μ1 μ2):m7 b p xs μ μ2:=
 ⟨B.box,h.ne,h.new,by rw[B.oth p h.ne];exact h.at',λa h1 h2=>by rw[B.oth a h1];exact h.oth a h1 h2⟩
theorem m7.set {b p:Addr}{xs ys:List D}{μ μ1:Mu}(h:m7 b p xs μ μ1):m7 b p ys μ (up μ1 p (.lst ys)):=by
 obtain ⟨g,s,c,e,hh⟩:=h.box
 exact ⟨⟨g,s,c,by rw[aT h.ne.symm];exact e,hh⟩,h.ne,h.new,aA,λa h1 h2=>by rw[aT h2];exact h.oth a h1 h2⟩
theorem Hv (μ:Mu)(p:Addr):Sub (dn μ p) μ:=λa o e=>by
 unfold dn at e
 split at e
 ·cases e
 ·exact e
theorem m7.fin {b p:Addr}{xs:List D}{μ μ1:Mu}(h:m7 b p xs μ μ1):cC b μ (dn μ1 p):=by
 obtain ⟨g,s,c,e,hh⟩:=h.box
 refine ⟨⟨g,s,c,?_,hh⟩,λa ha=>?_⟩
 ·unfold dn;rw[if_neg h.ne.symm];exact e
 ·unfold dn
  split
  ·rename_i z;subst z;exact h.new.symm
  ·rename_i z;exact h.oth a ha z
theorem m7.rt {b p:Addr}{xs:List D}{μ μ1:Mu}{Q:DK}{d:D}(h:m7 b p xs μ μ1)(k:∀ μ',cC b μ μ'->Q d μ'):RT Q d μ1:=⟨_,Hv μ1 p,k _ h.fin⟩
theorem oH {p:Addr}{G:GTr}{tt:TTr}{te:ETr}{ρc:ST}{K:Mu->Prop}(P:List D->Mu->Prop)(hnil:∀ μ,P [] μ->K μ)
  (hcons:∀ d r μ (N:Mu->Prop),P (d::r) μ->(∀ μ',P r μ'->N μ')->G d ρc μ λρ1 μ1=>tt ρ1 μ1 λb μ2=>kIf b (te ρ1 μ2 λy μ3=>kL μ3 p λzs=>zs.length < 1000000/\N (up μ3 p (.lst (zs++[y])))) (N μ2)) :
  ∀ (ds:List D) (μ:Mu),P ds μ->fO p G tt te ρc K ds μ
 | [],μ,h=>hnil μ h
 | d::r,μ,h=>hcons d r μ _ h λμ' q=>oH P hnil hcons r μ' q
mutual
theorem sk:∀ (n:Nat) (d:D),okD n d=true->eqD d d=true
 | n,.non,_=>rfl
 | n,.bl b,_=>by simp[eqD]
 | n,.int i,_=>by simp[eqD]
 | n,.str x,_=>by simp[eqD]
 | n+1,.tup ds,h=>by simp only[eqD];exact jg n ds h
 | n+1,.ls ds,h=>by simp only[eqD];exact jg n ds h
 | 0,.tup ds,h=>by cases h
 | 0,.ls ds,h=>by cases h
 | n,.ty _,h=>by cases n<;>cases h
 | n,.obj _,h=>by cases n<;>cases h
theorem jg:∀ (n:Nat) (ds:List D),aO n ds=true->fh ds ds=true
 | n,[],_=>rfl
 | n,d::r,h=>by
  have h':okD n d=true/\aO n r=true:=by simpa[aO] using h
  simp only[fh,sk n d h'.1,jg n r h'.2,Rc]
end
theorem JW (d0:D)(r:List D)(f:D->Prop):kO (atD (d0::r) 0) f=f d0:=by rw[wQ];rfl
theorem KC (d0 d1:D)(r:List D)(f:D->Prop):kO (atD (d0::d1::r) 1) f=f d1:=by rw[wL];rfl
theorem JU (d0 d1 d2:D)(r:List D)(f:D->Prop):kO (atD (d0::d1::d2::r) 2) f=f d2:=by rw[xo];rfl
theorem Kc (d0 d1 d2 d3:D)(r:List D)(f:D->Prop):kO (atD (d0::d1::d2::d3::r) 3) f=f d3:=by rw[wB];rfl
theorem Kt (d0 d1 d2 d3 d4:D)(r:List D)(f:D->Prop):kO (atD (d0::d1::d2::d3::d4::r) 4) f=f d4:=by rw[wF];rfl
theorem Kf (d0 d1 d2 d3 d4 d5:D)(r:List D)(f:D->Prop):kO (atD (d0::d1::d2::d3::d4::d5::r) 5) f=f d5:=by rw[xg];rfl
def Ds (G:GTr)(tt:TTr)(te:ETr)(ρc:ST)(ds:List D)(μ:Mu)(Q:DK):Prop:=∀ p,μ p=none->fO p G tt te ρc (λμ'=>kL μ' p λzs=>Q (.ls zs) (dn μ' p)) ds (up μ p (.lst []))
theorem Dq (it:ATr)(G:GTr)(tt:TTr)(te:ETr)(n:Nat)(caps:List Nat)(ρ:ST)(μ:Mu)(Q:DK):bS it G tt te n caps ρ μ Q=it ρ μ λds μ1=>Ds G tt te (fu ρ n caps) ds μ1 Q:=propext MT
section
variable {G:GTr} {tt:TTr} {te:ETr} {ρc:ST} {ds:List D} {μ:Mu} {Q:DK}
theorem zU (I:List D->List D->Prop)(h0:I ds [])(hl:ds.length<=999999)
  (step:∀ d r zs μ',Sub μ μ'->I (d::r) zs->∀ (N:Option D->Mu->Prop),(∀ oy,I r (zs++oy.toList)->N oy μ')->G d ρc μ' λρ1 μ1=>tt ρ1 μ1 λb μ2=>kIf b (te ρ1 μ2 λy μ3=>N (some y) μ3) (N none μ2))
  (k:∀ zs,I [] zs->Q (.ls zs) μ):Ds G tt te ρc ds μ Q:=by
 intro p hp
 refine oH (λr μ'=>∃ zs,I r zs/\zs.length+r.length<=ds.length/\μ'=up μ p (.lst zs)) ?_ ?_ _ _ ⟨[],h0,by simp,rfl⟩
 ·rintro μ' ⟨zs,hI,_,rfl⟩
  refine bh aA ?_
  rw[Ks hp];exact k zs hI
 ·rintro d r μ' N ⟨zs,hI,hz,rfl⟩ hN
  rw[Nk] at hz
  refine step d r zs _ (Sub.new hp) hI (λoy μ3=>match oy with
   | some y=>kL μ3 p λzs=>zs.length < 1000000/\N (up μ3 p (.lst (zs++[y])))
   | none=>N μ3) ?_
  intro oy hoy
  cases oy with
  | none=>exact hN _ ⟨zs,by simpa using hoy,by omega,rfl⟩
  | some y=>
   refine bh aA ⟨by omega,hN _ ⟨zs++[y],hoy,by rw[Nt];simp;omega,?_⟩⟩
   rw[oh]
theorem de {α:Type}(xs:List α)(t:α->D)(h:α->Option D)(hds:ds=xs.map t)(hl:xs.length<=999999)
  (step:∀ x∈xs,∀ μ',Sub μ μ'->∀ (N:Option D->Mu->Prop),N (h x) μ'->G (t x) ρc μ' λρ1 μ1=>tt ρ1 μ1 λb μ2=>kIf b (te ρ1 μ2 λy μ3=>N (some y) μ3) (N none μ2))
  (k:Q (.ls (xs.filterMap h)) μ):Ds G tt te ρc ds μ Q:=by
 subst hds
 refine zU (λr zs=>∃ a c,xs=a++c/\r=c.map t/\zs=a.filterMap h) ⟨[],xs,rfl,rfl,rfl⟩ (by simpa using hl) ?_ ?_
 ·rintro d r zs μ' sb ⟨a,c,e,er,rfl⟩ N hN
  cases c with
  | nil=>cases er
  | cons x c=>
  cases er
  refine step x (by rw[e];simp) μ' sb N (hN _ ⟨a++[x],c,by rw[e];simp,rfl,?_⟩)
  rw[List.filterMap_append]
  cases hx:h x<;>simp[hx]
 ·rintro zs ⟨a,c,e,er,rfl⟩
  have:c=[]:=by cases c with | nil=>rfl | cons=>cases er
  subst this
  rw[NN] at e
  subst e;exact k
theorem b7 {α:Type}(xs:List α)(t:α->D)(h:α->D)(hds:ds=xs.map t)(hl:xs.length<=999999)
  (step:∀ x∈xs,∀ μ',Sub μ μ'->∀ (N:DK),N (h x) μ'->G (t x) ρc μ' λρ1 μ1=>te ρ1 μ1 N)
  (k:Q (.ls (xs.map h)) μ):Ds G j1 te ρc ds μ Q:=by
 refine de xs t (λx=>some (h x)) hds hl (λx hx μ' s N n=>?_) (by rw[show (λx=>some (h x))=some ∘ h from rfl,Sa];exact k)
 exact step x hx μ' s (λy μ3=>N (some y) μ3) n
def FA (a:Addr)(full:List D)(G:GTr)(tt:TTr)(te:ETr)(ρc:ST)(ds:List D)(μ:Mu)(Q:DK):Prop:=∀ p,μ p=none->hE (λμ=>μ a=some (.lst full)) p G tt te ρc (λμ'=>kL μ' p λzs=>Q (.ls zs) (dn μ' p)) ds (up μ p (.lst []))
theorem Az (To:ETr)(G:GTr)(tt:TTr)(te:ETr)(n:Nat)(caps:List Nat)(ρ:ST)(μ:Mu)(Q:DK):pY To G tt te n caps ρ μ Q=To ρ μ λx μ1=>kObj x λa=>kL μ1 a λds=>FA a ds G tt te (fu ρ n caps) ds μ1 Q:=propext MT
theorem kG {C:Mu->Prop}{p:Addr}{ρc:ST}{K:Mu->Prop}(P:List D->Mu->Prop)(hC:∀ r μ,P r μ->C μ)(hnil:∀ μ,P [] μ->K μ)
  (hcons:∀ d r μ (N:Mu->Prop),P (d::r) μ->(∀ μ',P r μ'->N μ')->G d ρc μ λρ1 μ1=>tt ρ1 μ1 λb μ2=>kIf b (te ρ1 μ2 λy μ3=>kL μ3 p λzs=>zs.length < 1000000/\N (up μ3 p (.lst (zs++[y])))) (N μ2)) :
  ∀ (ds:List D) (μ:Mu),P ds μ->hE C p G tt te ρc K ds μ
 | [],μ,h=>⟨hC _ _ h,hnil μ h⟩
 | d::r,μ,h=>⟨hC _ _ h,hcons d r μ _ h λμ' q=>kG P hC hnil hcons r μ' q⟩
end
section
open PySem PySem.Spec PyProof.Rows L2
section
variable {prog:Nh} {w:Nw} {A:NH} {E:MN->MQ->Prop} {s:MQ}
end
section
variable {X:Cx} {ea eb:Nf} {Ta Tb:ETr} {p p2 pos rpos:Pos}
end
end
section
open PySem PySem.Spec PyProof.Rows L2
section
variable {prog:Nh} {w:Nw} {A:NH} {E:MN->MQ->Prop} {s:MQ}
end
end
section
open PySem PySem.Spec PyProof.Rows L2
section
variable {prog:Nh} {w:Nw} {A:NH} {E:MN->MQ->Prop} {s:MQ}
theorem CL {tp:Bool}{e it a:Addr}{i:Nat}{xs:Array MN}{x old:MN}{Q:Option MN->MQ->Prop}(en:RP s.heap e it i old)(li:eL tp s.heap it a i)(se:cI tp s.heap a xs)(hx:xs[i]? = some x)(ne:e≠it)
  (q:∀ g,IsEnumOut g e it ((i:Int)+1) x s.heap.objs.size->eL tp g it a (i+1)->g.get? s.heap.objs.size=some { cls:=.type "tuple", data:=.seq #[.int i s.toks,x] }->
   (∀ c o,c≠e->c≠it->s.heap.get? c=some o->g.get? c=some o)->Q (some (.ref s.heap.objs.size)) { s with heap:=g,toks:=s.toks+1 }):M4 (Nb prog w) A (Pk (.ref e)) Q E s:=by
 have ty:s.TypeIs (.ref e) "enumerate" := ⟨_,en,rfl⟩
 unfold Pk
 refine MM (O4 (Nx (name:=MK "__next__") ty O6 (NQ O6 ty RQ ?_ (Rx _))))
 refine MM (m:=Sh (.ref e) 2) (Nu en rfl (x:=.ref it) rfl (MM (m:=Nn (.ref it)) (kb li se hx λg1 li1 k1=>?_)))
 have en1:RP g1 e it i old:=(k1.2 e ne).trans en
 refine MM (m:=Sh (.ref e) 3) (Nu (s:={ s with heap:=g1 }) en1 rfl (x:=OQ i) rfl (MM (m:=Sh (.ref e) 4) (Nu (s:={ s with heap:=g1 }) en1 rfl (x:=.none) rfl (MM (m:=mkInt i) (wpAny_mkInt ?_)))))
 refine MM (m:=TZ (.ref e) 3 (OQ ((i:Int)+1))) (ND en1 (by simp) λg2 en2 k2=>?_)
 have en2:RP g2 e it ((i:Int)+1) old:=en2
 refine MM (m:=TZ (.ref e) 4 .none) (ND en2 (by simp) λg3 en3 k3=>?_)
 have en3:RP g3 e it ((i:Int)+1) old:=en3
 refine MM (m:=newTuple [.int i s.toks,x]) (wpAny_newTuple ?_)
 have sz:g3.objs.size=s.heap.objs.size:=by rw[k3.1,k2.1,k1.1]
 have en4:RP (g3.push { cls:=.type "tuple", data:=.seq #[.int i s.toks,x] }) e it ((i:Int)+1) old:=MP _ en3
 have elt:e < g3.objs.size:=M1 en3
 refine MM (m:=Nz (.ref e)) ?_
 delta Nz
 refine MM (Nu (s:={ s with heap:=g3.push { cls:=.type "tuple", data:=.seq #[.int i s.toks,x] },toks:=s.toks+1 }) en4 rfl (x:=.none) rfl (wpAny_pure ?_))
 simp only[if_true]
 refine MM (OW (MM (Nu en4 rfl (x:=old) rfl (MM (ND en4 (by simp) λg5 en5 k5=>?_)))))
 have en5:RP g5 e it ((i:Int)+1) x:=en5
 refine MM (m:=NY (.ref e) (.ref g3.objs.size)) ?_
 delta NY
 refine MM (ND en5 (by simp) λg6 en6 k6=>?_)
 have en6:IsEnumOut g6 e it ((i:Int)+1) x g3.objs.size:=en6
 refine ND en6 (by simp) λg7 en7 k7=>?_
 have en7:IsEnumOut g7 e it ((i:Int)+1) x g3.objs.size:=en7
 have up3:∀ c o,c≠e->g3.get? c=some o->g7.get? c=some o:=λc o c1 h=>(k7.2 c c1).trans ((k6.2 c c1).trans ((k5.2 c c1).trans (MP _ h)))
 have new:g7.get? g3.objs.size=some { cls:=.type "tuple", data:=.seq #[.int i s.toks,x] }:=(k7.2 _ (OX elt)).trans ((k6.2 _ (OX elt)).trans ((k5.2 _ (OX elt)).trans (MW _ rfl)))
 rw[sz] at en7 new
 have fin:=q g7 en7 (li1.at λo h=>up3 it o (Np ne) ((k3.2 it (Np ne)).trans ((k2.2 it (Np ne)).trans h))) new λc o c1 c2 h=>up3 c o c1 ((k3.2 c c1).trans ((k2.2 c c1).trans ((k1.2 c c2).trans h)))
 rw[← sz] at fin
 exact MM (Sk (wpAny_pure ⟨_,rfl,wpAny_pure fin⟩))
theorem EA {tp:Bool}{e it a:Addr}{i:Nat}{xs:Array MN}{old:MN}{Q:Option MN->MQ->Prop}(hh:A.handled=none)(en:RP s.heap e it i old)(li:eL tp s.heap it a i)(se:cI tp s.heap a xs)(hx:xs[i]? = none)
  (q:∀ g,Si it s.heap g->Q none { s with heap:=g }):M4 (Nb prog w) A (Pk (.ref e)) Q E s:=by
 have ty:s.TypeIs (.ref e) "enumerate" := ⟨_,en,rfl⟩
 unfold Pk
 refine MM (O4 (Nx (name:=MK "__next__") ty O6 (NQ O6 ty RQ ?_ (Rx _))))
 refine MM (m:=Sh (.ref e) 2) (Nu en rfl (x:=.ref it) rfl (MM (m:=Nn (.ref it)) (u6 hh li se hx λg z kp sz=>?_)))
 obtain ⟨o,ho,hc⟩:=sz
 exact MM (wpAny_isInstance (T := "StopIteration") (b:=true) ⟨o,ho,hc⟩ Sl (wpAny_pure (q _ kp)))
theorem Ct (tp:Bool)(a:Addr)(xs:Array MN):Meets (Qy.«enumerate.__new__» ⟨[.type "enumerate", .ref a],[]⟩) (λ_ R s=>cI tp s.heap a xs/\
   R (.ok (.ret (.ref (s.heap.push (itO tp a)).objs.size))) { s with heap:=(s.heap.push (itO tp a)).push { cls:=.type "enumerate", data:=.fields #[.none,.bool false,.ref s.heap.objs.size,OQ 0,.none,.none] } }):=
 .of_wp λprog w A R s h=>by
  rcases s with ⟨hp,g,d,tk,os⟩
  obtain ⟨h1,h⟩:=h
  have hs0:=sub_enumerate
  have H1:cI tp (Ut ⟨hp,g,d,tk,os⟩) a xs:=h1
  wp_walk
  refine wpAny_stack_any λstk=>wpAny_pure ?_
  split
  ·rename_i c _ _ _ _ _
   cases (c == Vr "enumerate")<;>(wp_walk using EH H1;exact ⟨_,rfl,h⟩)
  ·wp_walk using EH H1
   exact ⟨_,rfl,h⟩
theorem uC {tp:Bool}{a:Addr}{xs:Array MN}{Q:MN->MQ->Prop}(h1:cI tp s.heap a xs)
  (q:∀ g,RP g (s.heap.objs.size+1) s.heap.objs.size 0 .none->eL tp g s.heap.objs.size a 0->(∀ c o,s.heap.get? c=some o->g.get? c=some o)->Q (.ref (s.heap.objs.size+1)) { s with heap:=g }) :
  M4 (Nb prog w) A (call (.type "enumerate") [.ref a]) Q E s:=by
 refine callType_new F.called_enumerate (by decide) (F.typeCall_enumerate_1 _) (F.newCall_enumerate_1 _) (λobj=>F.args_object_init_2 obj _) F.entry_enumerate_new (Ct tp a xs) ⟨h1,?_⟩
 have s1:(s.heap.push (itO tp a)).objs.size=s.heap.objs.size+1:=OS ..
 have new:RP ((s.heap.push (itO tp a)).push { cls:=.type "enumerate", data:=.fields #[.none,.bool false,.ref s.heap.objs.size,OQ 0,.none,.none] }) (s.heap.push (itO tp a)).objs.size s.heap.objs.size 0 .none:=MW _ rfl
 refine ⟨⟨_,new,rfl⟩,?_⟩
 rw[s1] at new ⊢
 refine q _ new ?_ λc o h=>MP _ (MP _ h)
 have z:=MP { cls:=.type "enumerate", data:=.fields #[.none,.bool false,.ref s.heap.objs.size,OQ 0,.none,.none] } (MW s.heap (o:=itO tp a) (by cases tp<;>rfl))
 cases tp<;>exact ⟨_,z,rfl,rfl⟩
end
def Itn (tp:Bool)(K:ML)(a:Addr):It:=
 ⟨λi H=>∃ xs x,Sq tp K H a xs/\xs[i]? = some x,
  λi H v H'=>∃ x p,(∀ xs,Sq tp K H a xs->xs[i]? = some x)/\v=.ref p/\H p=none/\H'=L2.upd H p (.tup [.int i,x]),
  λi H=>∃ xs,Sq tp K H a xs/\xs.length<=i⟩
structure NAt (tp:Bool) (h:Heap) (e it a:Addr) (k:Nat):Prop where
 en:∃ old,RP h e it k old
 li:eL tp h it a k
theorem Bz {P:Nh}{w:Nw}{K:ML}{es:List Nf}{ek:Nat}{ep:Pos}{tp:Bool}{e it a:Addr}(n1:e≠it) :
  Turn P w K (.Tuple es ek ep) (Itn tp K a) [e,it] e (λk h=>NAt tp h e it a k) where
 mem:=by simp
 obj:=λk h S c hc=>by
  obtain ⟨⟨old,en⟩,li⟩:=S
  simp only[MY,Ny,or_false] at hc
  rcases hc with rfl | rfl
  ·exact ⟨_,en,λv y=>by cases y⟩
  ·obtain ⟨o,ho,vs,hd⟩:=li.ex;exact ⟨o,ho,λv y=>by rw[hd] at y;cases y⟩
 keep:=λk h g S kp=>by
  obtain ⟨⟨old,en⟩,li⟩:=S
  exact ⟨⟨old,kp e (by simp) _ en⟩,li.at λo q=>kp it (by simp) o q⟩
 item:=by
  intro X hP hw hK hc k pins s σ H E I hf S hg
  subst hP hw hK
  obtain ⟨xs,x,qa,ex⟩:=hg
  obtain ⟨⟨old,en⟩,li⟩:=S
  obtain ⟨ia,ra,sa⟩:=Inv.sq I qa
  obtain ⟨ux,hux,rx⟩:=ra.get ex
  have elt:e < s.heap.objs.size:=M1 en
  have fr:H s.heap.objs.size=none:=I.hok.fresh (M0 _)
  refine CL en li sa (x:=ux) (by simpa using hux) n1 λg eo li2 new al=>⟨_,rfl,wpAny_letOwnedTupleGo_enum eo λg2 en2 k2=>?_⟩
  have k2:OV e g g2:=k2
  have all:∀ c o,c ∉ [e,it]->s.heap.get? c=some o->g2.get? c=some o:=λc o hc q=>by
   simp only[MY,Ny,or_false,not_or] at hc
   exact (k2.2 c hc.1).trans (al c o hc.1 hc.2 q)
  have new2:g2.get? s.heap.objs.size=some { cls:=.type "tuple", data:=.seq #[.int k s.toks,ux] }:=(k2.2 _ (OX elt)).trans new
  have nfp:∀ c u,H c=some u->c ∉ [e,it]:=λc u q hc=>by rw[(hf c hc).1] at q;cases q
  refine ⟨.ref s.heap.objs.size,L2.upd H s.heap.objs.size (.tup [.int k,x]),?_,rfl,⟨x,_,λxs' q=>by rw[Inv.uG I q qa];exact ex,rfl,fr,rfl⟩,⟨⟨_,en2⟩,li2.at λo q=>(k2.2 it (Np n1)).trans q⟩,λc hc=>?_⟩
  ·refine L2.Inv.step (s:=s) (H:=H) (H':=L2.upd H s.heap.objs.size (.tup [.int k,x])) (g':=s.gens) (d':=s.drawn) (t':=s.toks+1) (h':=g2) (ch:=[e,it]) I (λc hc=>⟨(hf c hc).2.2.2.1,(hf c hc).2.1,(hf c hc).2.2.2.2.1,(hf c hc).2.2.2.2.2⟩) (λc o _ _ hc q _=>all c o hc q) (λc o _ _ hc q _=>⟨o.slots,all c o hc q⟩) (λc o hc q n=>?_) (λc o hc q=>⟨o,all c o hc q⟩)
    (λc xs q=>?_) (λc o u q=>?_) (λc ps q=>⟨#[],?_⟩) (λm hm=>?_) (λc u q=>?_) I.bare
   ·rw[az (Na (M1 q))];exact n
   ·rw[az (aR q fr)];exact q
   ·rw[az (aR q fr)];exact q
   ·rw[az (aR q fr),q];simp
   ·obtain ⟨o,es',ep',ho,r⟩:=hm
    exact ⟨o,es',ep',all _ o (λhc=>(hf _ hc).2.1 rfl) ho,r⟩
   ·by_cases hcT:c=s.heap.objs.size
    ·subst hcT
     rw[aC] at q;cases q
     exact ⟨by show 2<=sizeLine;decide,[.int k s.toks,ux],.cons ⟨s.toks,rfl⟩ (.cons rx .nil),⟨_,new2⟩⟩
    ·rw[az hcT] at q
     refine (I.hok c u q).jj (λc' v hc' z=>all c' v ?_ z) (λc' z=>by rw[az (aR z fr)];exact z) λc' xs z=>by rw[az (aR z fr)];exact z
     rcases hc' with rfl | hc'
     ·exact nfp _ _ q
     ·exact nfp _ _ hc'
  ·have hcl:c≠s.heap.objs.size:=by
    simp only[MY,Ny,or_false] at hc
    rcases hc with rfl | rfl
    ·exact Na elt
    ·obtain ⟨o,q,_⟩:=li.ex;exact Na (M1 q)
   rw[az hcl];exact (hf c hc).1
 done:=by
  intro X hP hw hK hc k pins s σ H E I hf S hg
  subst hP hw hK
  obtain ⟨xs,qa,he⟩:=hg
  obtain ⟨⟨old,en⟩,li⟩:=S
  obtain ⟨ia,ra,sa⟩:=Inv.sq I qa
  have la:=ra.length
  obtain ⟨f0,f1,f2,f3,f4,f5⟩:=hf it (by simp)
  exact EA (I.ok.hd hc) en li sa (by simp;omega) λg eb=>⟨rfl,I.turned (t':=s.toks) (λb o hb q=>eb b o hb q) f0 f1 f3 f4 f5⟩
 self:=λ_ _ _ _ _ S h=>by
  obtain ⟨⟨old,en⟩,_⟩:=S
  exact T3 en h
def MB (K:ML)(t:TA):TI:=λσ H R=>t σ H λvs H1=>∃ (tp:Bool) (a:Addr),vs=[.ref a]/\(∃ xs,Sq tp K H1 a xs)/\R (Itn tp K a) H1
section
variable {X:Cx} {ea:Nf} {es:List Nf} {ek:Nat} {ep p pos:Pos}
theorem G7 {t:TA}(hg:Gl X "enumerate")(hm:X.mg "enumerate" = none)(ha:PA X [ea] t)(hs:M6 [ea] X.env=[(false,N1 ea X.env)]:=by rfl) :
  PI X (.Tuple es ek ep) (.Call (.Name "enumerate" p) [ea] [] pos) (MB X.K t):=by
 intro pins s σ H R I h
 refine Call_ (jn I hg hm boot_enumerate (N7 (thn (ha pos pins s σ H _ I h) λus s1 ⟨vs,H1,I1,r1,q1⟩=>?_) (by rw[hs];rfl) rfl))
 obtain ⟨tp,a,e,⟨xs,qa⟩,q⟩:=q1
 subst e
 cases r1 with | cons r rr=>
 cases rr
 cases (show _=Nr a from r)
 obtain ⟨ia,ra,sa⟩:=Inv.sq I1 qa
 refine uC sa λg en li kp=>T3 en ?_
 refine ⟨s1.heap.objs.size+1,[s1.heap.objs.size+1,s1.heap.objs.size],_,_,H1,rfl,I1.kept (t':=s1.toks) kp,Bz (tp:=tp) (a:=a) (Nat.succ_ne_self _),⟨⟨_,en⟩,li⟩,λc hc=>?_,q⟩
 have hc':s1.heap.objs.size<=c:=by
  simp only[MY,Ny,or_false] at hc
  rcases hc with rfl | rfl
  ·exact Sg _
  ·exact M0 _
 exact I1.pz hc' (I1.hok.fresh hc')
def wc (t:ATr):ATr:=λρ μ Q=>t ρ μ λvs μ1=>match vs with
 | [x]=>kS x λds=>Q (gW ds) μ1
 | _=>False
theorem wC {At:ATr}(hg:Gl X "enumerate")(hm:X.mg "enumerate" = none)(ha:LA X [ea] At)(hs:M6 [ea] X.env=[(false,N1 ea X.env)]:=by rfl) :
  LI X (.Tuple es ek ep) (.Call (.Name "enumerate" p) [ea] [] pos) (wc At):=by
 obtain ⟨t,pt,st⟩:=ha.ex
 refine ⟨_,G7 hg hm pt hs,λσ H ρ μ Q R rl h k=>st σ H ρ μ _ _ rl h λvs H1 ds μ1 t1 m1 p1 h1=>?_⟩
 split at h1
 case h_2=>exact MR h1
 cases p1 with | cons pa p2=>
 cases p2
 obtain ⟨tp,a,xs,dx,rfl,qa,la,h2⟩:=vx pa h1
 obtain ⟨a',xs',dx',ea',qa',la',h2⟩:=vb pa h2
 cases ea'
 refine ⟨tp,a,rfl,⟨xs',qa'.sq⟩,k _ H1 _ μ1 t1 m1 ⟨λi H' tk hi=>?_,λi H' v H'' tk hi yv=>?_,λi H' tk hi=>?_⟩ h2⟩
 ·have l1:=la'.length
  rw[oM] at hi
  exact ⟨xs',xs'[i],tk.sq qa',by simp[show i < xs'.length by omega]⟩
 ·obtain ⟨x,q,fx,rfl,fr,rfl⟩:=yv
  have ex:=fx _ (tk.sq qa')
  obtain ⟨d,ed,pd⟩:=la'.get' ex
  have tn:Tk H' (L2.upd H' q (.tup [.int i,x])):=.new fr
  exact ⟨tn,⟨.tup [.int i,d],by rw[oj,ed];rfl,.tup (SqT.of aC) (.cons (.int _) (.cons ((pd.mono tk).mono tn) .nil))⟩,λμ' m'=>bQ m' fr⟩
 ·rw[oM] at hi
  exact ⟨xs',tk.sq qa',by rw[la'.length];exact hi⟩
end
end
section
open PySem PySem.Spec PyProof PyProof.Rows L2
section
variable {w:Nw} {prog:Nh} {A:NH} {E:MN->MQ->Prop}
section
variable {R:Result->MQ->Prop} {I:Addr} {fp wr:List Addr} {n:Nat} {P:Nat->MN->Prop} {St:Nat->Heap->Prop}
end
variable {s:MQ}
end
section
variable {X:Cx} {e d:Nf} {p pos kp:Pos} {Te Td:ETr}
end
end
section
open PySem PySem.Spec PyProof.Rows L2
section
variable {X:Cx} {o i:Nf} {To Ti:ETr} {apos cpos:Pos}
end
end
section
open PySem PySem.Spec PyProof.Rows L2
section
variable {X:Cx} {o i:Nf} {To Ti:ETr} {apos cpos:Pos}
end
end
section
open PySem PySem.Spec PyProof.Rows L2
def kTp (x:D)(f:List D->Prop):Prop:=match x with
 | .tup ds=>f ds
 | _=>False
end
section
open PySem PySem.Spec PyProof.Rows L2
section
variable {X:Cx} {a b c d:Nf} {ta tb tc td:TE} {Ta Tb Tc Td:ETr} {pos:Pos} {o1 o2 o3:Up} {r1 r2 r3:L2.R2} {R1 R2 R3:DR2}
end
end
section
open PySem PySem.Spec PyProof.Rows L2
section
variable {X:Cx} {tg a b:Nf} {Ta Tb:ETr} {pos:Pos}
def rF:DR2:=λx y μ Q=>match x,y with
 | .str z,.int i=>z.length<=1000000/\kN (atI z.cps.toList i) λc=>Q (.str ⟨#[c]⟩) μ
 | _,_=>False
theorem EW {K:ML}:dm K L2.Jr rF:=λH μ x y dx dy Q Q' m px py h k=>by
 cases px with
 | str z=>
  cases py with
  | int i=>
   obtain ⟨h1,h2⟩:=h
   obtain ⟨c,ec,h3⟩:=vZ h2
   exact ⟨z,i,c,rfl,rfl,NR h1 (by decide),ec,k _ H _ μ (.refl H) m (.str _) h3⟩
  | _=>exact MR h
 | _=>exact MR (by cases py<;>exact h)
theorem G5 (ha:LE X a Ta)(hb:LE X b Tb)(hs:pU b:=by intro _ _;rfl):LE X (.Subscript a b pos) (ak rF Ta Tb):=by
 obtain ⟨ta,pa,sa⟩:=ha.ex
 obtain ⟨tb,pb,sb⟩:=hb.ex
 exact ⟨_,FV zy pa pb hs,iH EW sa sb⟩
end
end
section
open PySem PySem.Spec PyProof.Rows L2
def xp:ETr:=λρ μ Q=>∀ p,μ p=none->Q (.obj p) (up μ p (.dct []))
theorem AJ {X:Cx}{pos:Pos}:LE X (.Dict [] [] pos) xp:=C4
end
section
open PySem PySem.Spec PyProof.Rows L2
section
variable {X:Cx} {o i:Nf} {apos cpos:Pos}
end
end
section
open PySem PySem.Spec PyProof PyProof.Rows L2
section
variable {X:Cx} {o:Nf} {apos cpos pos p:Pos} {x:Str}
end
end
section
open PySem PySem.Spec PyProof.Rows L2
def GJ:FSp:=λds μ Q=>match ds with
 | [.obj a]=>kD μ a λkvs=>∀ p,μ p=none->Q (.obj p) (up μ p (.dct kvs))
 | _=>False
end
structure WE where
 nm:Str
 pc:Int
 rm:D
 ma:D
 so:D
def WE.toD (w:WE):D:=.tup [.str w.nm,.int w.pc,w.rm,w.ma,w.so]
structure WE.Ok (w:WE):Prop where
 n:M7 w.nm=true
 ne:w.nm≠MK ""
 p0:1<=w.pc
 p1:w.pc<=20
structure SE where
 nm:Str
 r0:Str
 rd:List Str
 bt:Int
 bg:D
 mn:D
 R:RN
def SE.road (s:SE):List Str:=s.r0::s.rd
def SE.toD (s:SE):D:=.tup [.str s.nm,.tup (s.road.map .str),.int s.bt,s.bg,s.mn,s.R.toD]
structure SE.Ok (s:SE):Prop where
 n:M7 s.nm=true
 r:∀ x∈s.road,M7 x=true
 b0:1<=s.bt
 b1:s.bt<=8
 R:s.R.Ok
 bo:okD 38 s.bg=true
 mo:okD 38 s.mn=true
def SE.lim (s:SE):Int:=s.R.r / s.R.s
theorem SE.Ok.lim {s:SE}(h:s.Ok):1<=s.lim/\s.lim<=60:=by
 have t:=h.R.t
 have q0:=t.q0
 have h1:=t.ge
 have h2:=t.le
 exact ⟨(Int.le_ediv_iff_mul_le q0).mpr h1,Int.ediv_le_of_le_mul q0 h2⟩
structure PE' (ws:List WE) (ss:List SE):Prop where
 w:∀ x∈ws,x.Ok
 s:∀ x∈ss,x.Ok
 rd:∀ x∈ss,x.road.Sublist (ws.map WE.nm)
 wl:ws.length<=8
 sl:ss.length<=8
 nd:(ss.map SE.nm).Nodup
 wn:(ws.map WE.nm).Nodup
theorem PE'.all {ws:List WE}{ss:List SE}(h:PE' ws ss):∀ x∈ss,∀ n∈x.road,∃ y∈ws,y.nm=n:=λx hx n hn=>M3.mp ((h.rd x hx).subset hn)
theorem PE'.on {ws:List WE}{ss:List SE}(h:PE' ws ss):∀ x∈ss,∃ y∈ws,y.nm=x.r0:=λx hx=>h.all x hx x.r0 MS
theorem L1 (w:WE)(μ:Mu)(Q:DK):L3.rIx w.toD (.int 0) μ Q=Q (.str w.nm) μ:=propext MT
theorem L0 (w:WE)(μ:Mu)(Q:DK):L3.rIx w.toD (.int 1) μ Q=Q (.int w.pc) μ:=propext MT
theorem L9 (w:SE)(μ:Mu)(Q:DK):L3.rIx w.toD (.int 0) μ Q=Q (.str w.nm) μ:=propext MT
theorem LL (w:SE)(μ:Mu)(Q:DK):L3.rIx w.toD (.int 1) μ Q=Q (.tup (w.road.map .str)) μ:=propext MT
theorem LF (w:SE)(μ:Mu)(Q:DK):L3.rIx w.toD (.int 2) μ Q=Q (.int w.bt) μ:=propext MT
theorem Md (w:SE)(μ:Mu)(Q:DK):L3.rIx w.toD (.int 5) μ Q=Q w.R.toD μ:=propext MT
def ba (g:D)(ws:List WE)(ss:List SE):D:=.tup [g,.tup (ws.map WE.toD),.tup (ss.map SE.toD)]
theorem My (g:D)(ws:List WE)(ss:List SE)(μ:Mu)(Q:DK):L3.rIx (ba g ws ss) (.int 1) μ Q=Q (.tup (ws.map WE.toD)) μ:=propext MT
theorem Mb (g:D)(ws:List WE)(ss:List SE)(μ:Mu)(Q:DK):L3.rIx (ba g ws ss) (.int 2) μ Q=Q (.tup (ss.map SE.toD)) μ:=propext MT
theorem pD (w:Str)(os:List Str):inG (.str w) (os.map .str)=decide (w∈os):=by
 unfold inG
 rw[List.any_map,R4,Ou,decide_eq_true_eq]
 constructor
 ·rintro ⟨x,hx,e⟩
  have:x=w:=by simpa[eqD] using e
  exact this ▸ hx
 ·exact λh=>⟨w,h,by simp[eqD]⟩
theorem ki {os:List Str}{k:Nat}(h:∀ x∈os,M7 x=true):aO k (os.map .str)=true:=by
 induction os with
 | nil=>simp[aO]
 | cons a r ih=>
  rw[Ni,aO,NI]
  exact ⟨by cases k<;>simpa[okD] using h a MS,ih λn z=>h n (MU _ z)⟩
structure SOk (x:Int×Int):Prop where
 d0:0 < x.2
 g:Nj x.1 x.2=1
 n:Le x.1 (1000*x.2)
def frS (x:Int×Int):D:=fr x.1 x.2
theorem SOk.vl {x:Int×Int}(h:SOk x):Vl (frS x) x.1 x.2:=⟨⟨x.1,x.2,rfl,h.d0,h.g,rfl,M0 _,M0 _⟩,h.d0⟩
def Ml (t x:Int×Int):Int×Int:=(t.1*x.2+x.1*t.2,t.2*x.2)
def du:List (Int×Int)->Int
 | []=>1
 | x::r=>x.2*du r
theorem jt:∀ {xs:List (Int×Int)},(∀ x∈xs,SOk x)->1<=du xs
 | [],_=>N6 _
 | x::r,h=>by
  have h1:=jt λy hy=>h y (MU _ hy)
  have h2:=(h x MS).d0
  show 1<=x.2*du r
  have:=Ss (show 1<=x.2 by omega) h1 (by decide) (by omega)
  omega
structure Sm (t:Int×Int) (r:List (Int×Int)) (k:Nat):Prop where
 b0:0 < t.2
 pr:t.2*du r<=100000000000000000000000
 a:Le t.1 (1000*k*t.2)
 k:k+r.length<=8
 o:∀ x∈r,SOk x
theorem Sm.item {t x:Int×Int}{r:List (Int×Int)}{k:Nat}(h:Sm t (x::r) k):Bd x.1/\Bd x.2:=by
 have hx:=h.o x MS
 have d0:=hx.d0
 have p1:=jt λy hy=>h.o y (MU _ hy)
 have b0:=h.b0
 have hb:x.2<=100000000000000000000000:=by
  have e:t.2*du (x::r)=x.2*(t.2*du r):=by show t.2*(x.2*du r)=_;rw[Oj]
  have h1:1<=t.2*du r:=by
   have:=Ss (show 1<=t.2 by omega) p1 (by decide) (by omega)
   omega
  have:=Qe h1 (show 0<=x.2 by omega)
  have:=h.pr
  rw[e] at this
  omega
 exact ⟨hx.n.mono (by omega),Le.of (by omega) (by omega)⟩
theorem Sm.next {t x:Int×Int}{r:List (Int×Int)}{k:Nat}(h:Sm t (x::r) k):Sm (Ml t x) r (k+1):=by
 have hx:=h.o x MS
 have d0:=hx.d0
 have b0:=h.b0
 refine ⟨Oq b0 d0,?_,?_,by have:=h.k;simp at this;omega,λy hy=>h.o y (MU _ hy)⟩
 ·have:=h.pr
  show t.2*x.2*du r<=_
  rw[P9]
  exact this
 ·have h1:=h.a.mul (Le.of (a:=x.2) (A:=x.2) (by omega) (N6 _))
  have h2:=hx.n.mul (Le.of (a:=t.2) (A:=t.2) (by omega) (N6 _))
  refine (h1.add h2).mono (Int.le_of_eq ?_)
  show 1000*(k:Int)*t.2*x.2+1000*x.2*t.2=1000*((k+1:Nat):Int)*(t.2*x.2)
  rw[Int.natCast_succ]
  rw[show 1000*((k:Int)+1)=1000*k+1000 by omega,Q2,P9 (1000*(k:Int)),P9 1000 x.2 t.2,RO x.2 t.2]
theorem Sm.less {t x:Int×Int}{r:List (Int×Int)}{k:Nat}(h:Sm t (x::r) k):Sm t r k:=by
 have hx:=h.o x MS
 have d0:=hx.d0
 have b0:=h.b0
 have o':=λy hy=>h.o y (MU x hy)
 refine ⟨b0,?_,h.a,by have:=h.k;simp at this;omega,o'⟩
 have p1:=jt o'
 have e:t.2*du (x::r)=x.2*(t.2*du r):=by show t.2*(x.2*du r)=_;rw[Oj]
 have h1:0<=t.2*du r:=Su (by omega) (by omega)
 have:=NV (show 1<=x.2 by omega) h1
 have:=h.pr
 rw[e] at this
 omega
abbrev ShF:=Str->Int×Int
structure MG (f:ShF) (ss:List SE):Prop where
 o:∀ s∈ss,SOk (f s.nm)
 p:du (ss.map λs=>f s.nm)<=100000000000000000000000
def MI (f:ShF)(n:Str)(x:Int×Int):ShF:=λw=>if w=n then x else f w
theorem JS {x:Int×Int}{a b:Int}(h:Vl (frS x) a b):IsPart a b x.1 x.2:=by
 obtain ⟨⟨p,q,e,P⟩,_⟩:=h
 unfold frS fr at e
 injection e with e
 injection e with e1 e
 injection e with e2 _
 injection e1 with e1
 injection e2 with e2
 rw[e1,e2];exact P
theorem gu (kvs:List (L2.Key×D))(k j:L2.Key)(d:D):aU (putD kvs k d) j=if j=k then some d else aU kvs j:=by
 unfold putD aU
 split
 ·rename_i ha
  induction kvs with
  | nil=>cases ha
  | cons kv r ih=>
   rw[Ni,NC,NC]
   by_cases e:kv.1=k
   ·rw[if_pos e]
    by_cases f:j=k
    ·rw[if_pos f,f,decide_eq_true e];rfl
    ·rw[if_neg f,e,decide_eq_false (Np f)]
     by_cases hr:(r.any λkv=>decide (kv.1=k))=true
     ·have:=ih hr
      rw[if_neg f] at this
      exact this
     ·have same:r.map (λkv=>if kv.1=k then (kv.1,d) else kv)=r:=by
       refine (Pl λx hx=>?_).trans (List.map_id r)
       have:¬ x.1=k:=λz=>hr (Ou.mpr ⟨x,hx,decide_eq_true z⟩)
       rw[if_neg this];rfl
      rw[same]
   ·rw[if_neg e]
    have hr:(r.any λkv=>decide (kv.1=k))=true:=by
     rw[O3,decide_eq_false e] at ha
     exact ha
    by_cases f:kv.1=j
    ·rw[decide_eq_true f]
     have:¬ j=k:=λz=>e (f.trans z)
     rw[if_neg this]
    ·rw[decide_eq_false f]
     exact ih hr
 ·rename_i ha
  rw[List.find?_append]
  by_cases f:j=k
  ·rw[if_pos f,f]
   have:kvs.find? (λkv=>decide (kv.1=k))=none:=QM.mpr λx hx z=>ha (Ou.mpr ⟨x,hx,z⟩)
   rw[this]
   simp
  ·rw[if_neg f]
   have:([(k,d)]:List (L2.Key×D)).find? (λkv=>decide (kv.1=j))=none:=by simp[Np f]
   rw[this]
   simp
def frR (r:Rat):D:=fr r.num r.den
theorem wJ (n:Int):(n:Rat)=QN n 1:=Rat.mk_eq_divInt (num:=n) (den:=1) (nz:=by decide) (c:=by simp[Nat.Coprime])
theorem e9 (r:Rat):r*((r.den:Int):Rat)=(r.num:Rat):=by
 have h:(r.den:Int)≠0:=by have:=r.den_pos;omega
 have e1:((r.den:Int):Rat)=QN r.den 1:=wJ _
 have e2:((r.num:Int):Rat)=QN r.num 1:=wJ _
 have e3:r*QN r.den 1=QN r.num r.den*QN r.den 1:=by rw[Rat.num_divInt_den]
 rw[e1,e2,e3,Rat.divInt_mul_divInt,Rat.divInt_eq_divInt_iff (by simpa using h) (by decide)]
 simp
theorem HY {r:Rat}{p q:Int}(q0:0 < q)(g:Nj p q=1)(h:r*(q:Rat)=(p:Rat)):r.num=p/\(r.den:Int)=q:=by
 have nz:q.toNat≠0:=by omega
 have rd:p.natAbs.Coprime q.toNat:=by
  have:Nat.gcd p.natAbs q.natAbs=1:=g
  rw[show q.natAbs=q.toNat by omega] at this
  exact this
 have e:r=⟨p,q.toNat,nz,rd⟩:=by
  have h0:=e9 ⟨p,q.toNat,nz,rd⟩
  have hq:((q.toNat:Int):Rat)=(q:Rat):=by rw[Qs (by omega)]
  simp only[hq] at h0
  have hz:(q:Rat)≠0:=λz=>by
   have:q=0:=by simpa using z
   omega
  generalize ({ num:=p,den:=q.toNat,den_nz:=nz,reduced:=rd }:Rat)=r0 at h0 ⊢
  grind
 rw[e]
 exact ⟨rfl,Qs (by omega)⟩
theorem vr {z:D}{a b:Int}{r:Rat}(V:Vl z a b)(h:r*(b:Rat)=(a:Rat)):z=frR r:=by
 obtain ⟨⟨p,q,rfl,P⟩,b0⟩:=V
 have hb:(b:Rat)≠0:=λz=>by
  have:b=0:=by simpa using z
  omega
 have pe:(p:Rat)*(b:Rat)=(a:Rat)*(q:Rat):=by rw[← NO,← NO,P.e]
 have hr:r*(q:Rat)=(p:Rat):=by grind
 obtain ⟨e1,e2⟩:=HY P.q0 P.g hr
 unfold frR
 rw[e1,e2]
theorem vlR {r:Rat}{n D:Int}(hD:0 < D)(h:r*(D:Rat)=(n:Rat)):Vl (frR r) n D:=by
 have V:=G9 n hD
 rw[← vr V h];exact V
theorem vlN (r:Rat):Vl (frR r) r.num r.den:=vlR (by have:=r.den_pos;omega) (e9 r)
def InD (D:Int)(r:Rat):Prop:=∃ n:Int,r*(D:Rat)=(n:Rat)
theorem InD.add {D:Int}{r s:Rat}(h:InD D r)(h':InD D s):InD D (r+s):=by
 obtain ⟨n,h⟩:=h
 obtain ⟨m,h'⟩:=h'
 exact ⟨n+m,by grind⟩
theorem InD.sub {D:Int}{r s:Rat}(h:InD D r)(h':InD D s):InD D (r - s):=by
 obtain ⟨n,h⟩:=h
 obtain ⟨m,h'⟩:=h'
 exact ⟨n - m,by grind⟩
theorem InD.up {D:Int}{r:Rat}(h:InD D r)(k:Int):InD (D*k) r:=by
 obtain ⟨n,h⟩:=h
 exact ⟨n*k,by grind⟩
theorem InD.int (D:Int)(i:Int):InD D (i:Rat):=⟨i*D,by grind⟩
theorem Ic {k:Int}(h0:0 < k)(h1:k<=8):∃ m:Int,k*m=840:=by
 have:k=1∨k=2∨k=3∨k=4∨k=5∨k=6∨k=7∨k=8:=by omega
 rcases this with rfl | rfl | rfl | rfl | rfl | rfl | rfl | rfl
 ·exact ⟨840,rfl⟩
 ·exact ⟨420,rfl⟩
 ·exact ⟨280,rfl⟩
 ·exact ⟨210,rfl⟩
 ·exact ⟨168,rfl⟩
 ·exact ⟨140,rfl⟩
 ·exact ⟨120,rfl⟩
 ·exact ⟨105,rfl⟩
theorem InD.div {D k:Int}{r x:Rat}(h:InD D r)(h0:0 < k)(h1:k<=8)(e:x*(k:Rat)=r):InD (D*840) x:=by
 obtain ⟨n,h⟩:=h
 obtain ⟨m,hm⟩:=Ic h0 h1
 refine ⟨n*m,?_⟩
 rw[← hm]
 grind
structure BR (r:Rat):Prop where
 n:Bd r.num
 d:Bd r.den
theorem BR.of {D:Int}{r:Rat}(h:InD D r)(d0:0 < D)(d1:D<=1000000000000000000000000000)(lo:-1000<=r)(hi:r<=1000):BR r:=by
 obtain ⟨n,h⟩:=h
 have V:=vlR d0 h
 have I:IsPart n D r.num r.den:=JS (x:=(r.num,(r.den:Int))) V
 have hD:(0:Rat)<=(D:Rat):=Tp.mpr (by omega)
 have h1:=OU lo hD
 have h2:=OU hi hD
 rw[h] at h1 h2
 have e1:(-1000:Rat)*(D:Rat)=((-1000*D:Int):Rat):=by rw[NO];rfl
 have e2:(1000:Rat)*(D:Rat)=((1000*D:Int):Rat):=by rw[NO];rfl
 rw[e1,NK] at h1
 rw[e2,NK] at h2
 have bn:Bd n:=⟨by omega,by omega⟩
 exact ⟨I.bp bn,I.bq (Le.of (by omega) (by omega))⟩
theorem uE {r s:Rat}:eqD (frR r) (frR s)=decide (r=s):=by
 have e:eqD (frR r) (frR s)=(decide (r.num=s.num)&&(decide ((r.den:Int)=s.den)&&true)):=rfl
 rw[e,Rf,R4,NI,decide_eq_true_eq,decide_eq_true_eq,decide_eq_true_eq]
 constructor
 ·rintro ⟨h1,h2⟩
  exact Rat.ext h1 (by omega)
 ·rintro rfl
  exact ⟨rfl,rfl⟩
theorem vI {r s:Rat}:decide (r.num*(s.den:Int) < s.num*(r.den:Int))=decide (r < s):=decide_eq_decide.mpr (Rat.lt_iff r s).symm
theorem Hm {r s:Rat}:decide (r.num*(s.den:Int)<=s.num*(r.den:Int))=decide (r<=s):=decide_eq_decide.mpr (Rat.le_iff r s).symm
abbrev Fm:=Str->Option Rat
def sS (f:Fm):List SE->Rat
 | []=>0
 | s::r=>(f s.nm).getD 0+sS f r
def cS (f:Fm):List SE->Nat
 | []=>0
 | s::r=>(if f s.nm=none then 1 else 0)+cS f r
def onL (n:Str)(ss:List SE):List SE:=ss.filter λs=>decide (n∈s.road)
def SE.bC (s:SE):Rat:=(s.lim:Rat) / (s.bt:Rat)
theorem SE.Ok.bC {s:SE}(h:s.Ok):s.bC*(s.bt:Rat)=(s.lim:Rat):=by
 have b0:=h.b0
 have hb:(s.bt:Rat)≠0:=λz=>by
  have:s.bt=0:=by simpa using z
  omega
 unfold SE.bC
 rw[Rat.div_def,U7,Tq _ hb,Q3]
theorem SE.Ok.wo {s:SE}(h:s.Ok):0<=s.bC/\s.bC<=60:=by
 have b0:=h.b0
 have l:=h.lim
 have e:=h.bC
 have hb:(0:Rat) < (s.bt:Rat):=Rat.intCast_pos.mpr (by omega)
 have h1:(0:Rat)<=(s.lim:Rat):=Tp.mpr (by omega)
 constructor
 ·refine NT (c:=(s.bt:Rat)) ?_ hb
  rw[e,OJ];exact h1
 ·refine NT (c:=(s.bt:Rat)) ?_ hb
  rw[e,show (60:Rat)*(s.bt:Rat)=((60*s.bt:Int):Rat) by rw[NO];rfl,NK]
  omega
structure da (b:Rat) (xs:List Rat):Prop where
 i:b∈xs
 l:∀ x∈xs,b<=x
theorem i9 {f:Fm}{l:List SE}:cS f l=0->∀ s∈l,f s.nm≠none:=by
 induction l with
 | nil=>exact λ_ _ h=>nomatch h
 | cons x r ih=>
  intro h s hs
  unfold cS at h
  rcases MY.mp hs with rfl | z
  ·intro e
   rw[if_pos e] at h
   omega
  ·exact ih (by omega) s z
theorem cF {f:Fm}:∀ {l:List SE},(∀ s∈l,f s.nm≠none)->cS f l=0
 | [],_=>rfl
 | x::r,h=>by
  unfold cS
  rw[if_neg (h x MS),cF λy z=>h y (MU _ z)]
theorem oW {f:Fm}{l:List SE}{s:SE}(hs:s∈l)(h:f s.nm=none):0 < cS f l:=by
 rcases Nat.eq_zero_or_pos (cS f l) with z | z
 ·exact absurd h (i9 z s hs)
 ·exact z
theorem r6 {f:Fm}:∀ (l:List SE),cS f l<=l.length
 | []=>M0 _
 | x::r=>by
  unfold cS
  have:=r6 (f:=f) r
  rw[Nk]
  split<;>omega
theorem qb1 {v a a' k c c' x:Rat}(h:a'+c'*x=a+c*x):v+a'+(k+c')*x=v+a+(k+c)*x:=by grind
theorem qb2 {a a' c c' x:Rat}(h:a'+c'*x=a+c*x):x+a'+(0+c')*x=0+a+(1+c)*x:=by grind
theorem both {f f':Fm}{x:Rat}:∀ {l:List SE},(∀ s∈l,f' s.nm=f s.nm∨(f s.nm=none/\f' s.nm=some x))->sS f' l+(cS f' l:Rat)*x=sS f l+(cS f l:Rat)*x
 | [],_=>rfl
 | s::r,h=>by
  have ih:=both (l:=r) λy z=>h y (MU _ z)
  unfold sS cS
  rcases h s MS with e | ⟨e1,e2⟩
  ·rw[e,N2,N2]
   exact qb1 ih
  ·rw[e1,e2,if_neg (by simp),if_pos rfl,N2,N2]
   show x+sS f' r+(((0:Nat):Rat)+(cS f' r:Rat))*x=0+sS f r+(((1:Nat):Rat)+(cS f r:Rat))*x
   exact qb2 ih
theorem xT {k:Nat}(h:0 < k):(0:Rat) < (k:Rat):=by
 have:((0:Nat):Rat) < (k:Rat):=Rat.natCast_lt_natCast.mpr h
 simpa using this
theorem q1 {S k t p:Rat}(h:S+k*t<=p):t*k<=p - S:=by grind
theorem q2 {S k t p:Rat}(h:t*k<=p - S):S+k*t<=p:=by grind
theorem q3 {S k t v:Rat}(h:S+k*t<=S+k*v):k*t<=k*v:=by grind
theorem q4 {S p:Rat}:S+(p - S)=p:=by grind
theorem q5 {S x p:Rat}(h:S+x<=p)(k:0<=x):0<=p - S:=by grind
theorem q6 {l S p:Rat}(h:l<=p - S)(s0:0<=S)(pc:p<=20):l<=20:=by grind
theorem q7 {a b c d:Rat}(h:a<=b)(k:c<=d):a+c<=b+d:=by grind
theorem q8 {a b c d:Rat}(h:a < b)(k:c<=d):a+c < b+d:=by grind
theorem q9 {a b c d:Rat}(h:a<=b)(k:c < d):a+c < b+d:=by grind
structure FJ (ws:List WE) (ss:List SE) (f:Fm) (t:Rat):Prop where
 p:0<=t
 a:∀ s∈ss,∀ v,f s.nm=some v->0<=v/\v<=t/\v<=s.bC
 b:∀ s∈ss,f s.nm=none->t<=s.bC
 c:∀ w∈ws,sS f (onL w.nm ss)+(cS f (onL w.nm ss):Rat)*t<=(w.pc:Rat)
 d:∀ s∈ss,∀ v,f s.nm=some v->v=s.bC∨∃ w∈ws,w.nm∈s.road/\sS f (onL w.nm ss)+(cS f (onL w.nm ss):Rat)*v=(w.pc:Rat)/\(0 < cS f (onL w.nm ss)->t=v)/\∀ y∈onL w.nm ss,∀ u,f y.nm=some u->u<=v
theorem FJ.step {ws:List WE}{ss:List SE}{f f':Fm}{t t':Rat}(F:FJ ws ss f t)(lev:Str->Rat)(bnd:SE->Rat)
  (road:∀ s∈ss,∀ n∈s.road,∃ w∈ws,w.nm=n)
  (hl:∀ w∈ws,0 < cS f (onL w.nm ss)->lev w.nm*(cS f (onL w.nm ss):Rat)=(w.pc:Rat) - sS f (onL w.nm ss))
  (hb:∀ s∈ss,f s.nm=none->da (bnd s) (s.bC::s.road.map lev))
  (ht:∃ s∈ss,f s.nm=none/\bnd s=t') (ht':∀ s∈ss,f s.nm=none->t'<=bnd s)
  (cases:∀ s∈ss,f' s.nm=f s.nm∨(f s.nm=none/\bnd s=t'/\f' s.nm=some t')):FJ ws ss f' t'/\t<=t':=by
 have onM:∀ {w:WE} {s:SE},s∈onL w.nm ss↔s∈ss/\w.nm∈s.road:=λ{w s}=>by unfold onL;rw[M8,decide_eq_true_eq]
 have lv:∀ w∈ws,0 < cS f (onL w.nm ss)->t<=lev w.nm:=λw hw h=>by
  have h1:=hl w hw h
  have h2:=F.c w hw
  have h3:=xT h
  refine NT (c:=(cS f (onL w.nm ss):Rat)) ?_ h3
  rw[h1]
  exact q1 h2
 have up:t<=t':=by
  obtain ⟨s,hs,e,rfl⟩:=ht
  have hm:=(hb s hs e).i
  rcases MY.mp hm with z | z
  ·rw[z];exact F.b s hs e
  ·obtain ⟨n,hn,z⟩:=M3.mp z
   obtain ⟨w,hw,rfl⟩:=road s hs n hn
   rw[← z]
   exact lv w hw (oW (onM.mpr ⟨hs,hn⟩) e)
 have bo:∀ w:WE,sS f' (onL w.nm ss)+(cS f' (onL w.nm ss):Rat)*t'=sS f (onL w.nm ss)+(cS f (onL w.nm ss):Rat)*t':=λw=>both λs hs=>(cases s (onM.mp hs).1).imp (λh=>h) λh=>⟨h.1,h.2.2⟩
 have bl:∀ w∈ws,0 < cS f (onL w.nm ss)->t'<=lev w.nm:=λw hw h=>by
  have:∃ s∈onL w.nm ss,f s.nm=none:=by
   refine Oc λz=>?_
   have:cS f (onL w.nm ss)=0:=cF λs hs e=>z ⟨s,hs,e⟩
   omega
  obtain ⟨s,hs,e⟩:=this
  obtain ⟨h1,h2⟩:=onM.mp hs
  have a:=(hb s h1 e).l (lev w.nm) (MU _ (M3.mpr ⟨_,h2,rfl⟩))
  exact Nq (ht' s h1 e) a
 have bt:∀ w∈ws,0 < cS f (onL w.nm ss)->sS f (onL w.nm ss)+(cS f (onL w.nm ss):Rat)*t'<=(w.pc:Rat):=λw hw h=>by
  have h1:=hl w hw h
  have h2:=OU (bl w hw h) (OZ (xT h))
  rw[h1] at h2
  exact q2 h2
 have aa:∀ s∈ss,∀ v,f' s.nm=some v->0<=v/\v<=t'/\v<=s.bC:=λs hs v e=>by
  rcases cases s hs with q | ⟨q1,q2,q3⟩
  ·rw[q] at e
   have:=F.a s hs v e
   exact ⟨this.1,Nq this.2.1 up,this.2.2⟩
  ·rw[q3] at e
   obtain rfl:t'=v:=Nl e
   have h1:=(hb s hs q1).l s.bC MS
   rw[q2] at h1
   exact ⟨Nq F.p up,Oa,h1⟩
 refine ⟨⟨Nq F.p up,aa,λs hs e=>?_,λw hw=>?_,λs hs v e=>?_⟩,up⟩
 ·rcases cases s hs with q | ⟨_,_,q3⟩
  ·rw[q] at e
   exact Nq (ht' s hs e) ((hb s hs e).l s.bC MS)
  ·rw[q3] at e;cases e
 ·rw[bo w]
  by_cases z:0 < cS f (onL w.nm ss)
  ·exact bt w hw z
  ·have z0:cS f (onL w.nm ss)=0:=by omega
   have h1:=F.c w hw
   rw[z0] at h1 ⊢
   have e0:((0:Nat):Rat)=0:=rfl
   rw[e0,OJ] at h1 ⊢
   exact h1
 ·rcases cases s hs with q | ⟨q1,q2,q3⟩
  ·rw[q] at e
   rcases F.d s hs v e with h | ⟨w,hw,h1,h2,h3,h4⟩
   ·exact .inl h
   ·refine .inr ⟨w,hw,h1,?_⟩
    by_cases z:0 < cS f (onL w.nm ss)
    ·have tv:=h3 z
     have m:=bt w hw z
     have tt:t'=v:=by
      have h5:(cS f (onL w.nm ss):Rat)*t'<=(cS f (onL w.nm ss):Rat)*v:=by
       rw[← h2] at m
       exact q3 m
      rw[T4 _ t',T4 _ v] at h5
      have h6:=NT h5 (xT z)
      rw[tv] at up
      exact UB h6 up
     subst tt
     refine ⟨by rw[bo w];exact h2,λ_=>rfl,λy hy u hu=>(aa y (onM.mp hy).1 u hu).2.1⟩
    ·have z0:cS f (onL w.nm ss)=0:=by omega
     have same:∀ y∈onL w.nm ss,f' y.nm=f y.nm:=λy hy=>by
      rcases cases y (onM.mp hy).1 with q | ⟨q1,_⟩
      ·exact q
      ·exact absurd q1 (i9 z0 y hy)
     have c0:cS f' (onL w.nm ss)=0:=cF λy hy z=>by rw[same y hy] at z;exact i9 z0 y hy z
     have b0:=bo w
     have e0:((0:Nat):Rat)=0:=rfl
     rw[c0,z0,e0,OJ] at b0
     rw[z0,e0,OJ] at h2
     rw[c0,e0,OJ]
     exact ⟨b0.trans h2,λh=>absurd h (by omega),λy hy u hu=>h4 y hy u (by rw[← same y hy];exact hu)⟩
  ·rw[q3] at e
   obtain rfl:t'=v:=Nl e
   have hm:=(hb s hs q1).i
   rw[q2] at hm
   rcases MY.mp hm with z | z
   ·exact .inl z
   ·obtain ⟨n,hn,z⟩:=M3.mp z
    obtain ⟨w,hw,rfl⟩:=road s hs n hn
    have k0:=oW (onM.mpr ⟨hs,hn⟩) q1
    have h1:=hl w hw k0
    refine .inr ⟨w,hw,hn,?_,λ_=>rfl,λy hy u hu=>(aa y (onM.mp hy).1 u hu).2.1⟩
    rw[bo w,← z,T4,h1]
    exact q4
def mnR (m x:Rat):Rat:=if x < m then x else m
def gB:List Rat->Rat
 | []=>0
 | x::r=>(x::r).foldl mnR x
theorem xb:∀ (xs:List Rat) (m:Rat),(xs.foldl mnR m=m∨xs.foldl mnR m∈xs)/\xs.foldl mnR m<=m/\∀ x∈xs,xs.foldl mnR m<=x
 | [],m=>⟨.inl rfl,Oa,λ_ h=>nomatch h⟩
 | x::r,m=>by
  obtain ⟨i1,i2,i3⟩:=xb r (mnR m x)
  rw[UC]
  have h1:mnR m x<=m/\mnR m x<=x/\(mnR m x=m∨mnR m x=x):=by
   unfold mnR
   split
   ·rename_i h;exact ⟨OZ h,Oa,.inr rfl⟩
   ·rename_i h;exact ⟨Oa,Tr.mp h,.inl rfl⟩
  refine ⟨?_,Nq i2 h1.1,λy hy=>?_⟩
  ·rcases i1 with e | e
   ·rw[e]
    rcases h1.2.2 with q | q
    ·exact .inl q
    ·rw[q];exact .inr MS
   ·exact .inr (MU _ e)
  ·rcases MY.mp hy with rfl | z
   ·exact Nq i2 h1.2.1
   ·exact i3 y z
theorem dF {xs:List Rat}(h:xs≠[]):da (gB xs) xs:=by
 cases xs with
 | nil=>exact absurd rfl h
 | cons x r=>
  obtain ⟨i1,i2,i3⟩:=xb (x::r) x
  refine ⟨?_,i3⟩
  rcases i1 with e | e
  ·show (x::r).foldl mnR x∈_
   rw[e];exact MS
  ·exact e
def eN (ss:List SE)(f:Fm)(w:WE):Rat:=((w.pc:Rat) - sS f (onL w.nm ss)) / (cS f (onL w.nm ss):Rat)
def fw (ws:List WE)(ss:List SE)(f:Fm)(n:Str):Rat:=match ws.find? λw=>decide (w.nm=n) with
 | some w=>eN ss f w
 | none=>0
def fz (ws:List WE)(ss:List SE)(f:Fm)(s:SE):Rat:=gB (s.bC::s.road.map (fw ws ss f))
def dg (ss:List SE)(f:Fm):List SE:=ss.filter λs=>decide (f s.nm=none)
def tF (ws:List WE)(ss:List SE)(f:Fm):Rat:=gB ((dg ss f).map (fz ws ss f))
def fm (ws:List WE)(ss:List SE)(f:Fm):Fm:=λn=>match ss.find? λs=>decide (s.nm=n) with
 | some s=>if f n=none/\fz ws ss f s=tF ws ss f then some (tF ws ss f) else f n
 | none=>f n
theorem eS {α:Type}(g:α->Str):∀ {xs:List α} {x:α},(xs.map g).Nodup->x∈xs->xs.find? (λy=>decide (g y=g x))=some x
 | y::r,x,nd,h=>by
  rw[Ni] at nd
  obtain ⟨m1,m2⟩:=NB.mp nd
  rw[NC]
  rcases MY.mp h with rfl | z
  ·simp
  ·have:¬ g y=g x:=λe=>m1 (by rw[e];exact M3.mpr ⟨x,z,rfl⟩)
   rw[decide_eq_false this]
   exact eS g m2 z
theorem uH {ws:List WE}{ss:List SE}(P:PE' ws ss)(f:Fm){w:WE}(hw:w∈ws):fw ws ss f w.nm=eN ss f w:=by
 unfold fw
 rw[eS WE.nm P.wn hw]
theorem step_at {ws:List WE}{ss:List SE}(P:PE' ws ss)(f:Fm){s:SE}(hs:s∈ss):fm ws ss f s.nm=if f s.nm=none/\fz ws ss f s=tF ws ss f then some (tF ws ss f) else f s.nm:=by
 unfold fm
 rw[eS SE.nm P.nd hs]
theorem Jj {ss:List SE}(nd:(ss.map SE.nm).Nodup){s y:SE}(hs:s∈ss)(hy:y∈ss)(e:s.nm=y.nm):s=y:=by
 have h1:=eS SE.nm nd hs
 rw[e,eS SE.nm nd hy] at h1
 exact (Nl h1).symm
theorem ie {ss:List SE}{f:Fm}{w:WE}(h:0 < cS f (onL w.nm ss)):eN ss f w*(cS f (onL w.nm ss):Rat)=(w.pc:Rat) - sS f (onL w.nm ss):=by
 have h0:=xT h
 unfold eN
 generalize (cS f (onL w.nm ss):Rat)=k at h0
 generalize (w.pc:Rat) - sS f (onL w.nm ss)=a
 have hk:k≠0:=λz=>by rw[z] at h0;exact absurd h0 (by decide)
 rw[Rat.div_def,U7,Tq k hk,Q3]
theorem cy {ss:List SE}{f:Fm}{s:SE}:s∈dg ss f↔s∈ss/\f s.nm=none:=by unfold dg;rw[M8,decide_eq_true_eq]
theorem Ek {ws:List WE}{ss:List SE}{f:Fm}{t:Rat}(P:PE' ws ss)(F:FJ ws ss f t)(h:0 < cS f ss):FJ ws ss (fm ws ss f) (tF ws ss f):=by
 have ne:dg ss f≠[]:=λz=>by
  have:cS f ss=0:=cF λs hs e=>by
   have:=cy.mpr ⟨hs,e⟩
   rw[z] at this;cases this
  omega
 have M:da (tF ws ss f) ((dg ss f).map (fz ws ss f)):=dF (by simpa using ne)
 refine (F.step (fw ws ss f) (fz ws ss f) P.all (λw hw h=>?_) (λs hs e=>dF (by simp)) ?_ (λs hs e=>M.l _ (M3.mpr ⟨s,cy.mpr ⟨hs,e⟩,rfl⟩)) λs hs=>?_).1
 ·rw[uH P f hw];exact ie h
 ·obtain ⟨s,hs,e⟩:=M3.mp M.i
  exact ⟨s,(cy.mp hs).1,(cy.mp hs).2,e⟩
 ·rw[step_at P f hs]
  by_cases q:f s.nm=none/\fz ws ss f s=tF ws ss f
  ·rw[if_pos q];exact .inr ⟨q.1,q.2,rfl⟩
  ·rw[if_neg q];exact .inl rfl
theorem xa {f f':Fm}:∀ {l:List SE},(∀ s∈l,f s.nm≠none->f' s.nm≠none)->cS f' l<=cS f l/\((∃ s∈l,f s.nm=none/\f' s.nm≠none)->cS f' l < cS f l)
 | [],_=>⟨M0 _,λ⟨_,h,_⟩=>nomatch h⟩
 | x::r,h=>by
  obtain ⟨i1,i2⟩:=xa (l:=r) λy z=>h y (MU _ z)
  have hx:=h x MS
  unfold cS
  by_cases e:f x.nm=none
  ·rw[if_pos e]
   refine ⟨by split<;>omega,λ⟨s,hs,h1,h2⟩=>?_⟩
   rcases MY.mp hs with rfl | z
   ·rw[if_neg h2];omega
   ·have:=i2 ⟨s,z,h1,h2⟩
    split<;>omega
  ·rw[if_neg e,if_neg (hx e)]
   refine ⟨by omega,λ⟨s,hs,h1,h2⟩=>?_⟩
   rcases MY.mp hs with rfl | z
   ·exact absurd h1 e
   ·have:=i2 ⟨s,z,h1,h2⟩
    omega
theorem jm {ws:List WE}{ss:List SE}{f:Fm}(P:PE' ws ss)(h:0 < cS f ss):cS (fm ws ss f) ss < cS f ss:=by
 have ne:dg ss f≠[]:=λz=>by
  have:cS f ss=0:=cF λs hs e=>by
   have:=cy.mpr ⟨hs,e⟩
   rw[z] at this;cases this
  omega
 have M:da (tF ws ss f) ((dg ss f).map (fz ws ss f)):=dF (by simpa using ne)
 refine (xa λs hs e=>?_).2 ?_
 ·rw[step_at P f hs,if_neg λz=>e z.1];exact e
 ·obtain ⟨s,hs,e⟩:=M3.mp M.i
  obtain ⟨h1,h2⟩:=cy.mp hs
  refine ⟨s,h1,h2,?_⟩
  rw[step_at P f h1,if_pos ⟨h2,e⟩]
  exact nofun
def eh (c:Nat):Int:=840 ^ (c+1)
theorem Ai (c:Nat):eh (c+1)=eh c*840:=Int.pow_succ _ _
theorem cj (c:Nat):0 < eh c:=Int.pow_pos (by decide)
theorem gw {c:Nat}(h:c<=8):eh c<=1000000000000000000000000000:=by
 match c,h with
 | 0,_=>decide
 | 1,_=>decide
 | 2,_=>decide
 | 3,_=>decide
 | 4,_=>decide
 | 5,_=>decide
 | 6,_=>decide
 | 7,_=>decide
 | 8,_=>decide
theorem InD.to {c c':Nat}{r:Rat}(h:InD (eh c) r)(hc:c<=c'):InD (eh c') r:=by
 obtain ⟨k,rfl⟩:=Nat.exists_eq_add_of_le hc
 induction k with
 | zero=>exact h
 | succ k ih=>
  rw[← Nat.add_assoc,Ai]
  exact (ih (by omega)).up 840
structure FB (c:Nat) (f:Fm) (ss:List SE):Prop where
 i:∀ s∈ss,∀ v,f s.nm=some v->InD (eh c) v
 l:∀ s∈ss,∀ v,f s.nm=some v->0<=v/\v<=60
theorem FW {c:Nat}{f:Fm}:∀ {l:List SE},(∀ s∈l,∀ v,f s.nm=some v->InD (eh c) v)->InD (eh c) (sS f l)
 | [],_=>InD.int _ 0
 | s::r,h=>by
  have ih:=FW λy z=>h y (MU s z)
  unfold sS
  refine InD.add ?_ ih
  cases e:f s.nm with
  | none=>exact InD.int _ 0
  | some v=>exact h s MS v e
theorem BC {s:SE}(h:s.Ok)(c:Nat):InD (eh c) s.bC:=by
 have:InD (1*840) s.bC:=InD.div (D:=1) (k:=s.bt) (r:=(s.lim:Rat)) (InD.int _ _) (by have:=h.b0;omega) h.b1 h.bC
 have h0:InD (eh 0) s.bC:=this
 exact h0.to (N0 _)
theorem Ah {c:Nat}{ss:List SE}{f:Fm}{w:WE}(F:FB c f ss)(sl:ss.length<=8)(h:0 < cS f (onL w.nm ss)):InD (eh (c+1)) (eN ss f w):=by
 rw[Ai]
 have on:∀ s∈onL w.nm ss,s∈ss:=λs hs=>(M8.mp hs).1
 have le:=r6 (f:=f) (onL w.nm ss)
 have ll:(onL w.nm ss).length<=ss.length:=OA _ _
 refine InD.div (k:=(cS f (onL w.nm ss):Int)) (r:=(w.pc:Rat) - sS f (onL w.nm ss)) ((InD.int _ _).sub (FW λs hs=>F.i s (on s hs))) (by omega) (by omega) ?_
 exact ie h
theorem HQ {f:Fm}:∀ {l:List SE},(∀ s∈l,∀ v,f s.nm=some v->0<=v)->0<=sS f l
 | [],_=>Oa
 | s::r,h=>by
  have ih:=HQ λy z=>h y (MU s z)
  unfold sS
  cases e:f s.nm with
  | none=>show 0<=0+sS f r;rw[T5];exact ih
  | some v=>exact Rat.add_nonneg (h s MS v e) ih
theorem Gg {ws:List WE}{ss:List SE}{f:Fm}{t:Rat}(P:PE' ws ss)(F:FJ ws ss f t){w:WE}(hw:w∈ws)(h:0 < cS f (onL w.nm ss)):0<=eN ss f w/\eN ss f w<=20:=by
 have m:=ie h
 have k0:=xT h
 have c:=F.c w hw
 have p:=F.p
 have on:∀ s∈onL w.nm ss,s∈ss:=λs hs=>(M8.mp hs).1
 have s0:0<=sS f (onL w.nm ss):=HQ λs hs v e=>(F.a s (on s hs) v e).1
 have k1:(1:Rat)<=(cS f (onL w.nm ss):Rat):=by
  have:((1:Nat):Rat)<=(cS f (onL w.nm ss):Rat):=PQ.mpr h
  simpa using this
 have pc:(w.pc:Rat)<=20:=by
  have:(w.pc:Rat)<=((20:Int):Rat):=NK.mpr (P.w w hw).p1
  exact this
 have kt:0<=(cS f (onL w.nm ss):Rat)*t:=UX (OZ k0) p
 generalize (cS f (onL w.nm ss):Rat)=k at *
 generalize sS f (onL w.nm ss)=S at *
 have l0:0<=eN ss f w:=by
  refine NT (c:=k) ?_ k0
  rw[m,OJ]
  grind
 refine ⟨l0,?_⟩
 have h1:eN ss f w*1<=eN ss f w*k:=Qf k1 l0
 rw[m,Q3] at h1
 grind
structure FS (ws:List WE) (ss:List SE) (f:Fm) (c:Nat):Prop where
 P:PE' ws ss
 F:∃ t,FJ ws ss f t
 b:FB c f ss
 n:c+cS f ss=ss.length
theorem FS.begin {ws:List WE}{ss:List SE}(P:PE' ws ss):FS ws ss (λ_=>none) 0:=by
 have s0:∀ l:List SE,sS (λ_=>none) l=0:=λl=>by
  induction l with
  | nil=>rfl
  | cons x r ih=>unfold sS;rw[ih];exact RR 0
 have c0:∀ l:List SE,cS (λ_=>none) l=l.length:=λl=>by
  induction l with
  | nil=>rfl
  | cons x r ih=>unfold cS;rw[ih,if_pos rfl,Nk];omega
 refine ⟨P,⟨0,⟨Oa,(λ_ _ _ h=>nomatch h),λs hs _=>(P.s s hs).wo.1,λw hw=>?_,λ_ _ _ h=>nomatch h⟩⟩,⟨(λ_ _ _ h=>nomatch h),λ_ _ _ h=>nomatch h⟩,by rw[c0];omega⟩
 rw[s0,Rat.mul_zero,T5]
 have:((0:Int):Rat)<=(w.pc:Rat):=NK.mpr (by have:=(P.w w hw).p0;omega)
 exact this
theorem FS.bnd {ws:List WE}{ss:List SE}{f:Fm}{c:Nat}(h:FS ws ss f c){s:SE}(hs:s∈ss)(e:f s.nm=none):∀ n∈s.road,∃ w∈ws,w.nm=n/\fw ws ss f n=eN ss f w/\0 < cS f (onL n ss)/\InD (eh (c+1)) (fw ws ss f n)/\0<=fw ws ss f n/\fw ws ss f n<=20:=λn hn=>by
 obtain ⟨w,hw,rfl⟩:=h.P.all s hs n hn
 have k0:0 < cS f (onL w.nm ss):=oW (s:=s) (M8.mpr ⟨hs,decide_eq_true hn⟩) e
 obtain ⟨t,F⟩:=h.F
 rw[uH h.P f hw]
 exact ⟨w,hw,rfl,rfl,k0,Ah h.b h.P.sl k0,Gg h.P F hw k0⟩
theorem FS.LY {ws:List WE}{ss:List SE}{f:Fm}{c:Nat}(h:FS ws ss f c){s:SE}(hs:s∈ss)(e:f s.nm=none):∀ x∈s.bC::s.road.map (fw ws ss f),InD (eh (c+1)) x/\0<=x/\x<=60:=λx hx=>by
 rcases MY.mp hx with rfl | z
 ·exact ⟨BC (h.P.s s hs) _,(h.P.s s hs).wo⟩
 ·obtain ⟨n,hn,rfl⟩:=M3.mp z
  obtain ⟨_,_,_,_,_,i,l0,l1⟩:=h.bnd hs e n hn
  exact ⟨i,l0,Nq l1 (by decide)⟩
theorem FS.KG {ws:List WE}{ss:List SE}{f:Fm}{c:Nat}(h:FS ws ss f c){s:SE}(hs:s∈ss)(e:f s.nm=none):InD (eh (c+1)) (fz ws ss f s)/\0<=fz ws ss f s/\fz ws ss f s<=60:=h.LY hs e _ (dF (by simp)).i
theorem FS.tB {ws:List WE}{ss:List SE}{f:Fm}{c:Nat}(h:FS ws ss f c)(h0:0 < cS f ss):InD (eh (c+1)) (tF ws ss f)/\0<=tF ws ss f/\tF ws ss f<=60:=by
 have ne:dg ss f≠[]:=λz=>by
  have:cS f ss=0:=cF λs hs e=>by
   have:=cy.mpr ⟨hs,e⟩
   rw[z] at this;cases this
  omega
 have M:da (tF ws ss f) ((dg ss f).map (fz ws ss f)):=dF (by simpa using ne)
 obtain ⟨s,hs,e⟩:=M3.mp M.i
 obtain ⟨h1,h2⟩:=cy.mp hs
 rw[← e]
 exact h.KG h1 h2
theorem FS.next {ws:List WE}{ss:List SE}{f:Fm}{c:Nat}(h:FS ws ss f c)(h0:0 < cS f ss):∃ c',FS ws ss (fm ws ss f) c'/\c < c':=by
 obtain ⟨t,F⟩:=h.F
 have F':=Ek h.P F h0
 have lt:=jm (ws:=ws) h.P h0
 have n:=h.n
 obtain ⟨i,l0,l1⟩:=h.tB h0
 refine ⟨ss.length - cS (fm ws ss f) ss,⟨h.P,⟨_,F'⟩,⟨λs hs v e=>?_,λs hs v e=>?_⟩,by omega⟩,by omega⟩
 ·rw[step_at h.P f hs] at e
  split at e
  ·rw[← Nl e];exact i.to (by omega)
  ·exact (h.b.i s hs v e).to (by omega)
 ·rw[step_at h.P f hs] at e
  split at e
  ·rw[← Nl e];exact ⟨l0,l1⟩
  ·exact h.b.l s hs v e
def tK (ws:List WE)(ss:List SE):Nat->Fm->Fm
 | 0,f=>f
 | k+1,f=>if cS f ss=0 then f else tK ws ss k (fm ws ss f)
theorem qX {ws:List WE}{ss:List SE}{f:Fm}(h:cS f ss=0):∀ k,tK ws ss k f=f
 | 0=>rfl
 | k+1=>if_pos h
theorem tj {ws:List WE}{ss:List SE}{f:Fm}(h:0 < cS f ss)(k:Nat):tK ws ss (k+1) f=tK ws ss k (fm ws ss f):=if_neg (by omega)
def evF (ws:List WE)(ss:List SE):Fm:=tK ws ss 8 λ_=>none
theorem FS.fin {ws:List WE}{ss:List SE}:∀ (k:Nat) {f:Fm} {c:Nat},FS ws ss f c->cS f ss<=k->∃ c',FS ws ss (tK ws ss k f) c'/\cS (tK ws ss k f) ss=0
 | 0,f,c,h,hk=>⟨c,h,by show cS f ss=0;omega⟩
 | k+1,f,c,h,hk=>by
  by_cases z:cS f ss=0
  ·rw[qX z];exact ⟨c,h,z⟩
  ·have z0:0 < cS f ss:=by omega
   rw[tj z0]
   obtain ⟨c',h',_⟩:=h.next z0
   exact FS.fin k h' (by have:=jm (ws:=ws) h.P z0;omega)
theorem KY {ws:List WE}{ss:List SE}(P:PE' ws ss):∃ c,FS ws ss (evF ws ss) c/\cS (evF ws ss) ss=0:=
 FS.fin 8 (FS.begin P) (by have:=r6 (f:=λ_=>none) ss;have:=P.sl;omega)
theorem Hy {z:D}{r s:Rat}(V:Vl z (r.num*s.den - s.num*r.den) (r.den*s.den)):z=frR (r - s):=by
 refine vr V ?_
 have h1:=e9 r
 have h2:=e9 s
 rw[NO,Rat.intCast_sub,NO,NO]
 generalize ((r.den:Int):Rat)=a at *
 generalize ((s.den:Int):Rat)=b at *
 grind
theorem Jg {z:D}{r s:Rat}(V:Vl z (r.num*s.den+s.num*r.den) (r.den*s.den)):z=frR (r+s):=by
 refine vr V ?_
 have h1:=e9 r
 have h2:=e9 s
 rw[NO,Rat.intCast_add,NO,NO]
 generalize ((r.den:Int):Rat)=a at *
 generalize ((s.den:Int):Rat)=b at *
 grind
theorem Eo {z:D}{r x:Rat}{k:Int}(V:Vl z (r.num*1) (r.den*k))(e:x*(k:Rat)=r):z=frR x:=by
 refine vr V ?_
 have h1:=e9 r
 rw[NO,Int.mul_one]
 generalize ((r.den:Int):Rat)=a at *
 grind
def val (f:Fm)(s:SE):Rat:=(f s.nm).getD 0
def iq (f:Fm)(ss:List SE):List D:=ss.map λs=>.tup [.str s.nm,frR (val f s)]
def zA (tab:List (L2.Key×D))(f:Fm)(ss:List SE):Prop:=∀ s∈ss,aU tab (.inr s.nm)=(f s.nm).map frR
structure FE (ws:List WE) (ss:List SE) (f:Fm):Prop where
 P:PE' ws ss
 a:∀ s∈ss,f s.nm≠none
 i:∀ s∈ss,InD (eh 8) (val f s)
 l:∀ s∈ss,0<=val f s/\val f s<=60
 m:∀ s∈ss,val f s<=s.bC
 c:∀ w∈ws,sS f (onL w.nm ss)<=(w.pc:Rat)
 d:∀ s∈ss,val f s=s.bC∨∃ w∈ws,w.nm∈s.road/\sS f (onL w.nm ss)=(w.pc:Rat)/\∀ y∈onL w.nm ss,val f y<=val f s
theorem cU {ws:List WE}{ss:List SE}(P:PE' ws ss):FE ws ss (evF ws ss):=by
 obtain ⟨c,h,z⟩:=KY P
 obtain ⟨t,F⟩:=h.F
 have a:=i9 z
 have n:=h.n
 have sl:=P.sl
 have some:∀ s∈ss,evF ws ss s.nm=some (val (evF ws ss) s):=λs hs=>by
  unfold val
  cases e:evF ws ss s.nm with
  | none=>exact absurd e (a s hs)
  | some v=>rfl
 have on:∀ {n:Str},∀ s∈onL n ss,s∈ss:=λs hs=>(M8.mp hs).1
 refine ⟨P,a,λs hs=>(h.b.i s hs _ (some s hs)).to (by omega),λs hs=>h.b.l s hs _ (some s hs),λs hs=>(F.a s hs _ (some s hs)).2.2,λw hw=>?_,λs hs=>?_⟩
 ·have:=F.c w hw
  rw[cF λs hs=>a s (on s hs)] at this
  have e0:((0:Nat):Rat)=0:=rfl
  rw[e0,OJ,RR] at this
  exact this
 ·rcases F.d s hs _ (some s hs) with e | ⟨w,hw,h1,h3,_,h4⟩
  ·exact .inl e
  ·rw[cF λs hs=>a s (on s hs)] at h3
   have e0:((0:Nat):Rat)=0:=rfl
   rw[e0,OJ,RR] at h3
   exact .inr ⟨w,hw,h1,h3,λy hy=>h4 y hy _ (some y (on y hy))⟩
theorem FE.br {ws:List WE}{ss:List SE}{f:Fm}(h:FE ws ss f){s:SE}(hs:s∈ss):BR (val f s):=BR.of (h.i s hs) (cj 8) (gw (M0 _)) (Nq (by decide) (h.l s hs).1) (Nq (h.l s hs).2 (by decide))
theorem GF {s:SE}(h:s.Ok):BR s.bC:=BR.of (BC h 0) (cj 0) (gw (by decide)) (Nq (by decide) h.wo.1) (Nq h.wo.2 (by decide))
theorem vF (i:Int):fr i 1=frR (i:Rat):=by
 have:Vl (fr i 1) i 1:=⟨⟨i,1,rfl,by decide,by simp,rfl,M0 _,M0 _⟩,by decide⟩
 exact vr this (by rw[show ((1:Int):Rat)=1 from rfl,Q3])
theorem zp {s:SE}(h:s.Ok){z:D}(V:Vl z s.lim s.bt):z=frR s.bC:=vr V h.bC
structure SmR (D:Int) (t:Rat) (j:Nat):Prop where
 i:InD D t
 l:-(60*(j:Rat))<=t
 u:t<=60*(j:Rat)+20
theorem j8 {j:Nat}(h:j<=8):(j:Rat)<=8:=by
 have:(j:Rat)<=((8:Nat):Rat):=PQ.mpr h
 exact this
theorem SmR.br {D:Int}{t:Rat}{j:Nat}(h:SmR D t j)(d0:0 < D)(d1:D<=1000000000000000000000000000)(hj:j<=8):BR t:=by
 have h1:=h.l
 have h2:=h.u
 have h3:=j8 hj
 exact BR.of h.i d0 d1 (by grind) (by grind)
theorem SmR.add {D:Int}{t v:Rat}{j:Nat}(h:SmR D t j)(i:InD D v)(v0:0<=v)(v1:v<=60):SmR D (t+v) (j+1):=by
 have h1:=h.l
 have h2:=h.u
 refine ⟨h.i.add i,?_,?_⟩
 ·rw[N2];grind
 ·rw[N2];grind
theorem SmR.sub {D:Int}{t v:Rat}{j:Nat}(h:SmR D t j)(i:InD D v)(v0:0<=v)(v1:v<=60):SmR D (t - v) (j+1):=by
 have h1:=h.l
 have h2:=h.u
 refine ⟨h.i.sub i,?_,?_⟩
 ·rw[N2];grind
 ·rw[N2];grind
theorem SmR.skip {D:Int}{t:Rat}{j:Nat}(h:SmR D t j):SmR D t (j+1):=by
 have h1:=h.l
 have h2:=h.u
 refine ⟨h.i,?_,?_⟩
 ·rw[N2];grind
 ·rw[N2];grind
theorem SmR.zero {D:Int}:SmR D 0 0:=by
 have e0:((0:Nat):Rat)=0:=rfl
 exact ⟨InD.int D 0,by rw[e0];grind,by rw[e0];grind⟩
theorem SmR.LP {D:Int}{p:Int}(h0:0<=p)(h1:p<=20):SmR D (p:Rat) 0:=by
 have a:((0:Int):Rat)<=(p:Rat):=NK.mpr h0
 have b:(p:Rat)<=((20:Int):Rat):=NK.mpr h1
 have e0:((0:Nat):Rat)=0:=rfl
 have a:(0:Rat)<=(p:Rat):=a
 have b:(p:Rat)<=(20:Rat):=b
 exact ⟨InD.int D p,by rw[e0];grind,by rw[e0];grind⟩
structure FT (ws:List WE) (ss:List SE) (f:Fm) (c:Nat):Prop where
 P:PE' ws ss
 F:∃ t,FJ ws ss f t
 b:FB c f ss
 n:c+cS f ss=ss.length
theorem FT.lev {ws:List WE}{ss:List SE}{f:Fm}{c:Nat}(h:FT ws ss f c){w:WE}(hw:w∈ws)(k:0 < cS f (onL w.nm ss)):InD (eh (c+1)) (eN ss f w)/\0<=eN ss f w/\eN ss f w<=20:=by
 obtain ⟨t,F⟩:=h.F
 refine ⟨Ah h.b h.P.sl k,?_⟩
 have m:=ie k
 have k0:=xT k
 have cc:=F.c w hw
 have p:=F.p
 have on:∀ s∈onL w.nm ss,s∈ss:=λs hs=>(M8.mp hs).1
 have s0:0<=sS f (onL w.nm ss):=HQ λs hs v e=>(F.a s (on s hs) v e).1
 have k1:(1:Rat)<=(cS f (onL w.nm ss):Rat):=by
  have:((1:Nat):Rat)<=(cS f (onL w.nm ss):Rat):=PQ.mpr k
  simpa using this
 have pc:(w.pc:Rat)<=20:=by
  have:(w.pc:Rat)<=((20:Int):Rat):=NK.mpr (h.P.w w hw).p1
  exact this
 have kt:0<=(cS f (onL w.nm ss):Rat)*t:=UX (OZ k0) p
 generalize (cS f (onL w.nm ss):Rat)=k at *
 generalize sS f (onL w.nm ss)=S at *
 have l0:0<=eN ss f w:=by
  refine NT (c:=k) ?_ k0
  rw[m,OJ]
  exact q5 cc kt
 refine ⟨l0,?_⟩
 have h1:eN ss f w*1<=eN ss f w*k:=Qf k1 l0
 rw[m,Q3] at h1
 exact q6 h1 s0 pc
theorem FT.lim {ws:List WE}{ss:List SE}{f:Fm}{c:Nat}(h:FT ws ss f c){s:SE}(hs:s∈ss)(e:f s.nm=none):∀ n∈s.road,∃ w∈ws,w.nm=n/\fw ws ss f n=eN ss f w/\0 < cS f (onL n ss)/\InD (eh (c+1)) (fw ws ss f n)/\0<=fw ws ss f n/\fw ws ss f n<=20:=λn hn=>by
 obtain ⟨w,hw,rfl⟩:=h.P.all s hs n hn
 have k0:0 < cS f (onL w.nm ss):=oW (s:=s) (M8.mpr ⟨hs,decide_eq_true hn⟩) e
 rw[uH h.P f hw]
 exact ⟨w,hw,rfl,rfl,k0,h.lev hw k0⟩
def MJ (f:Fm)(n:Str)(t:Rat):Fm:=λm=>if m=n then some t else f m
theorem Bj {f g:Fm}:∀ {l:List SE},(∀ y∈l,val f y<=val g y)->sS f l<=sS g l/\((∃ y∈l,val f y < val g y)->sS f l < sS g l)
 | [],_=>⟨Oa,λ⟨_,h,_⟩=>nomatch h⟩
 | x::r,h=>by
  obtain ⟨i1,i2⟩:=Bj (l:=r) λy z=>h y (MU _ z)
  have hx:=h x MS
  have ef:sS f (x::r)=val f x+sS f r:=rfl
  have eg:sS g (x::r)=val g x+sS g r:=rfl
  rw[ef,eg]
  refine ⟨q7 hx i1,λ⟨y,hy,lt⟩=>?_⟩
  rcases MY.mp hy with rfl | z
  ·exact q8 lt i1
  ·exact q9 hx (i2 ⟨y,z,lt⟩)
theorem CG {α:Type}(v:α->Rat):∀ {l:List α},l≠[]->∃ x∈l,∀ y∈l,v x<=v y
 | [],h=>absurd rfl h
 | x::r,_=>by
  by_cases e:r=[]
  ·subst e
   exact ⟨x,MS,λy hy=>by rw[MV.mp hy];exact Oa⟩
  ·obtain ⟨z,hz,h⟩:=CG v e
   by_cases q:v x<=v z
   ·exact ⟨x,MS,λy hy=>by
     rcases MY.mp hy with rfl | k
     ·exact Oa
     ·exact Nq q (h y k)⟩
   ·refine ⟨z,MU _ hz,λy hy=>?_⟩
    rcases MY.mp hy with rfl | k
    ·exact OZ (RS.mp q)
    ·exact h y k
theorem xE {ws:List WE}{ss:List SE}{f g:Fm}(F:FE ws ss f)(G:FE ws ss g){s:SE}(hs:s∈ss)(lt:val f s < val g s)(low:∀ y∈ss,val f y≠val g y->val f s<=val f y/\val f s<=val g y):False:=by
 rcases F.d s hs with e | ⟨w,hw,h1,h2,h3⟩
 ·have:=G.m s hs
  rw[e] at lt
  exact absurd lt (Tr.mpr this)
 ·have on:∀ y∈onL w.nm ss,y∈ss:=λs hs=>(M8.mp hs).1
  have le:∀ y∈onL w.nm ss,val f y<=val g y:=λy hy=>by
   by_cases e:val f y=val g y
   ·rw[e];exact Oa
   ·exact Nq (h3 y hy) (low y (on y hy) e).2
  have:=(Bj le).2 ⟨s,M8.mpr ⟨hs,decide_eq_true h1⟩,lt⟩
  rw[h2] at this
  exact absurd this (Tr.mpr (G.c w hw))
theorem o9 {ws:List WE}{ss:List SE}{f g:Fm}(F:FE ws ss f)(G:FE ws ss g):∀ s∈ss,val f s=val g s:=by
 refine Oc λz=>?_
 have ne:(ss.filter λs=>decide (val f s≠val g s))≠[]:=λe=>z λs hs=>Oc λq=>by
  have:s∈ss.filter λs=>decide (val f s≠val g s):=M8.mpr ⟨hs,decide_eq_true q⟩
  rw[e] at this;cases this
 obtain ⟨s,hs,h⟩:=CG (λs=>if val f s<=val g s then val f s else val g s) ne
 obtain ⟨h1,h2⟩:=M8.mp hs
 have h2:val f s≠val g s:=of_decide_eq_true h2
 have key:∀ y∈ss,val f y≠val g y->(if val f s<=val g s then val f s else val g s)<=val f y/\(if val f s<=val g s then val f s else val g s)<=val g y:=λy hy e=>by
  have:=h y (M8.mpr ⟨hy,decide_eq_true e⟩)
  by_cases q:val f y<=val g y
  ·rw[if_pos q] at this
   exact ⟨this,Nq this q⟩
  ·rw[if_neg q] at this
   exact ⟨Nq this (OZ (RS.mp q)),this⟩
 by_cases q:val f s<=val g s
 ·rw[if_pos q] at key
  exact xE F G h1 (Rat.lt_of_le_of_ne q h2) key
 ·rw[if_neg q] at key
  exact xE G F h1 (RS.mp q) λy hy e=>(key y hy (Np e)).symm
section
open PySem PySem.Spec PyProof.Rows L2
section
variable {X:Cx} {i o:Nf} {pos:Pos} {Ti To:ETr}
theorem D6 (hu:X.A.units+64 < cLine)(hi:LE X i Ti)(ho:LE X o To)(hm:NU .NotIn o=false:=by rfl):LT X (.Compare i [.NotIn] [o] pos) (TB (uJ true Ti To)):=by
 obtain ⟨ti,pi,si⟩:=hi.ex
 obtain ⟨to,po,so⟩:=ho.ex
 exact ⟨_,CD (xO (hu1 hu) pi po) hm,u9 (ua si so)⟩
theorem yH:bL X (.builtin "len") (λxs H Q=>∃ l kvs,xs=[.ref l]/\H l=some (.dK kvs)/\Q (.int kvs.length) H):=by
 intro pins s σ H xs us Q I rx h
 obtain ⟨l,kvs,rfl,e,q⟩:=h
 obtain ⟨u,rfl,ru⟩:=vals1 rx
 cases (show u=Nr l from ru)
 obtain ⟨hz,hs,vs,kv,dd⟩:=(show bj X.prog X.w H s.heap l (.dK kvs) from I.hok l _ e)
 have hn:=hV
 have kl:=kv.length
 refine call_len_dict (knd:=aS X.prog X.w) hs dd (by omega) ?_
 exact ⟨.int kvs.length,H,(I.tok _),⟨s.toks+1,by rw[kl]⟩,q⟩
def xf:FSp:=λds μ Q=>match ds with
 | [.obj a]=>kD μ a λkvs=>Q (.int kvs.length) μ
 | _=>False
theorem Cr {K:ML}:nR K (λxs H Q=>∃ l kvs,xs=[.ref l]/\H l=some (.dK kvs)/\Q (.int kvs.length) H) xf:=λH μ xs ds Q Q' m p h k=>by
 unfold xf at h
 split at h
 ·cases p with | cons p1 p2=>
  cases p2
  cases p1 with
  | obj a=>
   obtain ⟨kvs,e0,h⟩:=jf h
   obtain ⟨xs,ex,l⟩:=m _ _ e0
   exact ⟨_,xs,rfl,ex,k _ H _ μ (.refl H) m (by rw[l.length];exact .int _) h⟩
 ·exact MR h
end
end
section
open PySem PySem.Spec PyProof.Rows L2
section
variable {X:Cx} {o i e:Nf} {apos cpos:Pos} {To Ti Te:ETr}
end
end
section
open PySem PySem.Spec PyProof.Rows L2
section
variable {X:Cx} {o e value:Nf} {es:List Nf} {To Te:ETr} {Ta:ATr} {pos tpos ppos apos cpos:Pos} {x1:Nat}
end
end
section
open PySem PySem.Spec PyProof.Rows L2
def kF (μ:Mu)(a:Addr)(f:List (Key×D)->Prop):Prop:=match μ a with
 | some (.dcF kvs)=>f kvs
 | _=>False
theorem oZ {μ:Mu}{a:Addr}{f:List (Key×D)->Prop}(h:kF μ a f):∃ ds,μ a=some (.dcF ds)/\f ds:=by
 unfold kF at h
 split at h
 ·rename_i kvs e;exact ⟨kvs,e,h⟩
 ·exact h.elim
theorem gO {μ:Mu}{a:Addr}{f:List (Key×D)->Prop}{ds:List (Key×D)}(e:μ a=some (.dcF ds))(h:f ds):kF μ a f:=by
 unfold kF;rw[e];exact h
def BI:Key->D
 | .inl i=>.int i
 | .inr s=>.str s
theorem IW {K:ML}{H:Hp}(k:Key):Dp K H (kV k) (BI k):=by
 cases k with
 | inl i=>exact .int i
 | inr s=>exact .str s
theorem EI {P:Nh}{w:Nw}{k:Key}{u:MN}(h:(aS P w).is k u=true):RelV (kV k) u:=by
 rcases a8 (show lZ k u=true from h) with ⟨i,t,rfl,rfl⟩ | ⟨x,t,rfl,rfl⟩
 ·exact ⟨t,rfl⟩
 ·exact ⟨t,rfl⟩
theorem _root_.L2.Inv.Ms {X:Cx}{pins:List (Addr×Obj)}{σ:L2.St}{H:Hp}{s:MQ}{c:Addr}{xs:List (Key×V)}(I1:Inv X pins σ H s)(ec:H c=some (.dK xs)):∃ o,Inv X pins σ (L2.upd H c (.frz o (.dK xs))) s:=by
 have ok:=I1.hok c _ ec
 obtain ⟨z,zs,vs,kv,o,es,ep,hg,rest⟩:=id ok
 have nl:∀ d o,H d=some o->(∀ ys,o≠.dK ys)->d≠c:=λd o e1 e2 w=>by subst w;rw[ec] at e1;cases e1;exact e2 _ rfl
 refine ⟨o,I1.un (h':=s.heap) (t':=s.toks) (H':=L2.upd H c (.frz o (.dK xs))) ⟨λd o e _ _ _=>e,λd o e _ _ _=>⟨o.slots,e⟩,λd o e w _=>?_,λd o e _=>⟨o,e⟩,λd ys e=>?_,λd o u e=>?_,λd ps e=>⟨#[],?_⟩⟩ λd u e=>?_⟩
 ·rw[az (λz=>by subst z;rw[ec] at w;cases w)];exact w
 ·rw[az (nl d _ e (λ_=>nofun))];exact e
 ·rw[az (nl d _ e (λ_=>nofun))];exact e
 ·rw[az (nl d _ e (λ_=>nofun)),e];simp
 ·by_cases hd:d=c
  ·subst hd
   rw[aC] at e;cases e
   exact ⟨hg,ok⟩
  ·rw[az hd] at e
   refine (I1.hok d u e).jj (λk w _ q=>q) (λk q=>?_) λk ys q=>?_
   ·rw[az (nl k _ q (λ_=>nofun))];exact q
   ·rw[az (nl k _ q (λ_=>nofun))];exact q
section
variable {X:Cx} {tg o a i e:Nf} {T To Ta Ti:ETr} {pos:Pos}
def JV (t:TE):TE:=λσ H Q=>t σ H λv H1=>∃ a xs,v=.ref a/\H1 a=some (.dK xs)/\∀ o,Q v (L2.upd H1 a (.frz o (.dK xs)))
theorem DY {t:TE}(h:PE X e t):PE X e (JV t):=by
 intro pins s σ H Q I hh
 refine thn (h pins s σ H _ I hh) λu s1 ⟨v,H1,I1,r,a,xs,ev,ea,q⟩=>?_
 obtain ⟨o,I2⟩:=I1.Ms ea
 exact ⟨v,_,I2,r,q o⟩
def xj (T:ETr):ETr:=λρ μ Q=>T ρ μ λx μ1=>kObj x λa=>kD μ1 a λkvs=>Q (.obj a) (up μ1 a (.dcF kvs))
theorem we (h:LE X e T):LE X e (xj T):=by
 obtain ⟨t,p,s⟩:=h.ex
 refine ⟨_,DY p,λσ H ρ μ Q Q' rl h k=>s σ H ρ μ _ _ rl h λv H1 d μ1 t1 m1 p1 h1=>?_⟩
 obtain ⟨q,rfl,h1⟩:=bK p1 h1
 obtain ⟨kvs,e0,h2⟩:=jf h1
 obtain ⟨xs,ex,l⟩:=m1 q _ e0
 refine ⟨q,xs,rfl,ex,λu=>?_⟩
 have t2:Tk H1 (L2.upd H1 q (.frz u (.dK xs))):=pG ex
 refine k _ _ _ (up μ1 q (.dcF kvs)) (t1.trans t2) (λz y ez=>?_) (.obj q) h2
 by_cases zq:z=q
 ·subst zq
  rw[aA] at ez;cases ez
  exact ⟨xs,⟨u,aC⟩,l.mono t2⟩
 ·rw[aT zq] at ez
  exact (m1 z _ ez).ne t2 zq
end
theorem kg {P:Nh}{w:Nw}{H:Hp}{h:Heap}{a:Addr}{o:Obj}{xs:List (Key×V)}{es:Array Rp}{ep:Nat}(hd:o.data=.dict es ep)(ok:bj P w H h a (.frz o (.dK xs))):∃ vs,KV xs vs/\h.DictAt (aS P w) a vs ep:=by
 obtain ⟨hg,z,zs,vs,kv,o',es',ep',hg',c,d,r⟩:=ok
 rw[hg] at hg';cases hg'
 rw[hd] at d;cases d
 exact ⟨vs,kv,o,es,hg,c,hd,r⟩
section
variable {X:Cx} {tg a:Nf} {Ta:ETr}
end
section
variable {X:Cx} {es:List Nf} {o:Nf} {Ta:ATr} {To:ETr} {ppos pos:Pos} {x1:Nat}
end
end
section
open PySem PySem.Spec PyProof.Rows L2
def Itv (a:Addr)(o:Obj)(xs:List (Key×V)):It:=
 ⟨λi H=>H a=some (.frz o (.dK xs))/\i < xs.length,λi H x H'=>H'=H/\∃ k,xs[i]? = some (k,x),λi H=>H a=some (.frz o (.dK xs))/\xs.length<=i⟩
theorem vP:∀ {kvs:List (Key×V)} {vs:List (Key×MN)} {i:Nat} {k:Key} {v:V},KV kvs vs->kvs[i]? = some (k,v)->∃ u,vs[i]? = some (k,u)/\RelV v u
 | _,_,i,_,_,.nil,e=>by simp at e
 | _,b::_,0,k,v,.cons r t,e=>by
  simp at e
  subst e
  exact ⟨b.2,congrArg some (Prod.ext r.1.symm rfl),r.2⟩
 | _,_,i+1,k,v,.cons r t,e=>by
  obtain ⟨u,h⟩:=vP (i:=i) (k:=k) (v:=v) t (by simpa using e)
  exact ⟨u,by simpa using h⟩
theorem xW {P:Nh}{w:Nw}{K:ML}{tg:Nf}(a it:Addr)(o:Obj)(xs:List (Key×V)){es:Array Rp}{ep:Nat}(hd:o.data=.dict es ep):Turn P w K tg (Itv a o xs) [it] it (λi h=>h.IsValIter it a i xs.length ep) where
 mem:=MV.mpr rfl
 obj:=λi h ⟨ob,e,_,d⟩ b hb=>by
  cases MV.mp hb
  exact ⟨ob,e,λv z=>by rw[d] at z;cases z⟩
 keep:=λi h h' st k=>st.at (k it (MV.mpr rfl))
 item:=by
  intro X hP hw hK hc i pins s σ H E I hf st hg
  subst hP hw hK
  obtain ⟨eH,hi⟩:=hg
  obtain ⟨vs,kv,dat⟩:=kg hd (I.hok a _ eH)
  obtain ⟨f0,f1,f2,f3,f4,f5⟩:=hf it (MV.mpr rfl)
  obtain ⟨⟨k,v⟩,hx⟩:∃ y,xs[i]? = some y:=⟨_,MZ hi⟩
  obtain ⟨u,hu,ru⟩:=vP kv hx
  have n:xs.length=vs.length:=kv.length
  rw[n] at st
  refine wpAny_pyNext_values_item st dat hu λg st' sb=>?_
  have I1:Inv X pins σ H { s with heap:=g }:=I.turned (t':=s.toks) (λb o hb e=>(sb.2 b hb).trans e) f0 f1 f3 f4 f5
  obtain ⟨oo,e,c,d⟩:=id st'
  rw[← n] at st'
  exact ⟨u,rfl,sR (s:={ s with heap:=g }) e c d (by decide) ⟨v,H,I1,ru,⟨rfl,k,hx⟩,st',λb hb=>(hf b hb).1⟩⟩
 done:=by
  intro X hP hw hK hc i pins s σ H E I hf st hg
  subst hP hw hK
  obtain ⟨eH,hi⟩:=hg
  obtain ⟨vs,kv,dat⟩:=kg hd (I.hok a _ eH)
  obtain ⟨f0,f1,f2,f3,f4,f5⟩:=hf it (MV.mpr rfl)
  have n:xs.length=vs.length:=kv.length
  rw[n] at st
  exact wpAny_pyNext_values_end (I.ok.hd hc) st dat (by simp;omega) λg eb=>⟨rfl,I.turned (t':=s.toks) (λb o hb e=>eb b o hb e) f0 f1 f3 f4 f5⟩
 self:=λ_ _ _ _ _ st q=>wpAny_pyIter_valiter st q
def LN (tl:TE):TI:=λσ H R=>tl σ H λx H1=>∃ a o xs,x=.ref a/\H1 a=some (.frz o (.dK xs))/\R (Itv a o xs) H1
section
variable {X:Cx} {tg a:Nf} {Ta:ETr} {apos cpos:Pos}
theorem F5 {tl:TE}(hl:PE X a tl)(hbase:O2 a "values" X.env (N1 a X.env)=N1 a X.env:=by rfl)(hline:(apos.endLine == cpos.line)=true:=by rfl):PI X tg (.Call (.Attribute a "values" apos) [] [] cpos) (LN tl):=by
 intro pins s σ H R I h
 refine Ry hbase hline (thn (hl pins s σ H _ I h) λv s1 ⟨x,H1,I1,r1,q,o,xs,ex,eH,qq⟩=>?_)
 subst ex
 cases (show v=Nr q from r1)
 obtain ⟨hg,z,zs,vs,kv,o',es,ep,hg',c,d,r⟩:=(show bj X.prog X.w H1 s1.heap q (.frz o (.dK xs)) from I1.hok q _ eH)
 rw[hg] at hg';cases hg'
 have dat:s1.heap.DictAt (aS X.prog X.w) q vs ep:=⟨o,es,hg,c,d,r⟩
 have n:xs.length=vs.length:=kv.length
 have h1:s1.TypeIs (.ref q) "dict" := ⟨o,hg,c.1⟩
 refine ⟨"dict", "dict.values", Rz,Rh,PySem.F.type_dict_values,h1,(λb e=>by cases e;exact ⟨o,hg,c.2.1⟩),PK rfl (SI ?_)⟩
 refine call_meetsIn Rh h1 PySem.F.entry_dict_values (PySem.F.args_dict_values_1 _) (meets_dict_values (aS X.prog X.w) q zs) ⟨⟨vs,⟨_,_,_,hg,c,d,r⟩⟩,?_⟩
 refine wpAny_pyIter_values (knd:=aS X.prog X.w) (d:=q) (kvs:=vs) (ep:=ep) ⟨_,MW _ rfl,rfl,rfl⟩ (dat.push _) ?_
 have k2:∀ b ob,s1.heap.get? b=some ob->((s1.heap.push { cls:=.type "dict_values", data:=.fields #[.ref q] }).push { cls:=.type "dict_valueiterator", data:=.fields #[.ref q,.int 0 0,.int vs.length 0,.int ep 0] }).get? b=some ob:=λb ob e=>MP _ (MP _ e)
 refine ⟨_,[_],_,_,H1,rfl,I1.kept (t':=s1.toks) k2,xW q _ o xs d,?_,λb hb=>?_,qq⟩
 ·exact ⟨_,MW _ rfl,rfl,by rw[n];rfl⟩
 ·cases MV.mp hb
  have sz:s1.heap.objs.size<=(s1.heap.push { cls:=.type "dict_values", data:=.fields #[.ref q] }).objs.size:=by rw[OS];omega
  exact I1.pz sz (I1.hok.fresh sz)
def Hh (t:ETr):ATr:=λρ μ Q=>t ρ μ λx μ1=>kObj x λa=>kF μ1 a λkvs=>Q (kvs.map λy=>y.2) μ1
theorem G0 (ha:LE X a Ta)(hbase:O2 a "values" X.env (N1 a X.env)=N1 a X.env:=by rfl)(hline:(apos.endLine == cpos.line)=true:=by rfl):LI X tg (.Call (.Attribute a "values" apos) [] [] cpos) (Hh Ta):=by
 obtain ⟨ta,pa,sa⟩:=ha.ex
 refine ⟨_,F5 pa hbase hline,λσ H ρ μ Q R rl h k=>sa σ H ρ μ _ _ rl h λx H1 d μ1 t1 m1 p1 h1=>?_⟩
 obtain ⟨q,rfl,h1⟩:=bK p1 h1
 obtain ⟨kvs,e0,h1⟩:=oZ h1
 obtain ⟨xs,⟨o,ex⟩,l⟩:=m1 q _ e0
 have lk:xs.map (·.1)=kvs.map (·.1):=l.1
 have ll:xs.length=kvs.length:=by have:=congrArg NZ lk;simpa using this
 refine ⟨q,o,xs,rfl,ex,k _ H1 _ μ1 t1 m1 ⟨λi H' t hi=>?_,λi H' v H'' t hi yv=>?_,λi H' t hi=>?_⟩ h1⟩
 ·rw[MX] at hi
  exact ⟨t.frz _ _ _ ex,by omega⟩
 ·obtain ⟨rfl,k,hx⟩:=yv
  refine ⟨.refl _,?_,λ_ m=>m⟩
  exact (l.2.mono t).get' (i:=i) (v:=v) (by rw[Nv,hx];rfl)
 ·rw[MX] at hi
  exact ⟨t.frz _ _ _ ex,by omega⟩
end
end
section
open PySem PySem.Spec PyProof.Rows L2
def lK (es:List (Key×D)):List (Key×D)->Bool
 | []=>true
 | y::r=>match aU es y.1 with
  | none=>false
  | some e=>eqD y.2 e&&lK es r
def eqK (ds es:List (Key×D)):Bool:=ds.length == es.length&&lK es ds
theorem zE {es:List (Key×D)}{k:Key}{d:D}(h:aO 38 (es.map (·.2))=true)(e:aU es k=some d):okD 38 d=true:=by
 unfold aU at e
 cases q:es.find? (λkv=>decide (kv.1=k)) with
 | none=>rw[q] at e;cases e
 | some y=>
  rw[q] at e
  cases e
  exact ke h (M3.mpr ⟨y,QS q,rfl⟩)
section
variable {X:Cx} {pins:List (Addr×Obj)} {σ:L2.St} {H:Hp} {s:MQ}
theorem xr (I:Inv X pins σ H s)(hu:X.A.units+64 < cLine){ys:List (Key×V)}{es:List (Key×D)}{bs:List (Key×MN)}(le:DpK X.K H ys es)(ve:KV ys bs)(oe:aO 38 (es.map (·.2))=true) :
  ∀ {xs:List (Key×V)} {ds:List (Key×D)} {as:List (Key×MN)},DpK X.K H xs ds->KV xs as->aO 38 (ds.map (·.2))=true->PySem.W.KeqHits X.A.in1 s bs as (lK es ds):=by
 intro xs
 induction xs with
 | nil=>
  intro ds as l v o
  cases v
  cases ds with
  | nil=>exact .nil
  | cons y r=>exact absurd l.1 (by simp)
 | cons x xs ih=>
  intro ds as l v o
  cases v with
  | @cons _ b _ as r t=>
  cases ds with
  | nil=>exact absurd l.1 (by simp)
  | cons y ds=>
  obtain ⟨l1,l2⟩:=l
  rw[Ni,Ni] at l1 l2
  obtain ⟨k1,l3⟩:=Ri l1
  clear l1
  cases l2 with | cons p l2=>
  have o:okD 38 y.2=true/\aO 38 (ds.map (·.2))=true:=by simpa[aO] using o
  obtain ⟨x1,x2⟩:=x
  obtain ⟨b1,b2⟩:=b
  obtain ⟨y1,y2⟩:=y
  obtain ⟨rfl,rb⟩:x1=b1/\RelV x2 b2:=r
  have k1:x1=y1:=k1
  subst k1
  have rest:=ih ⟨l3,l2⟩ t o.2
  unfold lK
  have rel:=ve.val x1
  rcases le.look x1 with ⟨z,zv⟩ | ⟨v,d,z,zv,pv⟩
  ·rw[zv] at rel
   simp only[z]
   exact .miss (gD.none_of rel)
  ·rw[zv] at rel
   obtain ⟨u,hu',ru⟩:=gD.some_of rel
   simp only[z]
   have ox:okD 38 y2=true:=o.1
   have oy:=zE oe z
   obtain ⟨aa,ra⟩:=bV I (show Dp X.K H x2 y2 from p) ox rb
   obtain ⟨bb,rc⟩:=bV I pv oy ru
   obtain ⟨l1',d1⟩:=cM 38 y2 ox
   obtain ⟨l2',d2⟩:=cM 38 d oy
   have hm:=Qj (toP y2).depth (toP d).depth
   have q:=Ul _ _ X.A.in1 s _ _ _ _ ra rc l1' l2' (by rw[Um];omega)
   rw[iT 38 38 y2 d ox oy] at q
   exact .hit hu' q rest
end
section
variable {X:Cx} {a b:Nf} {Ta Tb:ETr} {pos:Pos}
def IC (K:ML)(f:Bool->Bool):R2:=λx y H Q=>∃ p q o o' xs ys ds es,x=.ref p/\y=.ref q/\H p=some (.frz o (.dK xs))/\H q=some (.frz o' (.dK ys))/\DpK K H xs ds/\DpK K H ys es/\aO 38 (ds.map (·.2))=true/\aO 38 (es.map (·.2))=true/\Q (.bl (f (eqK ds es))) H
theorem Hw (hu:X.A.units+64 < cLine):OpR X (N5 .Eq) (IC X.K id):=λpins s σ H x y v u Q I rx ry ⟨p,q,o,o',xs,ys,ds,es,e1,e2,ex,ey,lx,ly,ox,oy,k⟩=>by
 subst e1 e2
 cases (show v=Nr p from rx)
 cases (show u=Nr q from ry)
 obtain ⟨_,_,zs,vs,kv,dv⟩:=(show bj X.prog X.w H s.heap p (.frz o (.dK xs)) from I.hok p _ ex)
 obtain ⟨_,_,zs',ws,kw,dw⟩:=(show bj X.prog X.w H s.heap q (.frz o' (.dK ys)) from I.hok q _ ey)
 have n1:vs.length=ds.length:=by have:=congrArg NZ lx.1;have:=kv.length;simp at *;omega
 have n2:ws.length=es.length:=by have:=congrArg NZ ly.1;have:=kw.length;simp at *;omega
 refine PySem.W.keq_eq (knd:=aS X.prog X.w) zs zs' dv dw (by omega) (λ_=>xr I hu ly kw oy lx kv ox) ⟨.bl _,H,I,rfl,?_⟩
 rw[n1,n2]
 exact k
theorem IT (hu:X.A.units+64 < cLine):OpR X (N5 .NotEq) (IC X.K not):=λpins s σ H x y v u Q I rx ry ⟨p,q,o,o',xs,ys,ds,es,e1,e2,ex,ey,lx,ly,ox,oy,k⟩=>by
 subst e1 e2
 cases (show v=Nr p from rx)
 cases (show u=Nr q from ry)
 obtain ⟨_,_,zs,vs,kv,dv⟩:=(show bj X.prog X.w H s.heap p (.frz o (.dK xs)) from I.hok p _ ex)
 obtain ⟨_,_,zs',ws,kw,dw⟩:=(show bj X.prog X.w H s.heap q (.frz o' (.dK ys)) from I.hok q _ ey)
 have n1:vs.length=ds.length:=by have:=congrArg NZ lx.1;have:=kv.length;simp at *;omega
 have n2:ws.length=es.length:=by have:=congrArg NZ ly.1;have:=kw.length;simp at *;omega
 refine PySem.W.keq_ne (knd:=aS X.prog X.w) zs zs' dv dw (by omega) (λ_=>xr I hu ly kw oy lx kv ox) ⟨.bl _,H,I,rfl,?_⟩
 rw[n1,n2]
 exact k
def sA (f:Bool->Bool):DR2:=λx y μ Q=>kObj x λp=>kF μ p λds=>kObj y λq=>kF μ q λes=>(aO 38 (ds.map (·.2))=true/\aO 38 (es.map (·.2))=true)/\Q (.bl (f (eqK ds es))) μ
theorem v8 {K:ML}(f:Bool->Bool):dm K (IC K f) (sA f):=λH μ x y dx dy Q Q' m px py h k=>by
 obtain ⟨p,rfl,h⟩:=bK px h
 obtain ⟨ds,e0,h⟩:=oZ h
 obtain ⟨q,rfl,h⟩:=bK py h
 obtain ⟨es,e1,h⟩:=oZ h
 obtain ⟨xs,⟨o,ex⟩,l⟩:=m p _ e0
 obtain ⟨ys,⟨o',ey⟩,l'⟩:=m q _ e1
 exact ⟨p,q,o,o',xs,ys,ds,es,rfl,rfl,ex,ey,l,l',h.1.1,h.1.2,k _ H _ μ (.refl H) m (.bl _) h.2⟩
theorem F6 (hu:X.A.units+64 < cLine)(ha:LE X a Ta)(hb:LE X b Tb):LE X (.Compare a [.Eq] [b] pos) (ak (sA id) Ta Tb):=gx (Hw hu) (v8 id) ha hb (ck _)
theorem uD (hu:X.A.units+64 < cLine)(ha:LE X a Ta)(hb:LE X b Tb):LT X (.Compare a [.NotEq] [b] pos) (TB (ak (sA not) Ta Tb)):=cK (IT hu) (v8 not) ha hb (ck _)
end
end
section
open PySem PySem.Spec PyProof.Rows L2
def Itm (a:Addr)(o:Obj)(xs:List (Key×V)):It:=
 ⟨λi H=>H a=some (.frz o (.dK xs))/\i < xs.length,λi H x H'=>∃ k v p,xs[i]? = some (k,v)/\x=.ref p/\H p=none/\H'=L2.upd H p (.tup [kV k,v]),λi H=>H a=some (.frz o (.dK xs))/\xs.length<=i⟩
theorem ur {P:Nh}{w:Nw}{K:ML}{es:List Nf}{ek:Nat}{tp:Pos}(a it:Addr)(o:Obj)(xs:List (Key×V)){ds:Array Rp}{ep:Nat}(hd:o.data=.dict ds ep):Turn P w K (.Tuple es ek tp) (Itm a o xs) [it] it (λi h=>∃ x y,IsItemIter h it a i xs.length ep x y) where
 mem:=MV.mpr rfl
 obj:=λi h ⟨_,_,st⟩ b hb=>by
  cases MV.mp hb
  exact ⟨_,st,λv z=>by cases z⟩
 keep:=λi h h' ⟨x,y,st⟩ k=>⟨x,y,k it (MV.mpr rfl) _ st⟩
 item:=by
  intro X hP hw hK hc i pins s σ H E I hf st hg
  subst hP hw hK
  obtain ⟨eH,hi⟩:=hg
  obtain ⟨vs,kv,dat⟩:=kg hd (I.hok a _ eH)
  obtain ⟨f0,f1,f2,f3,f4,f5⟩:=hf it (MV.mpr rfl)
  obtain ⟨⟨k,v⟩,hx⟩:∃ y,xs[i]? = some y:=⟨_,MZ hi⟩
  obtain ⟨u,hu,ru⟩:=vP kv hx
  have n:xs.length=vs.length:=kv.length
  rw[n] at st
  obtain ⟨x0,y0,st⟩:=st
  have lt:it < s.heap.objs.size:=M1 st
  have ne:it≠s.heap.objs.size:=Na lt
  refine wpAny_pyNext_items_item st dat hu λkey g hkey out tup sz kp=>⟨_,rfl,wpAny_letOwnedTupleGo_items out λg2 st2 k2=>?_⟩
  have I2:Inv X pins σ (L2.upd H s.heap.objs.size (.tup [kV k,v])) { s with heap:=s.heap.push { cls:=.type "tuple", data:=.seq #[key,u] } }:=
   I.laid (a:=s.heap.objs.size) (o:=.tup [kV k,v]) (t':=s.toks) (λb ob e=>MP _ e) (M0 _) ⟨by show 2<=sizeLine;decide,[key,u],.cons (EI hkey) (.cons ru .nil),⟨_,MW _ rfl⟩⟩
  have I3:Inv X pins σ (L2.upd H s.heap.objs.size (.tup [kV k,v])) { s with heap:=g2 }:=by
   refine Inv.turned (s:={ s with heap:=s.heap.push { cls:=.type "tuple", data:=.seq #[key,u] } }) (h':=g2) (it:=it) (t':=s.toks) I2 (λb ob hb e=>?_) (by rw[az ne];exact f0) f1 f3 f4 f5
   have e:(s.heap.push { cls:=.type "tuple", data:=.seq #[key,u] }).get? b=some ob:=e
   rw[k2.2 b hb]
   by_cases q:b=s.heap.objs.size
   ·subst q
    rw[show (s.heap.push { cls:=.type "tuple", data:=.seq #[key,u] }).get? s.heap.objs.size=_ from MW _ rfl] at e
    rw[tup]
    exact e
   ·rw[Heap.get?_push_ne _ _ _ q] at e
    exact kp b ob hb e
  refine ⟨.ref s.heap.objs.size,_,I3,rfl,⟨k,v,_,hx,rfl,I.hok.fresh (M0 _),rfl⟩,⟨key,u,by rw[n];exact st2⟩,λb hb=>?_⟩
  cases MV.mp hb
  rw[az ne];exact f0
 done:=by
  intro X hP hw hK hc i pins s σ H E I hf st hg
  subst hP hw hK
  obtain ⟨eH,hi⟩:=hg
  obtain ⟨vs,kv,dat⟩:=kg hd (I.hok a _ eH)
  obtain ⟨f0,f1,f2,f3,f4,f5⟩:=hf it (MV.mpr rfl)
  have n:xs.length=vs.length:=kv.length
  rw[n] at st
  obtain ⟨x0,y0,st⟩:=st
  exact wpAny_pyNext_items_end (I.ok.hd hc) st dat (by simp;omega) λg eb=>⟨rfl,I.turned (t':=s.toks) (λb o hb e=>eb b o hb e) f0 f1 f3 f4 f5⟩
 self:=λ_ _ _ _ _ ⟨_,_,st⟩ q=>PySem.W.kcp_self st q
def LK (tl:TE):TI:=λσ H R=>tl σ H λx H1=>∃ a o xs,x=.ref a/\H1 a=some (.frz o (.dK xs))/\R (Itm a o xs) H1
section
variable {X:Cx} {a:Nf} {Ta:ETr} {apos cpos tp:Pos} {es:List Nf} {ek:Nat}
theorem Jo {tl:TE}(hl:PE X a tl)(hbase:O2 a "items" X.env (N1 a X.env)=N1 a X.env:=by rfl)(hline:(apos.endLine == cpos.line)=true:=by rfl):PI X (.Tuple es ek tp) (.Call (.Attribute a "items" apos) [] [] cpos) (LK tl):=by
 intro pins s σ H R I h
 refine Ry hbase hline (thn (hl pins s σ H _ I h) λv s1 ⟨x,H1,I1,r1,q,o,xs,ex,eH,qq⟩=>?_)
 subst ex
 cases (show v=Nr q from r1)
 obtain ⟨hg,z,zs,vs,kv,o',ds,ep,hg',c,d,r⟩:=(show bj X.prog X.w H1 s1.heap q (.frz o (.dK xs)) from I1.hok q _ eH)
 rw[hg] at hg';cases hg'
 have dat:s1.heap.DictAt (aS X.prog X.w) q vs ep:=⟨o,ds,hg,c,d,r⟩
 have n:xs.length=vs.length:=kv.length
 have h1:s1.TypeIs (.ref q) "dict" := ⟨o,hg,c.1⟩
 refine ⟨"dict", "dict.items", Rz,RA,PySem.F.type_dict_items,h1,(λb e=>by cases e;exact ⟨o,hg,c.2.1⟩),PK rfl (SI ?_)⟩
 refine call_meetsIn RA h1 PySem.F.entry_dict_items (PySem.F.args_dict_items_1 _) (meets_dict_items (aS X.prog X.w) q zs) ⟨⟨vs,⟨_,_,_,hg,c,d,r⟩⟩,?_⟩
 refine wpAny_pyIter_items (knd:=aS X.prog X.w) (d:=q) (kvs:=vs) (ep:=ep) ⟨_,MW _ rfl,rfl,rfl⟩ (dat.push _) ?_
 have k2:∀ b ob,s1.heap.get? b=some ob->((s1.heap.push { cls:=.type "dict_items", data:=.fields #[.ref q] }).push { cls:=.type "dict_itemiterator", data:=.fields #[.none,.bool false,.ref q,.int 0 0,.int vs.length 0,.int ep 0,.none,.none] }).get? b=some ob:=λb ob e=>MP _ (MP _ e)
 refine ⟨_,[_],_,_,H1,rfl,I1.kept (t':=s1.toks) k2,ur q _ o xs d,?_,λb hb=>?_,qq⟩
 ·exact ⟨.none,.none,by rw[n];exact MW _ rfl⟩
 ·cases MV.mp hb
  have sz:s1.heap.objs.size<=(s1.heap.push { cls:=.type "dict_items", data:=.fields #[.ref q] }).objs.size:=by rw[OS];omega
  exact I1.pz sz (I1.hok.fresh sz)
def Jd (t:ETr):ATr:=λρ μ Q=>t ρ μ λx μ1=>kObj x λa=>kF μ1 a λkvs=>Q (kvs.map λy=>.tup [BI y.1,y.2]) μ1
theorem Ii (ha:LE X a Ta)(hbase:O2 a "items" X.env (N1 a X.env)=N1 a X.env:=by rfl)(hline:(apos.endLine == cpos.line)=true:=by rfl):LI X (.Tuple es ek tp) (.Call (.Attribute a "items" apos) [] [] cpos) (Jd Ta):=by
 obtain ⟨ta,pa,sa⟩:=ha.ex
 refine ⟨_,Jo pa hbase hline,λσ H ρ μ Q R rl h k=>sa σ H ρ μ _ _ rl h λx H1 d μ1 t1 m1 p1 h1=>?_⟩
 obtain ⟨q,rfl,h1⟩:=bK p1 h1
 obtain ⟨kvs,e0,h1⟩:=oZ h1
 obtain ⟨xs,⟨o,ex⟩,l⟩:=m1 q _ e0
 have lk:xs.map (·.1)=kvs.map (·.1):=l.1
 have ll:xs.length=kvs.length:=by have:=congrArg NZ lk;simpa using this
 refine ⟨q,o,xs,rfl,ex,k _ H1 _ μ1 t1 m1 ⟨λi H' t hi=>?_,λi H' v H'' t hi yv=>?_,λi H' t hi=>?_⟩ h1⟩
 ·rw[MX] at hi
  exact ⟨t.frz _ _ _ ex,by omega⟩
 ·obtain ⟨k,v,p,hx,rfl,fr,rfl⟩:=yv
  obtain ⟨dv,ed,pd⟩:=(l.2.mono t).get' (i:=i) (v:=v) (by rw[Nv,hx];rfl)
  have ek:(kvs.map (·.1))[i]? = some k:=by rw[← lk,Nv,hx];rfl
  have tn:Tk H' (L2.upd H' p (.tup [kV k,v])):=.new fr
  refine ⟨tn,⟨.tup [BI k,dv],?_,.tup (SqT.of aC) (.cons (IW k) (.cons (pd.mono tn) .nil))⟩,λμ' m'=>bQ m' fr⟩
  rw[Nv] at ek ed ⊢
  cases e:kvs[i]? with
  | none=>rw[e] at ek;cases ek
  | some y=>rw[e] at ek ed;cases ek;cases ed;rfl
 ·rw[MX] at hi
  exact ⟨t.frz _ _ _ ex,by omega⟩
end
end
section
open PySem PySem.Spec PyProof.Rows L2
theorem fU:Slot "reversed" "__next__" "reversed.__next__" :=
 Vw (owner := "reversed") (n := "__next__") (by rw[Qo,O7];kernel_rfl) (by decide +kernel) (by decide +kernel) (by decide +kernel) (.inl (by decide +kernel)) (by rw[QO];kernel_rfl)
theorem oA:entryFor table "reversed.__next__" = some Qy.«reversed.__next__»:=entryFor_of_tree (by kernel_rfl)
theorem rH:Manifest.owners.lookup (String.ofList ['d','e','s','r','e','v','e','r'].reverse)=some Manifest.sig_reversed:=by kernel_rfl
theorem rq (a:MN):argsOk "reversed.__next__" ⟨[a],[]⟩:=by
 unfold argsOk;rw[signature?_of (id := "reversed.__next__") (n := "__txen__".toList) (o:=['d','e','s','r','e','v','e','r']) (by kernel_rfl) rH];kernel_rfl
theorem su:Slot "reversed" "__iter__" "reversed.__iter__" :=
 Vw (owner := "reversed") (n := "__iter__") (by rw[Qo,O7];kernel_rfl) (by decide +kernel) (by decide +kernel) (by decide +kernel) (.inl (by decide +kernel)) (by rw[QO];kernel_rfl)
theorem CS (a:MN):argsOk "reversed.__iter__" ⟨[a],[]⟩:=by
 unfold argsOk;rw[signature?_of (id := "reversed.__iter__") (n := "__reti__".toList) (o:=['d','e','s','r','e','v','e','r']) (by kernel_rfl) rH];kernel_rfl
theorem yp:entryFor table "reversed.__iter__" = some Qy.«dict_keyiterator.__iter__»:=
 entryFor_alias (id' := "dict_keyiterator.__iter__") (by kernel_rfl) (by decide +kernel) (by decide +kernel) (by kernel_rfl)
section
variable {prog:Nh} {w:Nw} {A:NH} {E:MN->MQ->Prop} {s:MQ}
theorem KD {i n:Nat}(h:i < n):QB (i:Int) n=some i:=by
 unfold QB
 simp
 omega
def jI (h:Heap)(a t:Addr)(i:Int):Prop:=∃ o,h.get? a=some o/\o.cls=.type "reversed" /\ o.data=.fields #[.ref t,OQ i]
theorem jI.ty {a t:Addr}{i:Int}(x:jI s.heap a t i):s.TypeIs (.ref a) "reversed" := let ⟨o,ho,hc,_⟩:=x;⟨o,ho,hc⟩
theorem CO {it t:Addr}{i:Nat}{items:Array MN}{x:MN}{Q:Option MN->MQ->Prop}(hit:jI s.heap it t (i:Int))(ht:SK s.heap t items)(hx:items[i]? = some x)(hi:i < 2 ^ 62)
  (hQ:∀ h' tk,jI h' it t ((i:Int) - 1)->OV it s.heap h'->Q (some x) { s with heap:=h',toks:=tk }):M4 (Nb prog w) A (Pk (.ref it)) Q E s:=by
 obtain ⟨ob,q0,q1,q2⟩:=id hit
 unfold Pk
 refine MM (O4 (Nx (name:=MK "__next__") hit.ty fU (NQ fU hit.ty oA ?_ (rq _))))
 unfold Qy.«reversed.__next__»
 refine MM (Pb (a:=(.ref it,[])) rfl ?_)
 dsimp only
 refine MM (Nu (x:=.ref t) q0 q2 rfl ?_)
 refine MM (Nu (x:=OQ i) q0 q2 rfl ?_)
 refine (show M4 _ _ (if (i:Int) < 0 then _ else _) _ _ s from ?_)
 rw[if_neg (by omega)]
 refine MM (Qi ht.typeIs QP.lookup ?_)
 rw[if_neg (by decide)]
 refine MM (wpAny_mkInt (MM (O4 ?_)))
 refine UY (j:=i) (x:=x) ht (by omega) (by omega) (KD (Array.getElem?_eq_some_iff.mp hx).1) hx ?_
 dsimp only
 refine MM (Nu (x:=OQ i) q0 q2 rfl ?_)
 show M4 _ _ (TZ (.ref it) 1 (OQ ((i:Int) - 1)) >>= _) _ _ _
 refine MM (PL q0 q2 (by simp) ?_)
 refine wpAny_pure ⟨x,rfl,wpAny_pure (hQ _ _ ⟨_,O5 _ q0 (PV (Oy q2 _)),(TN ..).trans q1,?_⟩ (Qr ..))⟩
 rw[Oy q2]
 simp
theorem C0 {it t:Addr}{Q:Option MN->MQ->Prop}(hh:A.handled=none)(hit:jI s.heap it t (-1))
  (hQ:∀ g,Si it s.heap g->Q none { s with heap:=g }):M4 (Nb prog w) A (Pk (.ref it)) Q E s:=by
 obtain ⟨ob,q0,q1,q2⟩:=id hit
 unfold Pk
 refine MM (O4 (Nx (name:=MK "__next__") hit.ty fU (NQ fU hit.ty oA ?_ (rq _))))
 unfold Qy.«reversed.__next__»
 refine MM (Pb (a:=(.ref it,[])) rfl ?_)
 dsimp only
 refine MM (Nu (x:=.ref t) q0 q2 rfl ?_)
 refine MM (Nu (x:=OQ (-1)) q0 q2 rfl ?_)
 refine (show M4 _ _ (if (-1:Int) < 0 then _ else _) _ _ s from ?_)
 rw[if_pos (by decide)]
 refine MM (OW ?_)
 refine MM (show M4 _ _ (TZ (.ref it) 1 (OQ (-1)) >>= λ_=>TZ (.ref it) 0 .none) _ _ _ from ?_)
 refine MM (PL q0 q2 (by simp) ?_)
 have h1:=O5 (h:=s.heap) (Obj.mapFields λx=>x.setIfInBounds 1 (OQ (-1))) q0 (PV (Oy q2 _))
 refine PL h1 (Oy q2 _) (by simp) ?_
 refine MM (show M4 _ _ (newExc (.type "StopIteration") [] >>= _) _ _ _ from ?_)
 refine MM ?_
 unfold newExc newTuple
 refine MM (NJ (MM (m:=Sj _ _) (Pb (a:=.none) rfl (NJ ?_ (by size_fits)))) (by size_fits))
 unfold raiseNew
 refine MM (wpAny_handled ?_ )
 rw[(show A.in1.handled=none from hh)]
 refine MM <| wpAny_pure <| wpAny_throw ?_
 refine MM (wpAny_isInstance (T := "StopIteration") (b:=true) ⟨_,MW _ rfl,rfl⟩ Sl (wpAny_pure (hQ _ ?_)))
 exact λb ob hb e=>MP _ (MP _ ((OY _ _ (Np hb)).trans ((OY _ _ (Np hb)).trans e)))
theorem tP {it t:Addr}{i:Int}{Q:MN->MQ->Prop}(hit:jI s.heap it t i)(h:Q (.ref it) s):M4 (Nb prog w) A (pyIter (.ref it)) Q E s:=
 wpAny_pyIter_slot hit.ty su (NQ su hit.ty yp (show M4 _ _ (ret (.ref it)) _ _ s from wpAny_pure ⟨_,rfl, "reversed", _,hit.ty,fU.lookup,h⟩) (CS _))
theorem rW:Slot "reversed" "__init__" "object.__init__" :=
 Vw (owner := "object") (n := "__init__") (by rw[Qo,O7];kernel_rfl) (by decide +kernel) (by decide +kernel) (by decide +kernel) (.inl (by decide +kernel)) (by rw[QO];kernel_rfl)
theorem xX:TypeCalled "reversed" "reversed.__new__" "object.__init__" := ⟨by decide +kernel,PySem.F.create_reversed,⟨_,_,PySem.F.mro_reversed⟩,Sb,Pd,PySem.F.sub_reversed_self,rW⟩
theorem yb:S7 (.type "tuple") "__reversed__" = pure none:=by rw[Qo,O7];kernel_rfl
def oO (t:Addr)(i:Int):Obj:={ cls:=.type "reversed", data:=.fields #[.ref t,OQ i] }
theorem Cn {t:Addr}{items:Array MN}{Q₁:MN->MQ->Prop}(ht:SK s.heap t items)(hz:(items.size:Int) < 2 ^ 63)
  (h:∀ tk,Q₁ (.ref s.heap.objs.size) { s with heap:=s.heap.push (oO t ((items.size:Int) - 1)),toks:=tk }) :
  QY (Nb prog w) A (.call (.builtin "reversed.__new__") ⟨[.type "reversed", .ref t],[]⟩) (wants Q₁ E) s:=by
 refine codeAny_of_tree (show M4 _ A.in1 (checkBuiltinCall "reversed.__new__" ⟨[.type "reversed", .ref t],[]⟩ >>= λ_=>again (.builtin "reversed.__new__" ⟨[.type "reversed", .ref t],[]⟩)) _ _ s from ?_)
 refine MM (Pb (PySem.F.newCall_reversed_1 _) (wpAny_pure ⟨S1 Pd _,R0 PySem.F.entry_reversed_new ?_⟩))
 rw[Qd Pd _]
 unfold PySem.Builtin.«reversed.__new__»
 refine MM (Pb (newClass_reversed _) (MM (Pb (a:=()) (by first | rfl | kernel_rfl) (MM (Pb (a:=()) (by first | rfl | kernel_rfl) ?_)))))
 refine MM (Qi ht.typeIs yb ?_)
 refine MM (show M4 _ _ (isInstance (.ref t) (.type "dict") >>= _) _ _ _ from ?_)
 refine MM (wpAny_isInstance ht.typeIs (b:=false) (by rw[QO];kernel_rfl) ?_)
 rw[if_neg (by decide)]
 refine MM (Qi ht.typeIs QP.lookup ?_)
 refine (show M4 _ _ (pure true) _ _ _ from wpAny_pure ?_)
 rw[if_neg (by decide)]
 refine MM (Vi ht hz ?_)
 refine MM (wpAny_pure ?_)
 refine MM (show M4 _ _ (newObj (.type "reversed") (.fields #[.ref t,OQ ((items.size:Int) - 1)])) _ _ _ from NJ ?_ (by size_fits))
 exact wpAny_pure (h _)
theorem zF {t:Addr}{items:Array MN}{Q:MN->MQ->Prop}(ht:SK s.heap t items)(hz:(items.size:Int) < 2 ^ 63)
  (h:∀ tk,Q (.ref s.heap.objs.size) { s with heap:=s.heap.push (oO t ((items.size:Int) - 1)),toks:=tk }):M4 (Nb prog w) A (call (.type "reversed") [.ref t]) Q E s:=by
 refine callType_codes (Q₁:=λobj s₁=>obj=.ref s.heap.objs.size/\∃ tk,s₁={ s with heap:=s.heap.push (oO t ((items.size:Int) - 1)),toks:=tk }) xX (PySem.F.typeCall_reversed_1 _) PySem.F.entry_object_init (Cn ht hz λtk=>⟨rfl,tk,rfl⟩) ?_
 rintro obj s₁ ⟨rfl,tk,rfl⟩
 have ty:Shared.TypeIs { s with heap:=s.heap.push (oO t ((items.size:Int) - 1)),toks:=tk } (.ref s.heap.objs.size) "reversed" := ⟨_,MW _ rfl,rfl⟩
 exact ⟨ty,PySem.F.args_object_init_2 _ _,object_init_meets rW.lookup Sb (by decide) prog w A.in1 _ _ ⟨ty,rfl,h tk⟩⟩
end
end
section
open PySem PySem.Spec PyProof.Rows L2
def Kl (K:ML)(a:Addr)(n:Nat):It:=
 ⟨λi H=>∃ xs,SqT K H a xs/\xs.length=n/\i < n,λi H x H'=>H'=H/\∀ xs,SqT K H a xs->xs[n - 1 - i]? = some x,λi H=>∃ xs,SqT K H a xs/\xs.length=n/\n<=i⟩
theorem AM {P:Nh}{w:Nw}{K:ML}{tg:Nf}(a it:Addr)(n:Nat):Turn P w K tg (Kl K a n) [it] it (λi h=>i<=n/\jI h it a ((n:Int) - 1 - (i:Nat))) where
 mem:=MV.mpr rfl
 obj:=λi h ⟨_,ob,e,_,d⟩ b hb=>by
  cases MV.mp hb
  exact ⟨ob,e,λv z=>by rw[d] at z;cases z⟩
 keep:=λi h h' ⟨l,ob,e,r⟩ k=>⟨l,ob,k it (MV.mpr rfl) _ e,r⟩
 item:=by
  intro X hP hw hK hc i pins s σ H E I hf st hg
  subst hP hw hK
  obtain ⟨xs,hq,hn,hi⟩:=hg
  obtain ⟨its,rv,p,hz⟩:=I.tuple hq
  obtain ⟨x,hx⟩:∃ x,xs[n - 1 - i]? = some x:=⟨_,MZ (by omega)⟩
  obtain ⟨u,hu,ru⟩:=rv.get hx
  obtain ⟨f0,f1,f2,f3,f4,f5⟩:=hf it (MV.mpr rfl)
  have e:(n:Int) - 1 - (i:Nat)=((n - 1 - i:Nat):Int):=by omega
  have st1:=st.2
  rw[e] at st1
  refine CO st1 p (x:=u) (by simpa using hu) (by have:sizeLine < 2 ^ 62:=(by decide);omega) λg tk st' sb=>?_
  have I1:Inv X pins σ H { s with heap:=g,toks:=tk }:=I.turned (t':=tk) (λb o hb e=>(sb.2 b hb).trans e) f0 f1 f3 f4 f5
  obtain ⟨o,e1,c,d⟩:=id st'
  have e2:((n - 1 - i:Nat):Int) - 1=(n:Int) - 1 - ((i+1:Nat):Nat):=by omega
  rw[e2] at st'
  exact ⟨u,rfl,sR (s:={ s with heap:=g,toks:=tk }) e1 c d (by decide) ⟨x,H,I1,ru,⟨rfl,λys hy=>by rw[I.jv hy hq];exact hx⟩,⟨by omega,st'⟩,λb hb=>(hf b hb).1⟩⟩
 done:=by
  intro X hP hw hK hc i pins s σ H E I hf st hg
  subst hP hw hK
  obtain ⟨xs,hq,hn,hi⟩:=hg
  obtain ⟨f0,f1,f2,f3,f4,f5⟩:=hf it (MV.mpr rfl)
  obtain ⟨l,st⟩:=st
  have e:(n:Int) - 1 - (i:Nat) = -1:=by omega
  rw[e] at st
  exact C0 (I.ok.hd hc) st λg eb=>⟨rfl,I.turned (t':=s.toks) (λb o hb e=>eb b o hb e) f0 f1 f3 f4 f5⟩
 self:=λ_ _ _ _ _ st q=>tP st.2 q
def LV (K:ML)(tl:TE):TI:=λσ H R=>tl σ H λx H1=>∃ a xs,x=.ref a/\SqT K H1 a xs/\R (Kl K a xs.length) H1
section
variable {X:Cx} {tg a:Nf} {Ta:ETr} {p pos:Pos}
theorem Hb {tl:TE}(hg:Gl X "reversed")(hm:X.mg "reversed" = none)(hl:PE X a tl)
  (he:M6 [a] X.env=(false,N1 a X.env)::M6 [] X.env:=by rfl) (hpl:(OL pos (M6 [] X.env)).any (·.1)=false:=by rfl) (hnil:OL pos (M6 [] X.env)=[]:=by rfl):PI X tg (.Call (.Name "reversed" p) [a] [] pos) (LV X.K tl):=by
 intro pins s σ H R I h
 refine Pr (jn I hg hm (show OF "reversed" = some (.type "reversed") by decide +kernel) ?_ (by decide) (by decide))
 refine N7 ?_ he hpl
 rw[he]
 show M4 _ _ (spliced ((false,N1 _ X.env)::OL pos (M6 [] X.env))) _ _ s
 rw[hnil]
 refine S5 (thn (hl pins s σ H _ I h) λv s1 ⟨x,H1,I1,r1,q,xs,ex,sq,qq⟩=>?_)
 subst ex
 cases (show v=Nr q from r1)
 refine Tv ?_
 obtain ⟨its,rv,pl,hz⟩:=I1.tuple sq
 have n:xs.length=its.length:=rv.length
 have big:sizeLine < 2 ^ 62:=by decide
 refine zF pl (by simp;omega) λtk=>?_
 have new:jI (s1.heap.push (oO q ((its.toArray.size:Int) - 1))) s1.heap.objs.size q ((xs.length:Int) - 1 - (0:Nat)):=⟨_,MW _ rfl,rfl,by rw[n];simp[oO]⟩
 refine tP (t:=q) (i:=(xs.length:Int) - 1 - (0:Nat)) new ⟨_,[_],_,_,H1,rfl,I1.kept (t':=tk) λb o e=>MP _ e,AM q _ xs.length,⟨N0 _,new⟩,λb hb=>?_,qq⟩
 cases MV.mp hb
 exact I1.pz (M0 _) (I1.hok.fresh (M0 _))
def Ju (t:ETr):ATr:=λρ μ Q=>t ρ μ λx μ1=>kTp x λds=>Q ds.reverse μ1
theorem Ih (hg:Gl X "reversed")(hm:X.mg "reversed" = none)(ha:LE X a Ta)
  (he:M6 [a] X.env=(false,N1 a X.env)::M6 [] X.env:=by rfl) (hpl:(OL pos (M6 [] X.env)).any (·.1)=false:=by rfl) (hnil:OL pos (M6 [] X.env)=[]:=by rfl):LI X tg (.Call (.Name "reversed" p) [a] [] pos) (Ju Ta):=by
 obtain ⟨ta,pa,sa⟩:=ha.ex
 refine ⟨_,Hb hg hm pa he hpl hnil,λσ H ρ μ Q R rl h k=>sa σ H ρ μ _ _ rl h λx H1 d μ1 t1 m1 p1 h1=>?_⟩
 unfold kTp at h1
 split at h1
 case h_2=>exact h1.elim
 rename_i ds
 cases p1 with
 | @tup q xs _ sq l=>
 have ll:xs.length=ds.length:=l.length
 refine ⟨q,xs,rfl,sq,k _ H1 _ μ1 t1 m1 ⟨λi H' t hi=>?_,λi H' v H'' t hi yv=>?_,λi H' t hi=>?_⟩ h1⟩
 ·rw[Qt] at hi
  exact ⟨xs,t.sqT sq,rfl,by omega⟩
 ·obtain ⟨rfl,fx⟩:=yv
  rw[Qt] at hi
  have ex:=fx _ (t.sqT sq)
  obtain ⟨dv,ed,pd⟩:=l.get' ex
  refine ⟨.refl _,⟨dv,?_,pd.mono t⟩,λ_ m=>m⟩
  rw[List.getElem?_reverse hi,← ll]
  exact ed
 ·rw[Qt] at hi
  exact ⟨xs,t.sqT sq,rfl,by omega⟩
end
end
section
open PySem L2
theorem Hq (T:ETr)(ρ:ST)(μ:Mu)(Q:DK):xj T ρ μ Q=T ρ μ λx μ1=>kObj x λa=>kD μ1 a λkvs=>Q (.obj a) (up μ1 a (.dcF kvs)):=propext MT
theorem Jk (t:ETr)(ρ:ST)(μ:Mu)(Q:List D->Mu->Prop):Hh t ρ μ Q=t ρ μ λx μ1=>kObj x λa=>kF μ1 a λkvs=>Q (kvs.map λy=>y.2) μ1:=propext MT
theorem Jh (t:ETr)(ρ:ST)(μ:Mu)(Q:List D->Mu->Prop):Jd t ρ μ Q=t ρ μ λx μ1=>kObj x λa=>kF μ1 a λkvs=>Q (kvs.map λy=>.tup [BI y.1,y.2]) μ1:=propext MT
theorem Hn (t:ETr)(ρ:ST)(μ:Mu)(Q:List D->Mu->Prop):Ju t ρ μ Q=t ρ μ λx μ1=>kTp x λds=>Q ds.reverse μ1:=propext MT
theorem GQ (f:Bool->Bool)(x y:D)(μ:Mu)(Q:DK):sA f x y μ Q=kObj x λp=>kF μ p λds=>kObj y λq=>kF μ q λes=>(aO 38 (ds.map (·.2))=true/\aO 38 (es.map (·.2))=true)/\Q (.bl (f (eqK ds es))) μ:=propext MT
theorem Kw (ds:List D)(f:List D->Prop):kTp (.tup ds) f=f ds:=propext MT
end
theorem HU {f:Fm}{l l':List SE}(h:l.Sublist l')(pos:∀ y∈l',0<=val f y):sS f l<=sS f l':=by
 induction h with
 | slnil=>exact Oa
 | @cons l₁ l₂ a _ ih=>
  have h1:=ih λy hy=>pos y (MU _ hy)
  have h2:0<=(f a.nm).getD 0:=pos a MS
  show sS f l₁<=(f a.nm).getD 0+sS f l₂
  grind
 | @cons_cons l₁ l₂ a _ ih=>
  have h1:=ih λy hy=>pos y (MU _ hy)
  show (f a.nm).getD 0+sS f l₁<=(f a.nm).getD 0+sS f l₂
  grind
theorem qW {ws:List WE}{ss tt:List SE}{f g:Fm}(F:FE ws ss f)(G:FE ws tt g)(sub:ss.Sublist tt){a b:Rat}(ha:da a (ss.map (val f)))(hb:da b (tt.map (val g))):b<=a:=by
 refine Oc λz=>?_
 have lt:a < b:=RS.mp z
 obtain ⟨s,hs,es⟩:=M3.mp ha.1
 have low:∀ y∈ss,b<=val g y:=λy hy=>hb.2 _ (M3.mpr ⟨y,sub.subset hy,rfl⟩)
 rcases F.d s hs with e | ⟨w,hw,h1,h2,h3⟩
 ·have l1:=G.m s (sub.subset hs)
  have l2:=low s hs
  rw[← e,es] at l1
  exact absurd (Nq l2 l1) z
 ·have on:∀ y∈onL w.nm ss,y∈ss:=λs hs=>(M8.mp hs).1
  have le:∀ y∈onL w.nm ss,val f y < val g y:=λy hy=>by
   have l1:=h3 y hy
   have l2:=low y (on y hy)
   rw[es] at l1
   grind
  have k1:=(Bj λy hy=>OZ (le y hy)).2 ⟨s,M8.mpr ⟨hs,decide_eq_true h1⟩,le s (M8.mpr ⟨hs,decide_eq_true h1⟩)⟩
  have k2:sS g (onL w.nm ss)<=sS g (onL w.nm tt):=HU (sub.filter _) λy hy=>(G.l y (M8.mp hy).1).1
  have k3:=G.c w hw
  rw[h2] at k1
  grind
def kyW (w:WE):Str×Int:=(w.nm,w.pc)
def kyS (s:SE):Str×Str×List Str×Int×Int:=(s.nm,s.r0,s.rd,s.bt,s.lim)
theorem pB {α β:Type}{f:α->β}{xs ys:List α}(h:xs.map f=ys.map f){x:α}(hx:x∈xs):∃ y∈ys,f y=f x:=by
 have:f x∈ys.map f:=by rw[← h];exact M3.mpr ⟨x,hx,rfl⟩
 exact M3.mp this
theorem A8 {s t:SE}(h:kyS s=kyS t):s.nm=t.nm/\s.road=t.road/\s.bC=t.bC:=by
 simp only[kyS,Qa] at h
 obtain ⟨h1,h2,h3,h4,h5⟩:=h
 exact ⟨h1,by unfold SE.road;rw[h2,h3],by unfold SE.bC;rw[h4,h5]⟩
theorem pZ {f:Fm}{n:Str}:∀ {ss ss':List SE},ss'.map kyS=ss.map kyS->sS f (onL n ss')=sS f (onL n ss)
 | [],[],_=>rfl
 | [],_::_,h=>by cases h
 | _::_,[],h=>by cases h
 | s::r,s'::r',h=>by
  obtain ⟨h1,h2⟩:=Ri h
  obtain ⟨e1,e2,_⟩:=A8 h1
  have ih:=pZ (f:=f) (n:=n) h2
  unfold onL at ih ⊢
  rw[Ot,Ot,e2]
  by_cases q:n∈s.road
  ·rw[if_pos (decide_eq_true q),if_pos (decide_eq_true q)]
   show (f s'.nm).getD 0+_=(f s.nm).getD 0+_
   rw[e1,ih]
  ·rw[if_neg (by simpa using q),if_neg (by simpa using q)]
   exact ih
theorem Dd {ws ws':List WE}{ss ss':List SE}{f:Fm}(F:FE ws' ss' f)(P:PE' ws ss)(hw:ws'.map kyW=ws.map kyW)(hs:ss'.map kyS=ss.map kyS):FE ws ss f:=by
 have get:∀ s∈ss,∃ s'∈ss',s'.nm=s.nm/\s'.road=s.road/\s'.bC=s.bC:=λs h=>by
  obtain ⟨y,hy,e⟩:=pB hs.symm h
  exact ⟨y,hy,A8 e⟩
 have vl:∀ {s s':SE},s'.nm=s.nm->val f s'=val f s:=λe=>by unfold val;rw[e]
 refine ⟨P,λs h=>?_,λs h=>?_,λs h=>?_,λs h=>?_,λw h=>?_,λs h=>?_⟩
 ·obtain ⟨y,hy,e,_⟩:=get s h;rw[← e];exact F.a y hy
 ·obtain ⟨y,hy,e,_⟩:=get s h;rw[← vl e];exact F.i y hy
 ·obtain ⟨y,hy,e,_⟩:=get s h;rw[← vl e];exact F.l y hy
 ·obtain ⟨y,hy,e,_,e3⟩:=get s h;rw[← vl e,← e3];exact F.m y hy
 ·obtain ⟨y,hy,e⟩:=pB hw.symm h
  simp only[kyW,Qa] at e
  rw[← pZ hs,← e.1,← e.2]
  exact F.c y hy
 ·obtain ⟨y,hy,e,e2,e3⟩:=get s h
  rcases F.d y hy with q | ⟨w,hw',h1,h2,h3⟩
  ·left;rw[← vl e,q,e3]
  ·obtain ⟨v,hv,ev⟩:=pB hw hw'
   simp only[kyW,Qa] at ev
   refine .inr ⟨v,hv,by rw[ev.1,← e2];exact h1,by rw[ev.1,ev.2,← pZ hs];exact h2,λz hz=>?_⟩
   obtain ⟨z1,z2⟩:=M8.mp hz
   obtain ⟨x,hx,g1,g2,_⟩:=get z z1
   rw[← vl g1,← vl e]
   refine h3 x (M8.mpr ⟨hx,?_⟩)
   rw[g2,← ev.1]
   exact z2
theorem Ao {ws:List WE}{ss:List SE}{f:Fm}{n:WE}(F:FE (n::ws) ss f)(P:PE' ws ss)(hn:n.nm ∉ ws.map WE.nm):FE ws ss f:=by
 refine ⟨P,F.a,F.i,F.l,F.m,λw h=>F.c w (MU _ h),λs h=>?_⟩
 rcases F.d s h with q | ⟨w,hw,h1,h2⟩
 ·exact .inl q
 ·rcases MY.mp hw with rfl | hw
  ·exact absurd ((P.rd s h).subset h1) hn
  ·exact .inr ⟨w,hw,h1,h2⟩
theorem Dx {f:Fm}{l l':List SE}(p:l.Perm l'):sS f l=sS f l':=by
 induction p with
 | nil=>rfl
 | cons x _ ih=>show (f x.nm).getD 0+_=(f x.nm).getD 0+_;rw[ih]
 | swap x y l=>show (f y.nm).getD 0+((f x.nm).getD 0+_)=(f x.nm).getD 0+((f y.nm).getD 0+_);grind
 | trans _ _ h1 h2=>exact h1.trans h2
theorem Er {ws:List WE}{ss tt:List SE}{f:Fm}(F:FE ws ss f)(P:PE' ws tt)(p:ss.Perm tt):FE ws tt f:=by
 have m:∀ s∈tt,s∈ss:=λs h=>p.mem_iff.mpr h
 have e:∀ n,sS f (onL n ss)=sS f (onL n tt):=λn=>Dx (p.filter _)
 refine ⟨P,λs h=>F.a s (m s h),λs h=>F.i s (m s h),λs h=>F.l s (m s h),λs h=>F.m s (m s h),λw h=>by rw[← e];exact F.c w h,λs h=>?_⟩
 rcases F.d s (m s h) with q | ⟨w,hw,h1,h2,h3⟩
 ·exact .inl q
 ·exact .inr ⟨w,hw,h1,by rw[← e];exact h2,λy hy=>h3 y ((p.filter _).mem_iff.mpr hy)⟩
def kz (f:Fm)(s:SE):List Str×Rat×Option Rat:=(s.road,s.bC,f s.nm)
theorem FZ {f g:Fm}{s t:SE}(h:kz g t=kz f s):t.road=s.road/\t.bC=s.bC/\g t.nm=f s.nm:=by
 simpa only[kz,Qa] using h
theorem uQ {f g:Fm}{n:Str}:∀ {ss tt:List SE},tt.map (kz g)=ss.map (kz f)->sS g (onL n tt)=sS f (onL n ss)
 | [],[],_=>rfl
 | [],_::_,h=>by cases h
 | _::_,[],h=>by cases h
 | s::r,t::u,h=>by
  obtain ⟨h1,h2⟩:=Ri h
  obtain ⟨e1,_,e3⟩:=FZ h1
  have ih:=uQ (n:=n) h2
  unfold onL at ih ⊢
  rw[Ot,Ot,e1]
  by_cases q:n∈s.road
  ·rw[if_pos (decide_eq_true q),if_pos (decide_eq_true q)]
   show (g t.nm).getD 0+_=(f s.nm).getD 0+_
   rw[e3,ih]
  ·rw[if_neg (by simpa using q),if_neg (by simpa using q)]
   exact ih
theorem G3 {f g:Fm}{ss tt:List SE}(h:tt.map (kz g)=ss.map (kz f)){s:SE}(hs:s∈ss):∃ t∈tt,kz g t=kz f s:=by
 have:kz f s∈tt.map (kz g):=by rw[h];exact M3.mpr ⟨s,hs,rfl⟩
 exact M3.mp this
theorem IL {ws:List WE}{ss tt:List SE}{f g:Fm}(F:FE ws tt g)(P:PE' ws ss)(h:tt.map (kz g)=ss.map (kz f)):FE ws ss f:=by
 have get:∀ s∈ss,∃ t∈tt,t.road=s.road/\t.bC=s.bC/\g t.nm=f s.nm:=λs hs=>by
  obtain ⟨t,ht,e⟩:=G3 h hs
  exact ⟨t,ht,FZ e⟩
 have vl:∀ {s t:SE},g t.nm=f s.nm->val g t=val f s:=λe=>by unfold val;rw[e]
 refine ⟨P,λs hs=>?_,λs hs=>?_,λs hs=>?_,λs hs=>?_,λw hw=>?_,λs hs=>?_⟩
 ·obtain ⟨y,hy,_,_,e⟩:=get s hs;rw[← e];exact F.a y hy
 ·obtain ⟨y,hy,_,_,e⟩:=get s hs;rw[← vl e];exact F.i y hy
 ·obtain ⟨y,hy,_,_,e⟩:=get s hs;rw[← vl e];exact F.l y hy
 ·obtain ⟨y,hy,_,e3,e⟩:=get s hs;rw[← vl e,← e3];exact F.m y hy
 ·rw[← uQ h];exact F.c w hw
 ·obtain ⟨y,hy,e2,e3,e⟩:=get s hs
  rcases F.d y hy with q | ⟨w,hw',h1,h2,h3⟩
  ·left;rw[← vl e,q,e3]
  ·refine .inr ⟨w,hw',by rw[← e2];exact h1,by rw[← uQ h];exact h2,λz hz=>?_⟩
   obtain ⟨z1,z2⟩:=M8.mp hz
   obtain ⟨x,hx,g1,_,g3⟩:=get z z1
   rw[← vl g3,← vl e]
   exact h3 x (M8.mpr ⟨hx,by rw[g1];exact z2⟩)
theorem xB:∀ {es:List (L2.Key×D)},(es.map (·.1)).Nodup->∀ y∈es,aU es y.1=some y.2
 | [],_,y,h=>nomatch h
 | x::r,nd,y,h=>by
  rw[Ni] at nd
  obtain ⟨n1,n2⟩:=NB.mp nd
  unfold aU
  rw[NC]
  rcases MY.mp h with rfl | h
  ·simp
  ·have ne:x.1≠y.1:=λe=>n1 (by rw[e];exact M3.mpr ⟨y,h,rfl⟩)
   have ih:=xB n2 y h
   unfold aU at ih
   simp[ne,ih]
theorem i8 {es:List (L2.Key×D)}:∀ {ds:List (L2.Key×D)},(∀ y∈ds,aU es y.1=some y.2/\okD 38 y.2=true)->lK es ds=true
 | [],_=>rfl
 | y::r,h=>by
  obtain ⟨h1,h2⟩:=h y MS
  unfold lK
  rw[h1]
  show (eqD y.2 y.2&&lK es r)=true
  rw[sk 38 y.2 h2,i8 λz hz=>h z (MU _ hz)]
  rfl
theorem Jw {ds es:List (L2.Key×D)}(hl:ds.length=es.length)(h:∀ y∈ds,aU es y.1=some y.2/\okD 38 y.2=true):eqK ds es=true:=by
 unfold eqK
 rw[i8 h,hl]
 simp
theorem qV {ds es:List (L2.Key×D)}(p:ds.Perm es)(nd:(es.map (·.1)).Nodup)(ok:∀ y∈ds,okD 38 y.2=true):eqK ds es=true:=
 Jw p.length_eq λy hy=>⟨xB nd y (p.mem_iff.mp hy),ok y hy⟩
end L3
namespace Kk
local macro_rules | `(tactic| walk_at "ln")=>`(tactic| (intro ds μ Q h;split at h;rfl;exact h.elim))
open PySem L3
theorem ER (ρ:ST)(μ:Mu)(Q:DK):xp ρ μ Q = ∀ p,μ p=none->Q (.obj p) (up μ p (.dct [])):=propext MT
theorem y4 (a:Addr)(μ:Mu)(Q:DK):kP GJ [.obj a] μ Q=kD μ a λkvs=>∀ p,μ p=none->Q (.obj p) (up μ p (.dct kvs)):=propext MT
theorem DC (a:ETr)(ρ:ST)(μ:Mu)(Q:List D->Mu->Prop):wc (ag a ar) ρ μ Q=a ρ μ λx μ1=>kS x λds=>Q (gW ds) μ1:=propext MT
theorem Ey (a:Addr)(μ:Mu)(Q:DK):kP xf [.obj a] μ Q=kD μ a λkvs=>Q (.int kvs.length) μ:=propext MT
theorem LX (x:Rat)(μ:Mu)(Q:DK):L3.rIx (frR x) (.int 0) μ Q=Q (.int x.num) μ:=propext MT
theorem L5 (x:Rat)(μ:Mu)(Q:DK):L3.rIx (frR x) (.int 1) μ Q=Q (.int x.den) μ:=propext MT
def Mj:=Jn @Hq <| Jn @Jk <| Jn @Jh <| Jn @Hn <| Jn @GQ <| Jn @Kw <| Jn @L1 <| Jn @L0 <| Jn @L9 <| Jn @LL <| Jn @LF <| Jn @Md <| Jn @My <| Jn @Mb <| Jn @ER <| Jn @Ey <| Jn @LX <| Jn @L5 <| Jn @y4 <| Jn @DC <| Jn @Dq <| Jn @Az <| Jn @C8 <| Jn @IJ <| Jn @Dz <| Jn @GX <| Jn @IV <| Jn @GP <| Jn @DH <| Jn @Gb <| Jn @HX <| Jn @Ln <| Jn @El <| @K1
local macro_rules | `(tactic| walk_at "go")=>zzS "↓Kk.Mj ↓L3.JW ↓L3.KC ↓L3.JU ↓L3.Kc ↓L3.Kt ↓L3.Kf ↓L3.wj ↓L3.kC L3.dO L3.cT L3.d7 L3.eu L3.dU L3.d9 L3.eX L3.eV L3.cW L3.dY L3.dQ L3.dG L3.dX L3.fb L3.eC L3.eP L3.dZ L3.fk L3.dN L3.e8 L3.qi L3.fu List.map_cons List.map_nil List.replicate List.cons_append List.nil_append L3.lk L3.JO L3.Ka L3.He L3.Gq L3.xk L3.r8 L3.FH L3.FO L3.FY L3.FL L3.w8 L3.zl L3.Cg L3.w6 L3.xh L3.wA L3.wH true_and and_true and_self Bool.not_true Bool.not_false decide_true decide_false Bool.or_true Bool.or_false Bool.true_or Bool.false_or Bool.and_false Bool.false_and Bool.and_true Bool.true_and Int.reduceToNat Int.reducePow Int.reduceNeg Int.reduceSub Int.reduceAdd Int.reduceMul Int.reduceEq Int.reduceLT Int.reduceLE Int.reduceBEq L3.oh L3.iO L3.iD L3.iS L3.iM L3.iZ L3.iW L3.iE if_true if_false Bool.false_eq_true reduceCtorEq decide_eq_true_eq"
local macro_rules | `(tactic| walk_at "ok")=>`(tactic| (simp only[L3.eM,L3.MulOk,L3.S64,L3.ei,L3.oG] at *;omega))
local macro_rules | `(tactic| walk_at "ini")=>`(tactic| simp only[ini,List.map,List.length,List.replicate,Nat.reduceSub,Nat.reduceAdd,Nat.sub_self,List.cons_append,List.nil_append,List.append_nil])
def kh:FSp:=λds μ Q=>kcA ds λd1 ds=>kcA ds λd2 ds=>kcN ds (∃ (r x:Rat) (k:Int),(d1=frR r/\d2=fr k 1/\BR r/\0 < k/\k<=8/\x*(k:Rat)=r)/\Q (frR x) μ)
theorem Bl:∀ ds μ Q,kh ds μ Q->ds.length=2:=λ_ _ _ h=>lcA h λ_ _ h=>lcA h λ_ _ h=>by rw[(ecN h).1];rfl
def BJ:STr:=a5 (aq L3.eW (ag (ak bX (ak L3.rIx (ah 0) (TC (.int 0))) (ak L3.rIx (ah 1) (TC (.int 1)))) (ag (ak bX (ak L3.rIx (ah 0) (TC (.int 1))) (ak L3.rIx (ah 1) (TC (.int 0)))) (ar))))
theorem DO:∀ ds μ Q,kh ds μ Q->BJ { nx:=λ_ μ'=>RT Q .non μ',rt:=RT Q } (ini 2 ds) μ:=by
 intro ds μ Q h
 replace h:=ecA h
 obtain ⟨d1,ds,rfl,h⟩:=h
 replace h:=ecA h
 obtain ⟨d2,ds,rfl,h⟩:=h
 replace h:=ecN h
 obtain ⟨rfl,h⟩:=h
 walk_at "ini"
 unfold BJ
 walk_at "go"
 obtain ⟨r,x,n,⟨rfl,rfl,B,k0,k1,e⟩,k⟩:=h
 walk_at "go"
 have d0:0 < (r.den:Int):=by have:=r.den_pos;omega
 have bk:Bd n:=Le.of (by omega) (by omega)
 refine ⟨.inl (.inr (by unfold S64;decide)),B.d.mul bk,⟨by have:=Oq d0 k0;omega,B.d.mm bk⟩,λp q hp=>?_⟩
 rw[show D.tup [.int p,.int q]=frR x from Eo (wV hp (Oq d0 k0)) e]
 exact ⟨_,.refl _,k⟩
def dr:FSp:=λds μ Q=>kcA ds λd ds=>kcN ds (∃ R:RN,(R.Ok/\d=R.toD)/\Q (.int (R.r / R.s)) μ)
theorem pV:∀ ds μ Q,dr ds μ Q->ds.length=1:=λ_ _ _ h=>lcA h λ_ _ h=>by rw[(ecN h).1];rfl
def mF:STr:=a5 (aq L3.dj (ag (aq L3.gr (ag (ah 0) (ar))) (ar)))
theorem sX:∀ ds μ Q,dr ds μ Q->mF { nx:=λ_ μ'=>RT Q .non μ',rt:=RT Q } (ini 1 ds) μ:=by
 intro ds μ Q h
 replace h:=ecA h
 obtain ⟨d,ds,rfl,h⟩:=h
 replace h:=ecN h
 obtain ⟨rfl,h⟩:=h
 walk_at "ini"
 unfold mF
 walk_at "go"
 obtain ⟨R,⟨K,rfl⟩,k⟩:=h
 refine ⟨R,⟨K,rfl⟩,?_⟩
 walk_at "go"
 refine ⟨R.r,R.s,⟨IG K.t,Le.of (by have:=K.t.q0;omega) (by have:=K.t.q1;omega)⟩,?_⟩
 exact ⟨_,.refl _,k⟩
def bM:FSp:=λds μ Q=>kcA ds λd ds=>kcN ds (∃ s:SE,(d=s.toD/\s.Ok)/\∀ z,Vl z s.lim s.bt->Q z μ)
theorem j2:∀ ds μ Q,bM ds μ Q->ds.length=1:=λ_ _ _ h=>lcA h λ_ _ h=>by rw[(ecN h).1];rfl
def gK:STr:=a5 (aq L3.eW (ag (aq dr (ag (ak L3.rIx (ah 0) (TC (.int 5))) (ar))) (ag (ak L3.rIx (ah 0) (TC (.int 2))) (ar))))
theorem kA:∀ ds μ Q,bM ds μ Q->gK { nx:=λ_ μ'=>RT Q .non μ',rt:=RT Q } (ini 1 ds) μ:=by
 intro ds μ Q h
 replace h:=ecA h
 obtain ⟨d,ds,rfl,h⟩:=h
 replace h:=ecN h
 obtain ⟨rfl,h⟩:=h
 walk_at "ini"
 unfold gK
 walk_at "go"
 obtain ⟨s,⟨rfl,S⟩,k⟩:=h
 walk_at "go"
 refine ⟨s.R,⟨S.R,rfl⟩,?_⟩
 walk_at "go"
 have b0:=S.b0
 have b1:=S.b1
 refine ⟨⟨by omega,by unfold ei;omega⟩,λp q hp=>?_⟩
 exact ⟨_,.refl _,k _ (wV hp (by omega))⟩
theorem oJ {α:Type}(xs:List α)(P:α->Bool)(t:α->D):(xs.filterMap λx=>if P x then some (t x) else none)=(xs.filter P).map t:=by
 rw[← Sa,List.filterMap_filter]
 rfl
theorem Dm {α:Type}(xs:List α)(P:α->Bool):(!(xs.map λx=>!P x).any id)=xs.all P:=by
 induction xs with
 | nil=>rfl
 | cons x r ih=>
  rw[Ni,O3,List.all_cons,← ih]
  cases P x<;>rfl
def cp:FSp:=λds μ Q=>kcA ds λd ds=>kcS ds λn ds=>kcN ds (∃ (g:D) (ws:List WE) (ss:List SE),(d=ba g ws ss/\M7 n=true/\PE' ws ss)/\Q (.ls ((onL n ss).map SE.toD)) μ)
theorem md:∀ ds μ Q,cp ds μ Q->ds.length=2:=λ_ _ _ h=>lcA h λ_ _ h=>lcS h λ_ _ h=>by rw[(ecN h).1];rfl
def hX:STr:=a5 (bS (dh (ak L3.rIx (ah 0) (TC (.int 2)))) (aw 0) (TB (ak (tZ false) (ah 1) (ak L3.rIx (ah 0) (TC (.int 1))))) (ah 0) 1 [1])
theorem nE:∀ ds μ Q,cp ds μ Q->hX { nx:=λ_ μ'=>RT Q .non μ',rt:=RT Q } (ini 2 ds) μ:=by
 intro ds μ Q h
 replace h:=ecA h
 obtain ⟨d,ds,rfl,h⟩:=h
 replace h:=ecS h
 obtain ⟨n,ds,rfl,h⟩:=h
 replace h:=ecN h
 obtain ⟨rfl,h⟩:=h
 walk_at "ini"
 unfold hX
 walk_at "go"
 obtain ⟨g,ws,ss,⟨rfl,on,P⟩,k⟩:=h
 have sl:=P.sl
 walk_at "go"
 refine de ss SE.toD (λy=>if decide (n∈y.road) then some y.toD else none) rfl (by omega) (λy hy μ' _ N m=>?_) ?_
 ·walk_at "go"
  rw[pD]
  refine ⟨⟨ki (P.s y hy).r,on⟩,?_⟩
  refine kif (λh=>?_) λh=>?_
  ·rw[decide_eq_true h] at m;exact m
  ·rw[decide_eq_false h] at m;exact m
 rw[oJ]
 exact ⟨_,.refl _,k⟩
theorem jo (f:Fm):∀ ss:List SE,RM (λd e=>D.tup [d,e]) (ss.map SE.toD) (iq f ss)=ss.map λs=>.tup [s.toD,.tup [.str s.nm,frR (val f s)]]
 | []=>rfl
 | s::r=>by
  show D.tup [s.toD,.tup [.str s.nm,frR (val f s)]]::RM (λd e=>D.tup [d,e]) (r.map SE.toD) (iq f r)=_
  rw[jo f r];rfl
def b8:FSp:=λds μ Q=>kcA ds λd ds=>kcT ds λrs ds=>kcS ds λn ds=>kcN ds (∃ (g:D) (ws:List WE) (ss:List SE) (f:Fm),(d=ba g ws ss/\rs=iq f ss/\M7 n=true/\PE' ws ss)/\Q (.ls ((onL n ss).map λs=>frR (val f s))) μ)
theorem ny:∀ ds μ Q,b8 ds μ Q->ds.length=3:=λ_ _ _ h=>lcA h λ_ _ h=>lcT h λ_ _ h=>lcS h λ_ _ h=>by rw[(ecN h).1];rfl
def jM:STr:=a5 (bS (wy (ag (ak L3.rIx (ah 0) (TC (.int 2))) (ag (ah 1) (ar)))) (dR [0,1]) (TB (ak (tZ false) (ah 2) (ak L3.rIx (ah 0) (TC (.int 1))))) (ak L3.rIx (ah 1) (TC (.int 1))) 2 [2])
theorem pA:∀ ds μ Q,b8 ds μ Q->jM { nx:=λ_ μ'=>RT Q .non μ',rt:=RT Q } (ini 3 ds) μ:=by
 intro ds μ Q h
 replace h:=ecA h
 obtain ⟨d,ds,rfl,h⟩:=h
 replace h:=ecT h
 obtain ⟨rs,ds,rfl,h⟩:=h
 replace h:=ecS h
 obtain ⟨n,ds,rfl,h⟩:=h
 replace h:=ecN h
 obtain ⟨rfl,h⟩:=h
 walk_at "ini"
 unfold jM
 walk_at "go"
 obtain ⟨g,ws,ss,f,⟨rfl,rfl,on,P⟩,k⟩:=h
 walk_at "go"
 rw[jo]
 have sl:=P.sl
 refine de ss (λs=>.tup [s.toD,.tup [.str s.nm,frR (val f s)]]) (λs=>if decide (n∈s.road) then some (frR (val f s)) else none) rfl (by omega) (λs hs μ' _ N m=>?_) ?_
 ·have S:=P.s s hs
  walk_at "go"
  rw[pD]
  refine ⟨⟨ki S.r,on⟩,?_⟩
  refine kif (λh=>?_) λh=>?_
  ·rw[decide_eq_true h] at m;exact m
  ·rw[decide_eq_false h] at m;exact m
 ·rw[oJ]
  exact ⟨_,.refl _,k⟩
theorem gk (f:Fm)(s:SE)(r:List SE):cS f (s::r)=(if f s.nm=none then 1 else 0)+cS f r:=rfl
theorem wb (f:Fm)(s:SE)(r:List SE):sS f (s::r)=val f s+sS f r:=rfl
def gy:FSp:=λds μ Q=>kcA ds λd ds=>kcT ds λrs ds=>kcS ds λn ds=>kcN ds (∃ (g:D) (ws:List WE) (ss:List SE) (f:Fm),(d=ba g ws ss/\rs=iq f ss/\M7 n=true/\FE ws ss f)/\Q (frR (sS f (onL n ss))) μ)
theorem vp:∀ ds μ Q,gy ds μ Q->ds.length=3:=λ_ _ _ h=>lcA h λ_ _ h=>lcT h λ_ _ h=>lcS h λ_ _ h=>by rw[(ecN h).1];rfl
def sM:STr:=aG (aQ (TC (.tup [.int 0,.int 1])) (aw 3)) (aG (fK (dh (aq b8 (ag (ah 0) (ag (ah 1) (ag (ah 2) (ar)))))) (aw 4) (aQ (aq L3.kf (ag (ah 3) (ag (ah 4) (ar)))) (aw 3))) (a5 (ah 3)))
theorem yh:∀ ds μ Q,gy ds μ Q->sM { nx:=λ_ μ'=>RT Q .non μ',rt:=RT Q } (ini 5 ds) μ:=by
 intro ds μ Q h
 replace h:=ecA h
 obtain ⟨d,ds,rfl,h⟩:=h
 replace h:=ecT h
 obtain ⟨rs,ds,rfl,h⟩:=h
 replace h:=ecS h
 obtain ⟨n,ds,rfl,h⟩:=h
 replace h:=ecN h
 obtain ⟨rfl,h⟩:=h
 walk_at "ini"
 unfold sM
 walk_at "go"
 obtain ⟨g,ws,ss,f,⟨rfl,rfl,on,F⟩,k⟩:=h
 have P:=F.P
 walk_at "go"
 refine ⟨g,ws,ss,f,⟨rfl,rfl,on,P⟩,?_⟩
 walk_at "go"
 have ol:(onL n ss).length<=ss.length:=OA _ _
 have sl:=P.sl
 have d8:=gw (c:=8) (M0 _)
 refine bz (λr ρ μ'=>∃ (xs:List SE) (t:Rat) (j:Nat) (v4:Option D),r=xs.map (λs=>frR (val f s))/\(∀ s∈xs,s∈ss)/\ρ=[some (ba g ws ss),some (.tup (iq f ss)),some (.str n),some (frR t),v4]/\μ'=μ/\SmR (eh 8) t j/\j+xs.length<=8/\t+sS f xs=sS f (onL n ss)) ?_ ?_ _ _ _ ⟨onL n ss,0,0,_,rfl,(λs hs=>(M8.mp hs).1),by rw[show (D.tup [.int 0,.int 1])=frR 0 from vF 0],rfl,SmR.zero,by omega,by rw[T5]⟩
 ·rintro ρ μ' ⟨xs,t,j,v4,er,_,rfl,rfl,S,_,e⟩
  cases xs with
  | cons _ _=>cases er
  | nil=>
  have e:t+0=sS f (onL n ss):=e
  rw[RR] at e
  rw[← e] at k
  walk_at "go"
  exact ⟨_,.refl _,k⟩
 ·rintro d r ρ μ' N ⟨xs,t,j,v4,er,hx,rfl,rfl,S,hj,e⟩ hN
  cases xs with
  | nil=>cases er
  | cons s xs=>
  cases er
  rw[Nk] at hj
  rw[wb] at e
  have hs:=hx s MS
  have B:=F.br hs
  have T:=S.br (cj 8) d8 (by omega)
  walk_at "go"
  refine ⟨t.num,t.den,(val f s).num,(val f s).den,⟨⟨vlN t,vlN _⟩,T.n,T.d,B.n,B.d⟩,λz V=>?_⟩
  rw[Jg V]
  exact hN _ _ ⟨xs,t+val f s,j+1,_,rfl,(λy hy=>hx y (MU _ hy)),rfl,rfl,S.add (F.i s hs) (F.l s hs).1 (F.l s hs).2,by omega,by rw[← e,Rat.add_assoc]⟩
theorem Fb {ws:List WE}{w:WE}(nd:(ws.map WE.nm).Nodup)(hw:w∈ws):(ws.filter λy=>decide (y.nm=w.nm)).map (λw=>D.int w.pc)=[.int w.pc]:=by
 induction ws with
 | nil=>cases hw
 | cons y r ih=>
  rw[Ni] at nd
  obtain ⟨h1,h2⟩:=NB.mp nd
  rw[Ot]
  rcases MY.mp hw with rfl | z
  ·rw[if_pos (decide_eq_true rfl),RU.mpr λx hx q=>h1 (M3.mpr ⟨x,hx,of_decide_eq_true q⟩)]
   rfl
  ·rw[if_neg λq=>h1 (by rw[of_decide_eq_true q];exact M3.mpr ⟨w,z,rfl⟩)]
   exact ih h2 z
def eZ:FSp:=λds μ Q=>kcA ds λd ds=>kcT ds λrs ds=>kcS ds λn ds=>kcN ds (∃ (g:D) (ws:List WE) (ss:List SE) (f:Fm) (w:WE),(d=ba g ws ss/\rs=iq f ss/\FE ws ss f/\w∈ws/\n=w.nm)/\Q (.bl (decide (sS f (onL n ss)=(w.pc:Rat)))) μ)
theorem qR:∀ ds μ Q,eZ ds μ Q->ds.length=3:=λ_ _ _ h=>lcA h λ_ _ h=>lcT h λ_ _ h=>lcS h λ_ _ h=>by rw[(ecN h).1];rfl
def og:STr:=aG (aQ (ak L3.rIx (bS (dh (ak L3.rIx (ah 0) (TC (.int 1)))) (aw 0) (TB (ak rEq (ak L3.rIx (ah 0) (TC (.int 0))) (ah 1))) (ak L3.rIx (ah 0) (TC (.int 1))) 1 [2]) (TC (.int 0))) (aw 3)) (a5 (ak rEq (aq gy (ag (ah 0) (ag (ah 1) (ag (ah 2) (ar))))) (a7 (ag (ah 3) (ag (TC (.int 1)) (ar))))))
theorem vc:∀ ds μ Q,eZ ds μ Q->og { nx:=λ_ μ'=>RT Q .non μ',rt:=RT Q } (ini 4 ds) μ:=by
 intro ds μ Q h
 replace h:=ecA h
 obtain ⟨d,ds,rfl,h⟩:=h
 replace h:=ecT h
 obtain ⟨rs,ds,rfl,h⟩:=h
 replace h:=ecS h
 obtain ⟨n,ds,rfl,h⟩:=h
 replace h:=ecN h
 obtain ⟨rfl,h⟩:=h
 walk_at "ini"
 unfold og
 walk_at "go"
 obtain ⟨g,ws,ss,f,w,⟨rfl,rfl,F,hw,rfl⟩,k⟩:=h
 have P:=F.P
 have wl:=P.wl
 walk_at "go"
 refine de ws WE.toD (λy=>if decide (y.nm=w.nm) then some (D.int y.pc) else none) rfl (by omega) (λy hy μ' _ N m=>?_) ?_
 ·walk_at "go"
  refine ⟨⟨(P.w y hy).n,(P.w w hw).n⟩,?_⟩
  refine kif (λh=>?_) λh=>?_
  ·rw[decide_eq_true h] at m;exact m
  ·rw[decide_eq_false h] at m;exact m
 rw[oJ,Fb P.wn hw]
 walk_at "go"
 refine ⟨g,ws,ss,f,⟨rfl,rfl,(P.w w hw).n,F⟩,?_⟩
 walk_at "go"
 refine ⟨rfl,?_⟩
 rw[show (D.tup [.int w.pc,.int 1])=frR (w.pc:Rat) from vF _,uE]
 exact ⟨_,.refl _,k⟩
theorem Aa:M7 (MK "")=true:=by decide +kernel
def BU (ss:List SE)(f:Fm)(s:SE)(w:WE):Bool:=decide (sS f (onL w.nm ss)=(w.pc:Rat))&&(onL w.nm ss).all λt=>decide (val f t<=val f s)
def m9 (ws:List WE)(ss:List SE)(f:Fm)(s:SE)(y:Str):Bool:=if y=MK "" then decide (val f s=s.bC) else match ws.find? λw=>decide (w.nm=y) with
 | some w=>BU ss f s w
 | none=>false
def gm:FSp:=λds μ Q=>kcA ds λd ds=>kcT ds λrs ds=>kcA ds λsd ds=>kcA ds λsh ds=>kcS ds λy ds=>kcN ds (∃ (g:D) (ws:List WE) (ss:List SE) (f:Fm) (s:SE),(d=ba g ws ss/\rs=iq f ss/\FE ws ss f/\s∈ss/\sd=s.toD/\sh=frR (val f s)/\(y=MK "" ∨ y∈s.road))/\Q (.bl (m9 ws ss f s y)) μ)
theorem t8:∀ ds μ Q,gm ds μ Q->ds.length=5:=λ_ _ _ h=>lcA h λ_ _ h=>lcT h λ_ _ h=>lcA h λ_ _ h=>lcA h λ_ _ h=>lcS h λ_ _ h=>by rw[(ecN h).1];rfl
def rV:STr:=aG (df (TB (ak rEq (ah 4) (TC (.str "")))) (a5 (ak rEq (ah 3) (aq bM (ag (ah 2) (ar))))) (bT)) (aG (df (TOr (TB (ak (tZ true) (ah 4) (ak L3.rIx (ah 2) (TC (.int 1))))) (tw (TB (aq eZ (ag (ah 0) (ag (ah 1) (ag (ah 4) (ar)))))))) (a5 (TC (.bl false))) (bT)) (a5 (nW (aq G2 (ag (bS (dh (aq b8 (ag (ah 0) (ag (ah 1) (ag (ah 4) (ar)))))) (aw 0) (j1) (aq L3.ja (ag (ah 1) (ag (ah 0) (ar)))) 1 [3]) (ar))))))
theorem yS:∀ ds μ Q,gm ds μ Q->rV { nx:=λ_ μ'=>RT Q .non μ',rt:=RT Q } (ini 5 ds) μ:=by
 intro ds μ Q h
 replace h:=ecA h
 obtain ⟨d,ds,rfl,h⟩:=h
 replace h:=ecT h
 obtain ⟨rs,ds,rfl,h⟩:=h
 replace h:=ecA h
 obtain ⟨sd,ds,rfl,h⟩:=h
 replace h:=ecA h
 obtain ⟨sh,ds,rfl,h⟩:=h
 replace h:=ecS h
 obtain ⟨y,ds,rfl,h⟩:=h
 replace h:=ecN h
 obtain ⟨rfl,h⟩:=h
 walk_at "ini"
 unfold rV
 walk_at "go"
 obtain ⟨g,ws,ss,f,s,⟨rfl,rfl,F,hs,rfl,rfl,hy⟩,k⟩:=h
 have P:=F.P
 have S:=P.s s hs
 have sl:=P.sl
 have oy:M7 y=true:=by
  rcases hy with rfl | h
  ·exact Aa
  ·exact S.r y h
 refine ⟨⟨oy,Aa⟩,?_⟩
 unfold m9 at k
 refine kif (λh=>?_) λh=>?_
 ·rw[if_pos h] at k
  walk_at "go"
  refine ⟨s,⟨rfl,S⟩,λz V=>?_⟩
  rw[zp S V]
  walk_at "go"
  refine ⟨⟨rfl,rfl⟩,?_⟩
  rw[uE]
  exact ⟨_,.refl _,k⟩
 ·rw[if_neg h] at k
  have hr:=hy.resolve_left h
  obtain ⟨w,hw,rfl⟩:=P.all s hs y hr
  rw[eS WE.nm P.wn hw] at k
  have k:Q (.bl (BU ss f s w)) μ:=k
  unfold BU at k
  walk_at "go"
  rw[pD,decide_eq_true hr]
  refine ⟨⟨ki S.r,oy⟩,?_⟩
  walk_at "go"
  refine ⟨g,ws,ss,f,w,⟨rfl,rfl,F,hw,rfl⟩,?_⟩
  walk_at "go"
  by_cases e:sS f (onL w.nm ss)=(w.pc:Rat)
  ·rw[decide_eq_true e] at k ⊢
   walk_at "go"
   refine ⟨g,ws,ss,f,⟨rfl,rfl,oy,P⟩,?_⟩
   walk_at "go"
   have ol:(onL w.nm ss).length<=ss.length:=OA _ _
   have on:∀ t∈onL w.nm ss,t∈ss:=λt ht=>(M8.mp ht).1
   refine b7 (onL w.nm ss) (λt=>frR (val f t)) (λt=>.bl (!decide (val f t<=val f s))) rfl (by omega) (λt ht μ' _ N m=>?_) ?_
   ·walk_at "go"
    have B:=F.br (on t ht)
    have B':=F.br hs
    refine ⟨(val f s).num,(val f s).den,(val f t).num,(val f t).den,⟨⟨vlN _,vlN _⟩,B'.n,B'.d,B.n,B.d⟩,?_⟩
    rw[vI,show decide (val f s < val f t) = !decide (val f t<=val f s) by rw[← decide_not];exact decide_eq_decide.mpr RS.symm]
    exact m
   ·refine ⟨(onL w.nm ss).map λt=>!decide (val f t<=val f s),by rw[NL];rfl,?_⟩
    walk_at "go"
    rw[Dm]
    exact ⟨_,.refl _,k⟩
  ·rw[decide_eq_false e] at k ⊢
   walk_at "go"
   exact ⟨_,.refl _,k⟩
def cx:FSp:=λds μ Q=>kcL ds λzs ds=>kcN ds (∃ xs:List Rat,(zs=xs.map frR/\xs≠[]/\∀ x∈xs,BR x)/\Q (frR (gB xs)) μ)
theorem qA:∀ ds μ Q,cx ds μ Q->ds.length=1:=λ_ _ _ h=>lcL h λ_ _ h=>by rw[(ecN h).1];rfl
def mB:STr:=aG (aQ (ak L3.rIx (ah 0) (TC (.int 0))) (aw 1)) (aG (fK (dh (ah 0)) (aw 2) (df (TB (aq L3.ja (ag (ah 2) (ag (ah 1) (ar))))) (aQ (ah 2) (aw 1)) (bT))) (a5 (ah 1)))
theorem rS:∀ ds μ Q,cx ds μ Q->mB { nx:=λ_ μ'=>RT Q .non μ',rt:=RT Q } (ini 3 ds) μ:=by
 intro ds μ Q h
 replace h:=ecL h
 obtain ⟨ds,ds,rfl,h⟩:=h
 replace h:=ecN h
 obtain ⟨rfl,h⟩:=h
 walk_at "ini"
 unfold mB
 walk_at "go"
 obtain ⟨xs,⟨rfl,ne,hB⟩,k⟩:=h
 cases xs with
 | nil=>exact absurd rfl ne
 | cons x r=>
 walk_at "go"
 refine bz (λq ρ μ'=>∃ (ys:List Rat) (m:Rat) (v2:Option D),q=ys.map frR/\(∀ y∈ys,BR y)/\BR m/\ρ=[some (.ls ((x::r).map frR)),some (frR m),v2]/\μ'=μ/\ys.foldl mnR m=gB (x::r)) ?_ ?_ _ _ _ ⟨x::r,x,_,rfl,hB,hB x MS,rfl,rfl,rfl⟩
 ·rintro ρ μ' ⟨ys,m,v2,er,_,_,rfl,rfl,e⟩
  cases ys with
  | cons _ _=>cases er
  | nil=>
  have e:m=gB (x::r):=e
  rw[← e] at k
  walk_at "go"
  exact ⟨_,.refl _,k⟩
 ·rintro d q ρ μ' N ⟨ys,m,v2,er,hy,bm,rfl,rfl,e⟩ hN
  cases ys with
  | nil=>cases er
  | cons y ys=>
  cases er
  have by':=hy y MS
  have hy':=λz hz=>hy z (MU y hz)
  rw[UC] at e
  walk_at "go"
  refine ⟨y.num,y.den,m.num,m.den,⟨⟨vlN _,vlN _⟩,by'.n,by'.d,bm.n,bm.d⟩,?_⟩
  rw[vI]
  walk_at "go"
  unfold mnR at e
  refine kif (λh=>?_) λh=>?_
  ·rw[if_pos h] at e
   walk_at "go"
   exact hN _ _ ⟨ys,y,_,rfl,hy',by',rfl,rfl,e⟩
  ·rw[if_neg h] at e
   exact hN _ _ ⟨ys,m,_,rfl,hy',bm,rfl,rfl,e⟩
def qp (ss:List SE)(f:Fm)(w:WE):D:=if cS f (onL w.nm ss)=0 then .non else frR (eN ss f w)
def dB:FSp:=λds μ Q=>kcA ds λd ds=>kcA ds λwd ds=>kcO ds λq ds=>kcN ds (∃ (g:D) (ws:List WE) (ss:List SE) (f:Fm) (w:WE) (tab:List (L2.Key×D)) (c:Nat),(d=ba g ws ss/\wd=w.toD/\w∈ws/\FS ws ss f c/\μ q=some (.dct tab)/\zA tab f ss)/\Q (qp ss f w) μ)
theorem pE:∀ ds μ Q,dB ds μ Q->ds.length=3:=λ_ _ _ h=>lcA h λ_ _ h=>lcA h λ_ _ h=>lcO h λ_ _ h=>by rw[(ecN h).1];rfl
def l5:STr:=aG (aQ (a7 (ag (ak L3.rIx (ah 1) (TC (.int 1))) (ag (TC (.int 1)) (ar)))) (aw 3)) (aG (aQ (TC (.int 0)) (aw 4)) (aG (fK (dh (aq cp (ag (ah 0) (ag (ak L3.rIx (ah 1) (TC (.int 0))) (ar))))) (aw 5) (df (TB (uJ false (ak L3.rIx (ah 5) (TC (.int 0))) (ah 2))) (aQ (aq L3.i7 (ag (ah 3) (ag (km (ah 2) (ak L3.rIx (ah 5) (TC (.int 0)))) (ar)))) (aw 3)) (Ex (λm n=>m+n) 4 (TC (.int 1))))) (a5 (rK (TB (ak rEq (ah 4) (TC (.int 0)))) (TC .non) (aq kh (ag (ah 3) (ag (a7 (ag (ah 4) (ag (TC (.int 1)) (ar)))) (ar))))))))
theorem rg:∀ ds μ Q,dB ds μ Q->l5 { nx:=λ_ μ'=>RT Q .non μ',rt:=RT Q } (ini 6 ds) μ:=by
 intro ds μ Q h
 replace h:=ecA h
 obtain ⟨d,ds,rfl,h⟩:=h
 replace h:=ecA h
 obtain ⟨wd,ds,rfl,h⟩:=h
 replace h:=ecO h
 obtain ⟨q,ds,rfl,h⟩:=h
 replace h:=ecN h
 obtain ⟨rfl,h⟩:=h
 walk_at "ini"
 unfold l5
 walk_at "go"
 obtain ⟨g,ws,ss,f,w,tab,c,⟨rfl,rfl,hw,F,eq,T⟩,k⟩:=h
 have P:=F.P
 have W:=P.w w hw
 have sl:=P.sl
 have p0:=W.p0
 have p1:=W.p1
 have cl:c<=8:=by have:=F.n;omega
 have d8:=gw cl
 walk_at "go"
 refine ⟨g,ws,ss,⟨rfl,W.n,P⟩,?_⟩
 walk_at "go"
 have ol:(onL w.nm ss).length<=ss.length:=OA _ _
 rw[show (D.tup [.int w.pc,.int 1])=frR (w.pc:Rat) from vF _]
 refine bz (λr ρ μ'=>∃ (xs:List SE) (t:Rat) (j n:Nat) (v5:Option D),r=xs.map SE.toD/\(∀ s∈xs,s∈ss)/\ρ=[some (ba g ws ss),some w.toD,some (.obj q),some (frR t),some (.int n),v5]/\μ'=μ/\SmR (eh c) t j/\j+xs.length<=8/\t - sS f xs=(w.pc:Rat) - sS f (onL w.nm ss)/\n+cS f xs=cS f (onL w.nm ss)) ?_ ?_ _ _ _ ⟨onL w.nm ss,(w.pc:Rat),0,0,_,rfl,(λs hs=>(M8.mp hs).1),rfl,rfl,SmR.LP (by omega) p1,by omega,rfl,by omega⟩
 ·rintro ρ μ' ⟨xs,t,j,n,v5,er,_,rfl,rfl,S,hj,e1,e2⟩
  cases xs with
  | cons _ _=>cases er
  | nil=>
  have e1:t - 0=(w.pc:Rat) - sS f (onL w.nm ss):=e1
  have e2:n+0=cS f (onL w.nm ss):=e2
  have cle:=r6 (f:=f) (onL w.nm ss)
  unfold qp at k
  walk_at "go"
  refine kif (λh=>?_) λh=>?_
  ·rw[if_pos (by omega)] at k
   walk_at "go"
   exact ⟨_,.refl _,k⟩
  ·rw[if_neg (by omega)] at k
   walk_at "go"
   have lm:=ie (ss:=ss) (f:=f) (w:=w) (by omega)
   refine ⟨t,eN ss f w,n,⟨rfl,rfl,S.br (cj c) d8 (by omega),by omega,by omega,?_⟩,⟨_,.refl _,k⟩⟩
   have en:((n:Int):Rat)=(cS f (onL w.nm ss):Rat):=by rw[← e2,Nat.add_zero];rfl
   rw[en,lm,← e1]
   grind
 ·rintro d r ρ μ' N ⟨xs,t,j,n,v5,er,hx,rfl,rfl,S,hj,e1,e2⟩ hN
  cases xs with
  | nil=>cases er
  | cons s xs=>
  cases er
  rw[Nk] at hj
  rw[wb] at e1
  have hs:=hx s MS
  have hx':=λy hy=>hx y (MU s hy)
  have Ts:=T s hs
  walk_at "go"
  refine gL eq ?_
  rw[Ts]
  cases ef:f s.nm with
  | some v=>
   have e2:n+(0+cS f xs)=cS f (onL w.nm ss):=by rw[← e2,gk,ef,if_neg (by simp)]
   have ev:val f s=v:=by unfold val;rw[ef];rfl
   have bi:=F.b.i s hs v ef
   have bl:=F.b.l s hs v ef
   have Tb:=S.br (cj c) d8 (by omega)
   have Vb:BR v:=BR.of bi (cj c) d8 (Nq (by decide) bl.1) (Nq bl.2 (by decide))
   walk_at "go"
   refine (show kIf true _ _ from ?_)
   walk_at "go"
   refine gL eq ?_
   rw[Ts,ef]
   refine (show kO (some (frR v)) _ from ?_)
   walk_at "go"
   refine ⟨t.num,t.den,v.num,v.den,⟨⟨vlN _,vlN _⟩,Tb.n,Tb.d,Vb.n,Vb.d⟩,λz V=>?_⟩
   rw[Hy V]
   rw[ev] at e1
   exact hN _ _ ⟨xs,t - v,j+1,n,_,rfl,hx',rfl,rfl,S.sub bi bl.1 bl.2,by omega,by grind,by omega⟩
  | none=>
   have e2:n+(1+cS f xs)=cS f (onL w.nm ss):=by rw[← e2,gk,ef,if_pos rfl]
   have ev:val f s=0:=by unfold val;rw[ef];rfl
   rw[ev] at e1
   refine (show kIf false _ _ from ?_)
   walk_at "go"
   exact hN _ _ ⟨xs,t,j+1,n+1,some s.toD,rfl,hx',rfl,rfl,S.skip,by omega,by grind,by omega⟩
def cw:FSp:=λds μ Q=>kcA ds λsd ds=>kcO ds λq ds=>kcN ds (∃ (s:SE) (lev:Str->Rat) (tab:List (L2.Key×D)),(sd=s.toD/\s.Ok/\μ q=some (.dct tab)/\s.road.length<=100/\∀ n∈s.road,aU tab (.inr n)=some (frR (lev n))/\BR (lev n))/\Q (frR (gB (s.bC::s.road.map lev))) μ)
theorem pI:∀ ds μ Q,cw ds μ Q->ds.length=2:=λ_ _ _ h=>lcA h λ_ _ h=>lcO h λ_ _ h=>by rw[(ecN h).1];rfl
def lF:STr:=a5 (aq cx (ag (ak aK (eI (ag (aq bM (ag (ah 0) (ar))) (ar))) (bS (dh (ak L3.rIx (ah 0) (TC (.int 1)))) (aw 0) (j1) (km (ah 1) (ah 0)) 1 [1])) (ar)))
theorem tS:∀ ds μ Q,cw ds μ Q->lF { nx:=λ_ μ'=>RT Q .non μ',rt:=RT Q } (ini 2 ds) μ:=by
 intro ds μ Q h
 replace h:=ecA h
 obtain ⟨sd,ds,rfl,h⟩:=h
 replace h:=ecO h
 obtain ⟨q,ds,rfl,h⟩:=h
 replace h:=ecN h
 obtain ⟨rfl,h⟩:=h
 walk_at "ini"
 unfold lF
 walk_at "go"
 obtain ⟨s,lev,tab,⟨rfl,S,eq,rl,hl⟩,k⟩:=h
 walk_at "go"
 refine ⟨s,⟨rfl,S⟩,λz V=>?_⟩
 rw[zp S V]
 walk_at "go"
 refine b7 s.road .str (λn=>frR (lev n)) rfl (by omega) (λn hn μ' s' N m=>?_) ?_
 ·walk_at "go"
  refine gL (s' q _ eq) ?_
  rw[(hl n hn).1]
  exact m
 walk_at "go"
 refine ⟨by simp;omega,?_⟩
 refine ⟨s.bC::s.road.map lev,⟨by rw[Ni,NL];rfl,by simp,λx hx=>?_⟩,⟨_,.refl _,k⟩⟩
 rcases MY.mp hx with rfl | z
 ·exact GF S
 ·obtain ⟨n,hn,rfl⟩:=M3.mp z
  exact (hl n hn).2
def Sx (q:Addr)(μ μ':Mu):Prop:=∀ a o,a≠q->μ a=some o->μ' a=some o
theorem J8 {q:Addr}{μ μ':Mu}{x:MO}(h:Sx q μ μ'):Sx q μ (up μ' q x):=λa o n e=>by rw[aT n];exact h a o n e
theorem hZ {p:Addr}{μ:Mu}{x:MO}(h:μ p=none):Sub μ (up μ p x):=λa o e=>by
 rw[aT (λz=>by subst z;rw[h] at e;cases e)];exact e
theorem Hu {μ μ1 μ2:Mu}(h:Sub μ μ1)(k:Sub μ1 μ2):Sub μ μ2:=λa o e=>k a o (h a o e)
theorem HR {q:Addr}{μ μ1 μ2:Mu}(hq:μ q=none)(h:Sub μ μ1)(k:Sx q μ1 μ2):Sub μ μ2:=λa o e=>k a o (λz=>by subst z;rw[hq] at e;cases e) (h a o e)
theorem rN:∀ (more acc:List (L2.Key×D)) (k:L2.Key),(∀ p∈more,p.1≠k)->aU (cm acc more) k=aU acc k
 | [],_,_,_=>rfl
 | p::r,acc,k,h=>by
  show aU (cm (putD acc p.1 p.2) r) k=_
  rw[rN r _ k λq z=>h q (MU _ z),gu,if_neg λe=>h p MS e.symm]
theorem KP {α:Type}(nm:α->Str)(v:α->D):∀ (xs:List α) (acc:List (L2.Key×D)),(xs.map nm).Nodup->∀ x∈xs,aU (cm acc (xs.map λx=>(.inr (nm x),v x))) (.inr (nm x))=some (v x)
 | y::r,acc,nd,x,hx=>by
  rw[Ni] at nd
  obtain ⟨m1,m2⟩:=NB.mp nd
  show aU (cm (putD acc (.inr (nm y)) (v y)) (r.map λx=>(.inr (nm x),v x))) _=_
  rcases MY.mp hx with rfl | z
  ·rw[rN,gu,if_pos rfl]
   intro p hp e
   obtain ⟨q,hq,rfl⟩:=M3.mp hp
   have e:nm q=nm x:=by injection e
   exact m1 (by rw[← e];exact M3.mpr ⟨q,hq,rfl⟩)
  ·exact KP nm v r _ m2 x z
theorem Em {kvs:List (L2.Key×D)}{k:L2.Key}{d:D}(h:aU kvs k=none):(putD kvs k d).length=kvs.length+1:=by
 unfold putD
 rw[if_neg]
 ·rw[Nt];rfl
 ·intro z
  obtain ⟨kv,h1,h2⟩:=Ou.mp z
  unfold aU at h
  rw[Option.map_eq_none_iff,QM] at h
  exact h kv h1 h2
theorem BL {f f':Fm}:∀ {l:List SE},(∀ s∈l,f' s.nm=f s.nm)->cS f' l=cS f l
 | [],_=>rfl
 | x::r,h=>by
  rw[gk,gk,h x MS,BL λy z=>h y (MU _ z)]
def uO (f:Fm)(n:Str)(t:Rat):Fm:=λm=>if m=n then some t else f m
theorem Bm {f:Fm}{t:Rat}{s:SE}:∀ {ss:List SE},(ss.map SE.nm).Nodup->s∈ss->f s.nm=none->cS (uO f s.nm t) ss+1=cS f ss
 | x::r,nd,hs,e=>by
  rw[Ni] at nd
  obtain ⟨m1,m2⟩:=NB.mp nd
  rw[gk,gk]
  by_cases q:x.nm=s.nm
  ·have h1:uO f s.nm t x.nm=some t:=if_pos q
   have h2:cS (uO f s.nm t) r=cS f r:=BL λy hy=>if_neg λz=>m1 (by rw[q,← z];exact M3.mpr ⟨y,hy,rfl⟩)
   rw[h1,h2,q,e,if_neg (by simp),if_pos rfl]
   omega
  ·have h1:uO f s.nm t x.nm=f x.nm:=if_neg q
   have hr:s∈r:=(MY.mp hs).resolve_left λz=>q (by rw[z])
   have:=Bm (t:=t) m2 hr e
   rw[h1]
   omega
def gv:FSp:=λds μ Q=>kcA ds λd ds=>kcO ds λq ds=>kcN ds (∃ (g:D) (ws:List WE) (ss:List SE) (f:Fm) (tab:List (L2.Key×D)) (c:Nat),(d=ba g ws ss/\FS ws ss f c/\0 < cS f ss/\μ q=some (.dct tab)/\zA tab f ss/\tab.length=c)/\∀ (tab':List (L2.Key×D)) (c':Nat) μ',FS ws ss (fm ws ss f) c'->c < c'->μ' q=some (.dct tab')->zA tab' (fm ws ss f) ss->tab'.length=c'->Sx q μ μ'->Q .non μ')
theorem uu:∀ ds μ Q,gv ds μ Q->ds.length=2:=λ_ _ _ h=>lcA h λ_ _ h=>lcO h λ_ _ h=>by rw[(ecN h).1];rfl
def qN:STr:=aG (aQ (aq oF (ag (bS (dh (ak L3.rIx (ah 0) (TC (.int 1)))) (aw 0) (j1) (a7 (ag (ak L3.rIx (ah 0) (TC (.int 0))) (ag (aq dB (ag (ah 1) (ag (ah 0) (ag (ah 2) (ar))))) (ar)))) 1 [0,1]) (ar))) (aw 2)) (aG (aQ (bS (dh (ak L3.rIx (ah 0) (TC (.int 2)))) (aw 0) (TB (uJ true (ak L3.rIx (ah 0) (TC (.int 0))) (ah 1))) (ah 0) 1 [1]) (aw 3)) (aG (aQ (aq cx (ag (bS (dh (ah 3)) (aw 0) (j1) (aq cw (ag (ah 0) (ag (ah 1) (ar)))) 1 [2]) (ar))) (aw 4)) (fK (dh (ah 3)) (aw 5) (df (TB (ak rEq (aq cw (ag (ah 5) (ag (ah 2) (ar)))) (ah 4))) (wD (ah 1) (ak L3.rIx (ah 5) (TC (.int 0))) (ah 4)) (bT)))))
theorem yO:∀ ds μ Q,gv ds μ Q->qN { nx:=λ_ μ'=>RT Q .non μ',rt:=RT Q } (ini 6 ds) μ:=by
 intro ds μ Q h
 replace h:=ecA h
 obtain ⟨d,ds,rfl,h⟩:=h
 replace h:=ecO h
 obtain ⟨q,ds,rfl,h⟩:=h
 replace h:=ecN h
 obtain ⟨rfl,h⟩:=h
 walk_at "ini"
 unfold qN
 walk_at "go"
 obtain ⟨g,ws,ss,f,tab,c,⟨rfl,F,c0,eq,T,tl⟩,k⟩:=h
 have P:=F.P
 have sl:=P.sl
 have wl:=P.wl
 have cl:c+1<=8:=by have:=F.n;omega
 have d8:=gw cl
 walk_at "go"
 refine b7 ws WE.toD (λw=>.tup [.str w.nm,qp ss f w]) rfl (by omega) (λw hw μ' s' N m=>?_) ?_
 ·walk_at "go"
  exact ⟨g,ws,ss,f,w,tab,c,⟨rfl,rfl,hw,F,s' q _ eq,T⟩,m⟩
 walk_at "go"
 refine ⟨ws.map λw=>(.inr w.nm,qp ss f w),by rw[NL];rfl,by simp;omega,λp hp=>?_⟩
 have pq:p≠q:=λz=>by subst z;rw[eq] at hp;cases hp
 have lk:∀ w∈ws,aU (cm [] (ws.map λw=>((.inr w.nm,qp ss f w):L2.Key×D))) (.inr w.nm)=some (qp ss f w):=KP WE.nm (qp ss f) ws [] P.wn
 generalize cm [] (ws.map λw=>((.inr w.nm,qp ss f w):L2.Key×D))=lv at lk
 have e1:up μ p (.dct lv) q=some (.dct tab):=by rw[aT (Np pq)];exact eq
 have bd:∀ s∈dg ss f,∀ n∈s.road,aU lv (.inr n)=some (frR (fw ws ss f n))/\BR (fw ws ss f n):=λs hs n hn=>by
  obtain ⟨h1,h2⟩:=cy.mp hs
  obtain ⟨w,hw,rfl,e,k0,i,l0,l1⟩:=F.bnd h1 h2 n hn
  refine ⟨?_,BR.of i (cj _) d8 (Nq (by decide) l0) (Nq l1 (by decide))⟩
  rw[lk w hw,e]
  unfold qp
  rw[if_neg (by omega)]
 have rl:∀ s∈dg ss f,s.road.length<=100:=λs hs=>by
  have:=(P.rd s (cy.mp hs).1).length_le
  rw[MX] at this
  omega
 generalize hμ:up μ p (.dct lv)=μ1 at e1
 have e1p:μ1 p=some (.dct lv):=by rw[← hμ];exact aA
 refine de ss SE.toD (λs=>if decide (f s.nm=none) then some s.toD else none) rfl (by omega) (λs hs μ' s' N m=>?_) ?_
 ·walk_at "go"
  refine gL (s' q _ e1) ?_
  rw[T s hs]
  walk_at "go"
  cases e:f s.nm with
  | none=>rw[e] at m;exact m
  | some v=>rw[e] at m;exact m
 rw[oJ]
 have er:(ss.filter λs=>decide (f s.nm=none))=dg ss f:=rfl
 rw[er]
 have MF:(dg ss f).length<=ss.length:=OA _ _
 walk_at "go"
 refine b7 (dg ss f) SE.toD (λs=>frR (fz ws ss f s)) rfl (by omega) (λs hs μ' s' N m=>?_) ?_
 ·walk_at "go"
  exact ⟨s,fw ws ss f,lv,⟨rfl,P.s s (cy.mp hs).1,s' p _ e1p,rl s hs,bd s hs⟩,m⟩
 have rne:dg ss f≠[]:=λz=>by
  have:cS f ss=0:=cF λs hs e=>by
   have:=cy.mpr ⟨hs,e⟩
   rw[z] at this;cases this
  omega
 refine ⟨(dg ss f).map (fz ws ss f),⟨by rw[NL];rfl,by simpa using rne,λx hx=>?_⟩,?_⟩
 ·obtain ⟨s,hs,rfl⟩:=M3.mp hx
  obtain ⟨i,l0,l1⟩:=F.KG (cy.mp hs).1 (cy.mp hs).2
  exact BR.of i (cj _) d8 (Nq (by decide) l0) (Nq l1 (by decide))
 have et:gB ((dg ss f).map (fz ws ss f))=tF ws ss f:=rfl
 rw[et]
 have rnd:(dg ss f).Nodup:=by
  have:ss.Nodup:=(Vq SE.nm (λa b h e=>h (by rw[e])) P.nd)
  exact this.sublist Qu
 walk_at "go"
 refine bz (λr ρ μ'=>∃ (dn rs:List SE) (fc:Fm) (tc:List (L2.Key×D)) (v5:Option D),r=rs.map SE.toD/\dn++rs=dg ss f/\ρ=[some (ba g ws ss),some (.obj q),some (.obj p),some (.ls ((dg ss f).map SE.toD)),some (frR (tF ws ss f)),v5]/\μ' q=some (.dct tc)/\μ' p=some (.dct lv)/\zA tc fc ss/\tc.length+cS fc ss=ss.length/\Sx q μ μ'/\∀ s∈ss,(s∈dn/\fz ws ss f s=tF ws ss f->fc s.nm=some (tF ws ss f))/\(¬ (s∈dn/\fz ws ss f s=tF ws ss f)->fc s.nm=f s.nm)) ?_ ?_ _ _ _ ⟨[],dg ss f,f,tab,_,rfl,rfl,rfl,e1,e1p,T,by rw[tl];exact F.n,(λa o _ e=>by rw[← hμ];exact hZ hp a o e),λs hs=>⟨(λh=>nomatch h.1),λ_=>rfl⟩⟩
 ·rintro ρ μ2 ⟨dn,rs,fc,tc,v5,er,es,rfl,eq2,_,Tc,n2,sx,hfc⟩
  cases rs with
  | cons _ _=>cases er
  | nil=>
  rw[NN] at es
  have same:∀ s∈ss,fm ws ss f s.nm=fc s.nm:=λs hs=>by
   rw[step_at P f hs]
   by_cases z:f s.nm=none/\fz ws ss f s=tF ws ss f
   ·rw[if_pos z,(hfc s hs).1 ⟨by rw[es];exact cy.mpr ⟨hs,z.1⟩,z.2⟩]
   ·rw[if_neg z,(hfc s hs).2 λy=>z ⟨(cy.mp (es ▸ y.1)).2,y.2⟩]
  obtain ⟨c',F',lt⟩:=F.next c0
  refine ⟨_,.refl _,k tc c' μ2 F' lt eq2 (λs hs=>by rw[same s hs];exact Tc s hs) ?_ sx⟩
  have:=F'.n
  rw[BL same] at this
  omega
 ·rintro d r ρ μ2 N ⟨dn,rs,fc,tc,v5,er,es,rfl,eq2,ep2,Tc,n2,sx,hfc⟩ hN
  cases rs with
  | nil=>cases er
  | cons s rs=>
  cases er
  have hs:s∈dg ss f:=by rw[← es];simp
  obtain ⟨hs1,hs2⟩:=cy.mp hs
  have snd:s ∉ dn:=λz=>by
   rw[← es] at rnd
   exact (Q4.mp rnd).2.2 s z s MS rfl
  have fcs:fc s.nm=none:=by rw[(hfc s hs1).2 λz=>snd z.1];exact hs2
  walk_at "go"
  refine ⟨s,fw ws ss f,lv,⟨rfl,P.s s hs1,ep2,rl s hs,bd s hs⟩,?_⟩
  have eb:gB (s.bC::s.road.map (fw ws ss f))=fz ws ss f s:=rfl
  rw[eb]
  walk_at "go"
  refine ⟨⟨rfl,rfl⟩,?_⟩
  rw[uE]
  refine kif (λh=>?_) λh=>?_
  ·walk_at "go"
   have lz:aU tc (.inr s.nm)=none:=by rw[Tc s hs1,fcs];rfl
   have cs:=Bm (t:=tF ws ss f) P.nd hs1 fcs
   have pl:=Em (d:=frR (tF ws ss f)) lz
   refine gL eq2 ⟨by omega,hN _ _ ⟨dn++[s],rs,uO fc s.nm (tF ws ss f),putD tc (.inr s.nm) (frR (tF ws ss f)),_,rfl,by rw[← es];simp,rfl,aA,by rw[aT pq];exact ep2,λy hy=>?_,by omega,J8 sx,λy hy=>?_⟩⟩
   ·rw[gu]
    unfold uO
    by_cases z:y.nm=s.nm
    ·rw[if_pos (by rw[z]),if_pos z];rfl
    ·rw[if_neg (λx=>z (by injection x)),if_neg z];exact Tc y hy
   ·by_cases z:y.nm=s.nm
    ·have:y=s:=Jj P.nd hy hs1 z
     subst this
     exact ⟨λ_=>if_pos rfl,λx=>absurd ⟨Ng _ MS,h⟩ x⟩
    ·have e:uO fc s.nm (tF ws ss f) y.nm=fc y.nm:=if_neg z
     have iff:y∈dn++[s]↔y∈dn:=⟨λx=>(NM.mp x).resolve_right λx=>z (by rw[MV.mp x]),λx=>Og _ x⟩
     rw[e,iff]
     exact hfc y hy
  ·walk_at "go"
   refine hN _ _ ⟨dn++[s],rs,fc,tc,_,rfl,by rw[← es];simp,rfl,eq2,ep2,Tc,n2,sx,λy hy=>?_⟩
   by_cases z:y=s
   ·subst z
    exact ⟨λx=>absurd x.2 h,λ_=>(hfc y hy).2 λx=>snd x.1⟩
   ·have iff:y∈dn++[s]↔y∈dn:=⟨λx=>(NM.mp x).resolve_right λx=>z (MV.mp x),λx=>Og _ x⟩
    rw[iff]
    exact hfc y hy
def cg:FSp:=λds μ Q=>kcA ds λd ds=>kcN ds (∃ (g:D) (ws:List WE) (ss:List SE),(d=ba g ws ss/\PE' ws ss)/\∀ μ',Sub μ μ'->Q (.tup (iq (evF ws ss) ss)) μ')
theorem j3:∀ ds μ Q,cg ds μ Q->ds.length=1:=λ_ _ _ h=>lcA h λ_ _ h=>by rw[(ecN h).1];rfl
def gM:STr:=aG (aQ (xp) (aw 1)) (aG (pK (TB (ak rLt (aq xf (ag (ah 1) (ar))) (aq gA (ag (ak L3.rIx (ah 0) (TC (.int 2))) (ar))))) (fq (aq gv (ag (ah 0) (ag (ah 1) (ar)))))) (a5 (aq bR (ag (bS (dh (ak L3.rIx (ah 0) (TC (.int 2)))) (aw 0) (j1) (a7 (ag (ak L3.rIx (ah 0) (TC (.int 0))) (ag (km (ah 1) (ak L3.rIx (ah 0) (TC (.int 0)))) (ar)))) 1 [1]) (ar)))))
theorem kE:∀ ds μ Q,cg ds μ Q->gM { nx:=λ_ μ'=>RT Q .non μ',rt:=RT Q } (ini 2 ds) μ:=by
 intro ds μ Q h
 replace h:=ecA h
 obtain ⟨d,ds,rfl,h⟩:=h
 replace h:=ecN h
 obtain ⟨rfl,h⟩:=h
 walk_at "ini"
 unfold gM
 walk_at "go"
 obtain ⟨g,ws,ss,⟨rfl,P⟩,k⟩:=h
 have sl:=P.sl
 intro q hq
 walk_at "go"
 refine ⟨λρ μ'=>∃ (f:Fm) (tab:List (L2.Key×D)) (c n:Nat),ρ=[some (ba g ws ss),some (.obj q)]/\μ' q=some (.dct tab)/\FS ws ss f c/\zA tab f ss/\tab.length=c/\tK ws ss n f=evF ws ss/\cS f ss<=n/\Sub μ μ',λ_ μ'=>match μ' q with
  | some (.dct t)=>ss.length - t.length
  | _=>0,⟨λ_=>none,[],0,8,rfl,aA,FS.begin P,(λ_ _=>rfl),rfl,rfl,by have:=r6 (f:=λ_=>none) ss;omega,hZ hq⟩,?_⟩
 rintro ρ μ' ⟨f,tab,c,n,rfl,eq,F,T,tl,ef,hn,sb⟩
 walk_at "go"
 refine gL eq ?_
 rw[MX]
 have Fn:=F.n
 refine kif (λh=>?_) λh=>?_
 ·have c0:0 < cS f ss:=by omega
  walk_at "go"
  refine ⟨g,ws,ss,f,tab,c,⟨rfl,F,c0,eq,T,tl⟩,λtab' c' μ2 F' lt eq2 T' tl' sx=>?_⟩
  obtain ⟨m,rfl⟩:∃ m,n=m+1:=⟨n - 1,by omega⟩
  rw[tj c0] at ef
  have Fn':=F'.n
  refine ⟨⟨fm ws ss f,tab',c',m,eq2,F',T',tl',ef,by have:=jm (ws:=ws) P c0;omega,HR hq sb sx⟩,?_⟩
  simp only[eq,eq2]
  omega
 ·have z:cS f ss=0:=by omega
  rw[qX z] at ef
  subst ef
  have a:=i9 z
  refine b7 ss SE.toD (λs=>.tup [.str s.nm,frR (val (evF ws ss) s)]) rfl (by omega) (λs hs μ2 s2 N m=>?_) ?_
  ·walk_at "go"
   refine gL (s2 q _ eq) ?_
   rw[T s hs]
   unfold val at m
   cases e:evF ws ss s.nm with
   | none=>exact absurd e (a s hs)
   | some v=>rw[e] at m;exact m
  walk_at "go"
  exact ⟨_,.refl _,k _ sb⟩
def A3 (ws:List WE)(ss:List SE)(f:Fm)(s:SE):Str:=((MK "" :: s.road).filter (m9 ws ss f s)).headD (MK "")
def Lj (ws:List WE)(ss:List SE)(f:Fm):List D:=ss.map λs=>.tup [.str s.nm,frR (val f s),.str (A3 ws ss f s)]
theorem IZ {ws:List WE}{ss:List SE}{f:Fm}(F:FE ws ss f){s:SE}(hs:s∈ss):(MK "" :: s.road).filter (m9 ws ss f s)≠[]:=by
 intro z
 have z:=RU.mp z
 rcases F.d s hs with e | ⟨w,hw,h1,h2,h3⟩
 ·refine z _ MS ?_
  unfold m9
  rw[if_pos rfl,decide_eq_true e]
 ·refine z _ (MU _ h1) ?_
  unfold m9
  rw[if_neg (F.P.w w hw).ne,eS WE.nm F.P.wn hw]
  show BU ss f s w=true
  unfold BU
  rw[decide_eq_true h2,Rg]
  exact P1.mpr λt ht=>decide_eq_true (h3 t ht)
def iU:FSp:=λds μ Q=>kcA ds λd ds=>kcN ds (∃ (g:D) (ws:List WE) (ss:List SE),(d=ba g ws ss/\PE' ws ss)/\∀ μ',Sub μ μ'->Q (.tup (Lj ws ss (evF ws ss))) μ')
theorem Cf:∀ ds μ Q,iU ds μ Q->ds.length=1:=λ_ _ _ h=>lcA h λ_ _ h=>by rw[(ecN h).1];rfl
def Bu:STr:=aG (aQ (aq cg (ag (ah 0) (ar))) (aw 1)) (aG (aQ (jc (ar)) (aw 2)) (aG (fK (wy (ag (ak L3.rIx (ah 0) (TC (.int 2))) (ag (ah 1) (ar)))) (dR [3,4]) (aG (aQ (bS (dh (ak aK (a7 (ag (TC (.str "")) (ar))) (ak L3.rIx (ah 3) (TC (.int 1))))) (aw 0) (TB (aq gm (ag (ah 1) (ag (ah 2) (ag (ah 3) (ag (ak L3.rIx (ah 4) (TC (.int 1))) (ag (ah 0) (ar)))))))) (ah 0) 1 [0,1,3,4]) (aw 5)) (fq (kU (ah 2) (a7 (ag (ak L3.rIx (ah 4) (TC (.int 0))) (ag (ak L3.rIx (ah 4) (TC (.int 1))) (ag (ak L3.rIx (ah 5) (TC (.int 0))) (ar))))))))) (a5 (aq bR (ag (ah 2) (ar))))))
theorem CY:∀ ds μ Q,iU ds μ Q->Bu { nx:=λ_ μ'=>RT Q .non μ',rt:=RT Q } (ini 6 ds) μ:=by
 intro ds μ Q h
 replace h:=ecA h
 obtain ⟨d,ds,rfl,h⟩:=h
 replace h:=ecN h
 obtain ⟨rfl,h⟩:=h
 walk_at "ini"
 unfold Bu
 walk_at "go"
 obtain ⟨g,ws,ss,⟨rfl,P⟩,k⟩:=h
 have sl:=P.sl
 have F:=cU P
 refine ⟨g,ws,ss,⟨rfl,P⟩,λμ1 sb=>?_⟩
 generalize evF ws ss=f at F k ⊢
 walk_at "go"
 intro p hp
 rw[jo]
 refine bz (λr ρ μ'=>∃ (dn rs:List SE) (v3 v4 v5:Option D),r=rs.map (λs=>.tup [s.toD,.tup [.str s.nm,frR (val f s)]])/\dn++rs=ss/\ρ=[some (ba g ws ss),some (.tup (iq f ss)),some (.obj p),v3,v4,v5]/\μ' p=some (.lst (dn.map λs=>.tup [.str s.nm,frR (val f s),.str (A3 ws ss f s)]))/\Sub μ μ') ?_ ?_ _ _ _ ⟨[],ss,_,_,_,rfl,rfl,rfl,aA,Hu sb (hZ hp)⟩
 ·rintro ρ μ' ⟨dn,rs,v3,v4,v5,er,es,rfl,ep,sb'⟩
  cases rs with
  | cons _ _=>cases er
  | nil=>
  rw[NN] at es
  subst es
  walk_at "go"
  refine bh ep ?_
  exact ⟨_,.refl _,k _ sb'⟩
 ·rintro d r ρ μ' N ⟨dn,rs,v3,v4,v5,er,es,rfl,ep,sb'⟩ hN
  cases rs with
  | nil=>cases er
  | cons s rs=>
  cases er
  have hs:s∈ss:=by rw[← es];simp
  have S:=P.s s hs
  have dl:dn.length+(rs.length+1)=ss.length:=by rw[← es];simp
  have rdl:=(P.rd s hs).length_le
  rw[MX] at rdl
  have wl:=P.wl
  walk_at "go"
  have e0:(D.str "" :: s.road.map D.str)=(MK "" :: s.road).map D.str:=rfl
  rw[e0]
  refine ⟨by simp;omega,?_⟩
  refine de (MK "" :: s.road) .str (λy=>if m9 ws ss f s y then some (.str y) else none) rfl (by simp;omega) (λy hy μ2 _ M m=>?_) ?_
  ·walk_at "go"
   refine ⟨g,ws,ss,f,s,⟨rfl,rfl,F,hs,rfl,rfl,MY.mp hy⟩,?_⟩
   walk_at "go"
   cases h:m9 ws ss f s y with
   | true=>rw[h] at m;exact m
   | false=>rw[h] at m;exact m
  rw[oJ]
  have ne:=IZ F hs
  walk_at "go"
  refine bh ep ?_
  have ew:∃ r,(MK "" :: s.road).filter (m9 ws ss f s)=A3 ws ss f s::r:=by
   unfold A3
   cases h:(MK "" :: s.road).filter (m9 ws ss f s) with
   | nil=>exact absurd h ne
   | cons y r=>exact ⟨r,rfl⟩
  obtain ⟨r0,ew⟩:=ew
  rw[ew]
  walk_at "go"
  refine bh ep ⟨by rw[MX];omega,hN _ _ ⟨dn++[s],rs,_,_,_,rfl,by rw[← es];simp,rfl,by rw[aA,NG];rfl,λa o e=>by rw[aT (λz=>by subst z;rw[sb a o e] at hp;cases hp)];exact sb' a o e⟩⟩
abbrev fg:FSp:=L3.aB
def kZ:STr:=aG (dI (ah 0) (TC (.int 1)) (ak fv (ak aK (ak aK (ak bX (ak L3.rIx (ah 0) (TC (.int 1))) (TC (.int 48271))) (TC (.int 12345))) (ak L3.rIx (ah 0) (TC (.int 2)))) (TC (.int 2147483647)))) (a5 (ak fv (ak jd (ak fv (ak bX (ak L3.rIx (ah 0) (TC (.int 1))) (ak aK (ak fv (ak L3.rIx (ah 0) (TC (.int 1))) (TC (.int 40009))) (TC (.int 3)))) (TC (.int 2147483629))) (TC (.int 7))) (ah 1)))
def sj:STr:=aG (dI (ah 0) (TC (.int 2)) (ak aK (ak L3.rIx (ah 0) (TC (.int 2))) (TC (.int 1)))) (aG (df (rC (TB (ak rGt (ak L3.rIx (ah 0) (TC (.int 0))) (TC (.int 0)))) (TB (ak rLe (ak L3.rIx (ah 0) (TC (.int 2))) (TC (.int 60))))) (aG (aQ (ak fv (ak L3.rIx (ah 0) (TC (.int 0))) (ah 1)) (aw 2)) (aG (dI (ah 0) (TC (.int 0)) (ak jd (ak L3.rIx (ah 0) (TC (.int 0))) (ah 1))) (a5 (ah 2)))) (bT)) (kZ))
theorem mM:∀ ds μ Q,fg ds μ Q->ds.length=2:=L3.Ac
theorem qB:∀ ds μ Q,fg ds μ Q->sj { nx:=λ_ μ'=>RT Q .non μ',rt:=RT Q } (ini 3 ds) μ:=L3.C5
def bA:FSp:=λds μ Q=>kcI ds λa ds=>kcI ds λb ds=>kcN ds ((0 < b/\ei b)/\Q (fr (a.fdiv (Nj a b)) (b.fdiv (Nj a b))) μ)
theorem oT:∀ ds μ Q,bA ds μ Q->ds.length=2:=λ_ _ _ h=>lcI h λ_ _ h=>lcI h λ_ _ h=>by rw[(ecN h).1];rfl
def mE:STr:=aG (rP 2 3 (ag (aq p7 (ag (ah 0) (ar))) (ag (ah 1) (ar)))) (aG (pK (TB (ak rGt (ah 3) (TC (.int 0)))) (rP 2 3 (ag (ah 3) (ag (ak fv (ah 2) (ah 3)) (ar))))) (a5 (a7 (ag (ak jd (ah 0) (ah 2)) (ag (ak jd (ah 1) (ah 2)) (ar))))))
theorem sZ:∀ ds μ Q,bA ds μ Q->mE { nx:=λ_ μ'=>RT Q .non μ',rt:=RT Q } (ini 4 ds) μ:=by
 intro ds μ Q h
 replace h:=ecI h
 obtain ⟨a,ds,rfl,h⟩:=h
 replace h:=ecI h
 obtain ⟨b,ds,rfl,h⟩:=h
 replace h:=ecN h
 obtain ⟨rfl,h⟩:=h
 walk_at "ini"
 unfold mE
 walk_at "go"
 obtain ⟨⟨b0,b1⟩,k⟩:=h
 have ea:(if a < 0 then -a else a)=(a.natAbs:Int):=by split<;>omega
 rw[ea]
 refine ⟨λρ μ'=>μ'=μ/\∃ x y:Int,ρ=[some (.int a),some (.int b),some (.int x),some (.int y)]/\0<=x/\0<=y/\Nj x y=Nj a b,mz 3,⟨rfl,a.natAbs,b,rfl,Oz _,by omega,by simp[Nj]⟩,?_⟩
 rintro ρ _ ⟨rfl,x,y,rfl,x0,y0,e⟩
 walk_at "go"
 refine kif (λhy=>?_) λhy=>?_
 ·walk_at "go"
  refine ⟨by omega,⟨_,_,rfl,y0,fm0 hy,?_⟩,?_⟩
  ·rw[rZ];exact e
  ·have:=fm1 (a:=x) hy
   have:=fm0 (a:=x) hy
   simp only[mz,lk]
   omega
 ·have hy0:y=0:=by omega
  subst hy0
  rw[Tg] at e
  have hx:x=(Nj a b:Int):=by omega
  subst hx
  have gp:0 < Nj a b:=Om a (by omega)
  have gl:(Nj a b:Int)<=b:=Int.gcd_le_right a b0
  have dv:eM (Nj a b:Int):=⟨by omega,by unfold ei at *;omega⟩
  walk_at "go"
  exact ⟨dv,dv,_,.refl _,k⟩
theorem pS {a b:Int}(b0:0 < b)(b1:b<=10000002){lo hi:Int}(h0:lo*b<=a)(h1:a<=hi*b):FrB lo hi (a.fdiv (Nj a b)) (b.fdiv (Nj a b)):=by
 obtain ⟨g,p,q,g0,ea,eb,e1,e2,q0,qb,gg⟩:=eK (a:=a) b0
 rw[e1,e2]
 rw[ea,eb] at h0 h1
 refine ⟨q0,by omega,gg,?_,?_⟩
 ·rw[Oj] at h0
  exact OD h0 g0
 ·rw[Oj] at h1
  exact OD h1 g0
theorem tkE {μ:Mu}{b:Addr}{n:Int}{Q:DK}(hB:Box μ b)(h0:0 < n)(h1:n < 18446744073709551616)(h:∀ k μ',0<=k->k < n->cC b μ μ'->Q (.int k) μ'):kP L3.aB [.obj b,.int n] μ Q:=⟨⟨hB,h0,h1⟩,h⟩
def cG:FSp:=λds μ Q=>kcA ds λd ds=>kcO ds λb ds=>kcI ds λm ds=>kcN ds (∃ p q:Int,(d=fr p q/\FrB 1 60 p q/\q<=1000/\Box μ b/\0 < m/\m<=100)/\∀ r s μ',FrB 1 60 r s->s<=4000->p*s<=r*q->cC b μ μ'->Q (fr r s) μ')
theorem nc:∀ ds μ Q,cG ds μ Q->ds.length=3:=λ_ _ _ h=>lcA h λ_ _ h=>lcO h λ_ _ h=>lcI h λ_ _ h=>by rw[(ecN h).1];rfl
def jB:STr:=aG (aQ (ak aK (TC (.int 1)) (aq L3.aB (ag (ah 1) (ag (TC (.int 4)) (ar))))) (aw 3)) (aG (aQ (aq bA (ag (ak aK (ak bX (ak L3.rIx (ah 0) (TC (.int 0))) (ah 3)) (ak bX (ak L3.rIx (ah 0) (TC (.int 1))) (aq L3.aB (ag (ah 1) (ag (ah 2) (ar)))))) (ag (ak bX (ak L3.rIx (ah 0) (TC (.int 1))) (ah 3)) (ar)))) (aw 4)) (a5 (rK (TB (ak rLe (ak L3.rIx (ah 4) (TC (.int 0))) (ak bX (TC (.int 60)) (ak L3.rIx (ah 4) (TC (.int 1)))))) (ah 4) (a7 (ag (TC (.int 60)) (ag (TC (.int 1)) (ar)))))))
theorem p9:∀ ds μ Q,cG ds μ Q->jB { nx:=λ_ μ'=>RT Q .non μ',rt:=RT Q } (ini 5 ds) μ:=by
 intro ds μ Q h
 replace h:=ecA h
 obtain ⟨d,ds,rfl,h⟩:=h
 replace h:=ecO h
 obtain ⟨b,ds,rfl,h⟩:=h
 replace h:=ecI h
 obtain ⟨m,ds,rfl,h⟩:=h
 replace h:=ecN h
 obtain ⟨rfl,h⟩:=h
 walk_at "ini"
 unfold jB
 walk_at "go"
 obtain ⟨p,q,⟨rfl,F,q1,hB,m0,m1⟩,k⟩:=h
 have q0:=F.q0
 have g1:=F.ge
 have g2:=F.le
 refine tkE hB (by decide) (by decide) λc μ1 c0 c1 B1=>?_
 walk_at "go"
 refine ⟨.inl (.inr (by unfold S64;omega)),?_⟩
 refine tkE B1.box m0 (by omega) λe μ2 e0 e1 B2=>?_
 walk_at "go"
 have hc:0 < q*(1+c):=Oq q0 (by omega)
 have hc4:q*(1+c)<=q*4:=Qe (by omega) (by omega)
 refine ⟨.inl (.inr (by unfold S64;omega)),.inl (.inr (by unfold S64;omega)),⟨hc,by unfold ei;omega⟩,?_⟩
 have qe:0<=q*e:=Su (by omega) e0
 obtain ⟨g,r,s,gp,ea,eb,e3,e4,s0,sb,gg⟩:=eK (a:=p*(1+c)+q*e) hc
 rw[e3,e4]
 walk_at "go"
 refine ⟨.inl (.inl (by unfold S64;decide)),?_⟩
 have ge1:1*(q*(1+c))<=p*(1+c):=by rw[Int.one_mul];exact NV (by omega) (by omega)
 have wt:p*s<=r*q:=by
  have h1:p*(q*(1+c))<=(p*(1+c)+q*e)*q:=by
   rw[Q2]
   have:p*(1+c)*q=p*(q*(1+c)):=by ac_rfl
   have:0<=q*e*q:=Su qe (by omega)
   omega
  rw[ea,eb] at h1
  rw[show p*(g*s)=g*(p*s) by ac_rfl,show g*r*q=g*(r*q) by ac_rfl] at h1
  exact OD h1 gp
 refine kif (λh=>?_) λh=>?_
 ·refine ⟨_,.refl _,k r s μ2 ⟨s0,by omega,gg,?_,h⟩ (by omega) wt (B1.trans B2)⟩
  have:g*(1*s)<=g*r:=by rw[← ea,show g*(1*s)=1*(g*s) by ac_rfl,← eb];omega
  exact OD this gp
 ·refine ⟨_,.refl _,k 60 1 μ2 ⟨by decide,by decide,by decide,by decide,by decide⟩ (by decide) (by omega) (B1.trans B2)⟩
theorem kc {a b:Int}(b0:0 < b)(b1:b<=10000002){lo hi:Int}(h0:lo*b < a)(h1:a<=hi*b):FrA lo hi (a.fdiv (Nj a b)) (b.fdiv (Nj a b)):=by
 refine ⟨pS b0 b1 (by omega) h1,?_⟩
 obtain ⟨g,p,q,g0,ea,eb,e1,e2,q0,qb,gg⟩:=eK (a:=a) b0
 rw[e1,e2]
 rw[ea,eb,Oj] at h0
 exact QT h0 (by omega)
theorem AF {a b:Int}(b0:0 < b):b.fdiv (Nj a b)<=b:=by
 obtain ⟨g,p,q,g0,ea,eb,e1,e2,q0,qb,gg⟩:=eK (a:=a) b0
 rw[e2];exact qb
theorem Iq {a b:Int}(b0:0 < b)(h:a < b):a.fdiv (Nj a b) < b.fdiv (Nj a b):=by
 obtain ⟨g,p,q,g0,ea,eb,e1,e2,q0,qb,gg⟩:=eK (a:=a) b0
 rw[e1,e2]
 rw[ea,eb] at h
 exact QT h (by omega)
def cL:FSp:=λds μ Q=>kcO ds λb ds=>kcN ds (Box μ b/\∀ (R:RN) μ',R.Ok->cC b μ μ'->Q R.toD μ')
theorem nr:∀ ds μ Q,cL ds μ Q->ds.length=1:=λ_ _ _ h=>lcO h λ_ _ h=>by rw[(ecN h).1];rfl
def fZ:STr:=aG (aQ (aq cG (ag (ah 3) (ag (ah 0) (ag (TC (.int 40)) (ar))))) (aw 4)) (aG (aQ (aq bA (ag (ak aK (TC (.int 1)) (aq L3.aB (ag (ah 0) (ag (TC (.int 8)) (ar))))) (ag (ak aK (TC (.int 1)) (aq L3.aB (ag (ah 0) (ag (TC (.int 4)) (ar))))) (ar)))) (aw 5)) (aG (aQ (ak aK (TC (.int 2)) (aq L3.aB (ag (ah 0) (ag (TC (.int 5)) (ar))))) (aw 6)) (aG (aQ (aq bA (ag (ak aK (TC (.int 1)) (aq L3.aB (ag (ah 0) (ag (ak uP (ah 6) (TC (.int 1))) (ar))))) (ag (ah 6) (ar)))) (aw 7)) (aG (aQ (aq L3.aB (ag (ah 0) (ag (TC (.int 6)) (ar)))) (aw 8)) (aG (aQ (eI (ag (a7 (ag (TC (.str "still")) (ag (ah 3) (ar)))) (ag (a7 (ag (TC (.str "step")) (ag (ah 3) (ag (ah 5) (ag (ah 7) (ag (ah 4) (ar))))))) (ag (a7 (ag (TC (.str "swell")) (ag (ah 3) (ag (aq bA (ag (ak aK (ak L3.rIx (ah 5) (TC (.int 0))) (ak L3.rIx (ah 5) (TC (.int 1)))) (ag (ak L3.rIx (ah 5) (TC (.int 1))) (ar)))) (ag (ah 7) (ag (ah 4) (ar))))))) (ar))))) (aw 9)) (aG (aQ (ak aK (ah 9) (eI (ag (a7 (ag (TC (.str "heed")) (ag (ah 3) (ag (ah 5) (ag (ah 7) (ag (ah 4) (ar))))))) (ag (a7 (ag (TC (.str "heed")) (ag (ah 3) (ag (ah 5) (ag (a7 (ag (TC (.int 1)) (ag (TC (.int 1)) (ar)))) (ag (ah 4) (ar))))))) (ar))))) (aw 9)) (a5 (ak L3.rIx (ak aK (ah 9) (eI (ag (a7 (ag (TC (.str "calm")) (ag (ah 3) (ag (ah 5) (ag (ah 8) (ag (ak aK (ah 8) (aq L3.aB (ag (ah 0) (ag (TC (.int 6)) (ar))))) (ag (ah 4) (ar)))))))) (ar)))) (aq L3.aB (ag (ah 0) (ag (TC (.int 6)) (ar))))))))))))
def jG:STr:=aG (aQ (ak L3.rIx (eI (ag (ak aK (TC (.int 1)) (aq L3.aB (ag (ah 0) (ag (TC (.int 5)) (ar))))) (ag (ak aK (TC (.int 1)) (aq L3.aB (ag (ah 0) (ag (TC (.int 12)) (ar))))) (ag (ak aK (TC (.int 1)) (aq L3.aB (ag (ah 0) (ag (TC (.int 59)) (ar))))) (ar))))) (aq L3.aB (ag (ah 0) (ag (TC (.int 3)) (ar))))) (aw 1)) (aG (aQ (ak aK (TC (.int 1)) (aq L3.aB (ag (ah 0) (ag (TC (.int 4)) (ar))))) (aw 2)) (aG (aQ (aq bA (ag (ak aK (ak bX (ah 1) (ah 2)) (aq L3.aB (ag (ah 0) (ag (ah 2) (ar))))) (ag (ah 2) (ar)))) (aw 3)) (fZ)))
theorem pT:∀ ds μ Q,cL ds μ Q->jG { nx:=λ_ μ'=>RT Q .non μ',rt:=RT Q } (ini 10 ds) μ:=by
 intro ds μ Q h
 replace h:=ecO h
 obtain ⟨b,ds,rfl,h⟩:=h
 replace h:=ecN h
 obtain ⟨rfl,h⟩:=h
 walk_at "ini"
 unfold jG
 walk_at "go"
 obtain ⟨hB,k⟩:=h
 refine tkE hB (by decide) (by decide) λc1 μ1 c10 c11 B1=>?_
 walk_at "go"
 refine tkE B1.box (by decide) (by decide) λc2 μ2 c20 c21 B2=>?_
 walk_at "go"
 refine tkE B2.box (by decide) (by decide) λc3 μ3 c30 c31 B3=>?_
 walk_at "go"
 refine tkE B3.box (by decide) (by decide) λc4 μ4 c40 c41 B4=>?_
 have al:∀ d∈([.int (1+c1),.int (1+c2),.int (1+c3)]:List D),IsI 1 59 d:=a6 ⟨_,rfl,by omega,by omega⟩ (a6 ⟨_,rfl,by omega,by omega⟩ (a6 ⟨_,rfl,by omega,by omega⟩ gY))
 obtain ⟨_,e1,wh,rfl,w0,w1⟩:=cZ al c40 c41
 walk_at "go"
 rw[e1]
 walk_at "go"
 refine tkE B4.box (by decide) (by decide) λc5 μ5 c50 c51 B5=>?_
 walk_at "go"
 have bb0:0 < 1+c5:=by omega
 refine ⟨.inl (.inl (by unfold S64;omega)),?_⟩
 refine tkE B5.box bb0 (by omega) λc6 μ6 c60 c61 B6=>?_
 walk_at "go"
 refine ⟨⟨bb0,by unfold ei;omega⟩,?_⟩
 have wl:1*(1+c5)<=wh*(1+c5):=NV w0 (by omega)
 have wu:(wh+1)*(1+c5)<=60*(1+c5):=NV (by omega) (by omega)
 rw[Q2] at wu
 have W:=pS (a:=wh*(1+c5)+c6) (lo:=1) (hi:=60) bb0 (by omega) (by omega) (by omega)
 have wq:=AF (a:=wh*(1+c5)+c6) bb0
 generalize (wh*(1+c5)+c6).fdiv (Nj (wh*(1+c5)+c6) (1+c5))=p at W
 generalize (1+c5).fdiv (Nj (wh*(1+c5)+c6) (1+c5))=q at W wq
 unfold fZ
 walk_at "go"
 refine ⟨p,q,⟨rfl,W,by omega,B6.box,by decide,by decide⟩,λr s μ7 T s1 wt B7=>?_⟩
 walk_at "go"
 refine tkE B7.box (by decide) (by decide) λc8 μ8 c80 c81 B8=>?_
 walk_at "go"
 refine tkE B8.box (by decide) (by decide) λc9 μ9 c90 c91 B9=>?_
 walk_at "go"
 have d0:0 < 1+c9:=by omega
 refine ⟨⟨d0,by unfold ei;omega⟩,?_⟩
 have U:=kc (a:=1+c8) (lo:=0) (hi:=60) d0 (by omega) (by omega) (by omega)
 have U8:=pS (a:=1+c8) (lo:=0) (hi:=8) d0 (by omega) (by omega) (by omega)
 have uq:=AF (a:=1+c8) d0
 generalize (1+c8).fdiv (Nj (1+c8) (1+c9))=x at U U8
 generalize (1+c9).fdiv (Nj (1+c8) (1+c9))=y at U U8 uq
 walk_at "go"
 refine tkE B9.box (by decide) (by decide) λc10 μ10 c100 c101 B10=>?_
 walk_at "go"
 refine tkE B10.box (by omega) (by omega) λc11 μ11 c110 c111 B11=>?_
 walk_at "go"
 have n0:0 < 2+c10:=by omega
 refine ⟨⟨n0,by unfold ei;omega⟩,?_⟩
 have Dn:=kc (a:=1+c11) (b:=2+c10) (lo:=0) (hi:=1) n0 (by omega) (by omega) (by omega)
 have dl:=Iq (a:=1+c11) n0 (by omega)
 generalize (1+c11).fdiv (Nj (1+c11) (2+c10))=a at Dn dl
 generalize (2+c10).fdiv (Nj (1+c11) (2+c10))=bb at Dn dl
 walk_at "go"
 refine tkE B11.box (by decide) (by decide) λc12 μ12 c120 c121 B12=>?_
 walk_at "go"
 have y0:=U.q0
 have x0:=U.ab
 have x8:=U8.le
 refine ⟨⟨y0,by unfold ei;omega⟩,?_⟩
 have X:=kc (a:=x+y) (lo:=0) (hi:=60) y0 (by omega) (by omega) (by omega)
 have Xl:=kc (a:=x+y) (lo:=1) (hi:=60) y0 (by omega) (by omega) (by omega)
 generalize (x+y).fdiv (Nj (x+y) y)=x' at X Xl
 generalize y.fdiv (Nj (x+y) y)=y' at X Xl
 walk_at "go"
 refine ⟨by simp,?_⟩
 refine tkE B12.box (by decide) (by decide) λc13 μ13 c130 c131 B13=>?_
 walk_at "go"
 refine ⟨by simp,?_⟩
 refine tkE B13.box (by decide) (by decide) λc14 μ14 c140 c141 B14=>?_
 walk_at "go"
 have ob:=DA (lo:=0) (hi:=1) (by decide) (by decide)
 have al2:∀ d∈([.tup [.str "still", fr p q],.tup [.str "step", fr p q,fr x y,fr a bb,fr r s],.tup [.str "swell", fr p q,fr x' y',fr a bb,fr r s],.tup [.str "heed", fr p q,fr x y,fr a bb,fr r s],.tup [.str "heed", fr p q,fr x y,fr 1 1,fr r s],.tup [.str "calm", fr p q,fr x y,.int c12,.int (c12+c13),fr r s]]:List D),∃ R:RN,d=R.toD/\R.Ok:=by
  refine a6 ⟨⟨.jz,p,q,1,1,1,1,0,0,p,q⟩,rfl,⟨W,W,N6 _,DA (by decide) (by decide),nofun,ob,(λz=>by rcases z with z | z<;>cases z),N6 0,N6 0,(show (0:Int)<=60 by decide),λ_=>⟨rfl,rfl⟩⟩⟩ ?_
  refine a6 ⟨⟨.step,p,q,x,y,a,bb,0,0,r,s⟩,rfl,⟨W,T,wt,U,nofun,Dn,(λ_=>dl),N6 0,N6 0,(show (0:Int)<=60 by decide),nofun⟩⟩ ?_
  refine a6 ⟨⟨.oq,p,q,x',y',a,bb,0,0,r,s⟩,rfl,⟨W,T,wt,X,(λ_=>by show y' < x';have:=Xl.ab;omega),Dn,(λ_=>dl),N6 0,N6 0,(show (0:Int)<=60 by decide),nofun⟩⟩ ?_
  refine a6 ⟨⟨.Cw,p,q,x,y,a,bb,0,0,r,s⟩,rfl,⟨W,T,wt,U,nofun,Dn,(λ_=>dl),N6 0,N6 0,(show (0:Int)<=60 by decide),nofun⟩⟩ ?_
  refine a6 ⟨⟨.Cw,p,q,x,y,1,1,0,0,r,s⟩,rfl,⟨W,T,wt,U,nofun,ob,(λz=>by rcases z with z | z<;>cases z),N6 0,N6 0,(show (0:Int)<=60 by decide),nofun⟩⟩ ?_
  refine a6 ⟨⟨.calm,p,q,x,y,1,1,c12,c12+c13,r,s⟩,rfl,⟨W,T,wt,U,nofun,ob,(λz=>by rcases z with z | z<;>cases z),c120,(show c12<=c12+c13 by omega),(show c12+c13<=60 by omega),nofun⟩⟩ gY
 obtain ⟨_,e2,R,rfl,K⟩:=cZ al2 c140 c141
 refine wm e2 ?_
 exact ⟨_,.refl _,k R _ K (B1.trans (B2.trans (B3.trans (B4.trans (B5.trans (B6.trans (B7.trans (B8.trans (B9.trans (B10.trans (B11.trans (B12.trans (B13.trans B14)))))))))))))⟩
theorem D3 {R:RN}(h:R.Ok):∃ xs,R.toD=.tup xs/\atD xs (-1)=some (fr R.r R.s):=by
 unfold RN.toD
 cases e:R.wd with
 | jz=>
  obtain ⟨e1,e2⟩:=h.st e
  rw[e1,e2]
  exact ⟨_,rfl,rfl⟩
 | step=>exact ⟨_,rfl,rfl⟩
 | oq=>exact ⟨_,rfl,rfl⟩
 | Cw=>exact ⟨_,rfl,rfl⟩
 | calm=>exact ⟨_,rfl,rfl⟩
def cu:FSp:=λds μ Q=>kcA ds λd ds=>kcN ds (∃ R:RN,(R.Ok/\d=R.toD)/\Q (.int (R.r / R.s)) μ)
theorem kT:∀ ds μ Q,cu ds μ Q->ds.length=1:=λ_ _ _ h=>lcA h λ_ _ h=>by rw[(ecN h).1];rfl
def iN:STr:=a5 (ak jd (ak L3.rIx (ak L3.rIx (ah 0) (TUn vL (TC (.int 1)))) (TC (.int 0))) (ak L3.rIx (ak L3.rIx (ah 0) (TUn vL (TC (.int 1)))) (TC (.int 1))))
theorem nN:∀ ds μ Q,cu ds μ Q->iN { nx:=λ_ μ'=>RT Q .non μ',rt:=RT Q } (ini 1 ds) μ:=by
 intro ds μ Q h
 replace h:=ecA h
 obtain ⟨d,ds,rfl,h⟩:=h
 replace h:=ecN h
 obtain ⟨rfl,h⟩:=h
 walk_at "ini"
 unfold iN
 walk_at "go"
 obtain ⟨R,⟨K,rfl⟩,k⟩:=h
 obtain ⟨xs,e,el⟩:=D3 K
 have q0:=K.t.q0
 have q1:=K.t.q1
 rw[e]
 walk_at "go"
 rw[el]
 walk_at "go"
 refine ⟨⟨by omega,by unfold ei;omega⟩,?_⟩
 rw[iw q0]
 exact ⟨_,.refl _,k⟩
def dk:FSp:=λds μ Q=>kcO ds λb ds=>kcS ds λn ds=>kcN ds ((Box μ b/\M7 n=true/\n≠MK "")/\∀ (w:WE) μ',w.Ok->w.nm=n->cC b μ μ'->Q w.toD μ')
theorem pw:∀ ds μ Q,dk ds μ Q->ds.length=2:=λ_ _ _ h=>lcO h λ_ _ h=>lcS h λ_ _ h=>by rw[(ecN h).1];rfl
def lu:STr:=aG (aQ (ak L3.rIx (eI (ag (ak aK (TC (.int 1)) (aq L3.aB (ag (ah 0) (ag (TC (.int 3)) (ar))))) (ag (ak aK (TC (.int 1)) (aq L3.aB (ag (ah 0) (ag (TC (.int 20)) (ar))))) (ar)))) (aq L3.aB (ag (ah 0) (ag (TC (.int 2)) (ar))))) (aw 2)) (aG (aQ (ak L3.rIx (eI (ag (TC .non) (ag (aq L3.aB (ag (ah 0) (ag (TC (.int 61)) (ar)))) (ar)))) (aq L3.aB (ag (ah 0) (ag (TC (.int 2)) (ar))))) (aw 3)) (a5 (a7 (ag (ah 1) (ag (ah 2) (ag (ak aK (TC (.int 1)) (aq L3.aB (ag (ah 0) (ag (TC (.int 60)) (ar))))) (ag (ah 3) (ag (ak L3.rIx (eI (ag (TC (.str "line")) (ag (TC (.str "turns")) (ar)))) (aq L3.aB (ag (ah 0) (ag (TC (.int 2)) (ar))))) (ar)))))))))
theorem sI:∀ ds μ Q,dk ds μ Q->lu { nx:=λ_ μ'=>RT Q .non μ',rt:=RT Q } (ini 4 ds) μ:=by
 intro ds μ Q h
 replace h:=ecO h
 obtain ⟨b,ds,rfl,h⟩:=h
 replace h:=ecS h
 obtain ⟨n,ds,rfl,h⟩:=h
 replace h:=ecN h
 obtain ⟨rfl,h⟩:=h
 walk_at "ini"
 unfold lu
 walk_at "go"
 obtain ⟨⟨hB,on,one⟩,k⟩:=h
 refine tkE hB (by decide) (by decide) λc1 μ1 c10 c11 B1=>?_
 walk_at "go"
 refine tkE B1.box (by decide) (by decide) λc2 μ2 c20 c21 B2=>?_
 walk_at "go"
 refine tkE B2.box (by decide) (by decide) λc3 μ3 c30 c31 B3=>?_
 have al:∀ d∈([.int (1+c1),.int (1+c2)]:List D),IsI 1 20 d:=a6 ⟨_,rfl,by omega,by omega⟩ (a6 ⟨_,rfl,by omega,by omega⟩ gY)
 obtain ⟨_,e1,pc,rfl,p0,p1⟩:=cZ al c30 c31
 walk_at "go"
 rw[e1]
 walk_at "go"
 refine tkE B3.box (by decide) (by decide) λc4 μ4 c40 c41 B4=>?_
 walk_at "go"
 refine tkE B4.box (by decide) (by decide) λc5 μ5 c50 c51 B5=>?_
 obtain ⟨mk,e2,_⟩:=cZ (P:=λ_=>True) (xs:=[.non,.int c4]) (λ_ _=>trivial) c50 c51
 walk_at "go"
 rw[e2]
 walk_at "go"
 refine tkE B5.box (by decide) (by decide) λc6 μ6 c60 c61 B6=>?_
 walk_at "go"
 refine tkE B6.box (by decide) (by decide) λc7 μ7 c70 c71 B7=>?_
 obtain ⟨so,e3,_⟩:=cZ (P:=λ_=>True) (xs:=[.str "line", .str "turns"]) (λ_ _=>trivial) c70 c71
 walk_at "go"
 rw[e3]
 walk_at "go"
 exact ⟨_,.refl _,k ⟨n,pc,.int (1+c6),mk,so⟩ _ ⟨on,one,p0,p1⟩ rfl (B1.trans (B2.trans (B3.trans (B4.trans (B5.trans (B6.trans B7))))))⟩
theorem iu {μ:Mu}{b p:Addr}(h:Box μ b)(hp:μ p=none):p≠b:=λz=>by subst z;obtain ⟨_,_,_,e,_⟩:=h;rw[hp] at e;cases e
theorem dD {μ:Mu}{b p:Addr}{o:MO}(h:Box μ b)(hp:p≠b):Box (up μ p o) b:=by
 obtain ⟨g,s,c,e,h0⟩:=h
 exact ⟨g,s,c,by rw[aT (Np hp)];exact e,h0⟩
theorem F0 {μ:Mu}{b p:Addr}(h:Box μ b)(hp:p≠b):Box (dn μ p) b:=by
 obtain ⟨g,s,c,e,h0⟩:=h
 exact ⟨g,s,c,by unfold L3.dn;rw[if_neg (Np hp)];exact e,h0⟩
theorem yI {G:GTr}{tt:TTr}{te:ETr}{ρc:ST}{ds:List D}{μ:Mu}{Q:DK}{a b:Addr}{full:List D}(hm:μ a=some (.lst full))(hB:Box μ b)(ab:a≠b)(I:List D->List D->Prop)(h0:I ds [])(hl:ds.length<=999999)
  (step:∀ d r zs μ',Box μ' b->I (d::r) zs->∀ (N:Option D->Mu->Prop),(∀ oy μ2,I r (zs++oy.toList)->cC b μ' μ2->N oy μ2)->G d ρc μ' λρ1 μ1=>tt ρ1 μ1 λc μ2=>kIf c (te ρ1 μ2 λy μ3=>N (some y) μ3) (N none μ2))
  (k:∀ zs μ',I [] zs->cC b μ μ'->Q (.ls zs) μ'):FA a full G tt te ρc ds μ Q:=by
 intro p hp
 have pb:=iu hB hp
 have pa:p≠a:=λz=>by subst z;rw[hm] at hp;cases hp
 refine kG (λr μ'=>∃ zs,I r zs/\zs.length+r.length<=ds.length/\μ' p=some (.lst zs)/\Box μ' b/\∀ x,x≠b->x≠p->μ' x=μ x) ?_ ?_ ?_ _ _ ⟨[],h0,by simp,aA,dD hB pb,λx _ h=>aT h⟩
 ·rintro r μ' ⟨zs,_,_,_,_,fr⟩
  rw[fr a ab (Np pa)];exact hm
 ·rintro μ' ⟨zs,hI,_,e,P,fr⟩
  refine bh e (k zs _ hI ⟨F0 P pb,λx hx=>?_⟩)
  unfold L3.dn
  split
  ·rename_i z;subst z;exact hp.symm
  ·rename_i z;exact fr x hx z
 ·rintro d r μ' N ⟨zs,hI,hz,e,P,fr⟩ hN
  rw[Nk] at hz
  refine step d r zs μ' P hI (λoy μ3=>match oy with
   | some y=>kL μ3 p λzs=>zs.length < 1000000/\N (up μ3 p (.lst (zs++[y])))
   | none=>N μ3) ?_
  intro oy μ2 hoy P2
  have e2:μ2 p=some (.lst zs):=by rw[P2.oth p pb];exact e
  cases oy with
  | none=>exact hN _ ⟨zs,by simpa using hoy,by omega,e2,P2.box,λx h1 h2=>(P2.oth x h1).trans (fr x h1 h2)⟩
  | some y=>
   refine bh e2 ⟨by omega,hN _ ⟨zs++[y],hoy,by rw[Nt];simp;omega,aA,dD P2.box pb,λx h1 h2=>?_⟩⟩
   rw[aT h2];exact (P2.oth x h1).trans (fr x h1 h2)
def b9:FSp:=λds μ Q=>kcO ds λb ds=>kcS ds λn ds=>kcO ds λa ds=>kcN ds (∃ ws:List WE,(Box μ b/\a≠b/\μ a=some (.lst (ws.map WE.toD))/\(0 < ws.length/\ws.length<=8)/\(∀ x∈ws,x.Ok)/\M7 n=true)/\∀ (s:SE) μ',s.Ok->s.nm=n->s.road.Sublist (ws.map WE.nm)->cC b μ μ'->Q s.toD μ')
theorem j4:∀ ds μ Q,b9 ds μ Q->ds.length=3:=λ_ _ _ h=>lcO h λ_ _ h=>lcS h λ_ _ h=>lcO h λ_ _ h=>by rw[(ecN h).1];rfl
def cn:STr:=aG (aQ (ak L3.rIx (eI (ag (TC (.int 0)) (ag (aq L3.aB (ag (ah 0) (ag (TC (.int 30)) (ar)))) (ag (aq L3.aB (ag (ah 0) (ag (ak aK (ak Af (TC (.int 10)) (TC (.int 6))) (TC (.int 1))) (ar)))) (ar))))) (aq L3.aB (ag (ah 0) (ag (TC (.int 3)) (ar))))) (aw 4)) (aG (aQ (ak L3.rIx (eI (ag (TC .non) (ag (aq L3.aB (ag (ah 0) (ag (TC (.int 50)) (ar)))) (ar)))) (aq L3.aB (ag (ah 0) (ag (TC (.int 2)) (ar))))) (aw 5)) (a5 (a7 (ag (ah 1) (ag (aq bR (ag (ah 3) (ar))) (ag (ak aK (TC (.int 1)) (aq L3.aB (ag (ah 0) (ag (TC (.int 8)) (ar))))) (ag (ah 4) (ag (ah 5) (ag (aq cL (ag (ah 0) (ar))) (ar))))))))))
def gG:STr:=aG (aQ (pY (ah 2) (aw 0) (TB (ak rEq (aq L3.aB (ag (ah 1) (ag (TC (.int 2)) (ar)))) (TC (.int 0)))) (ak L3.rIx (ah 0) (TC (.int 0))) 1 [0]) (aw 3)) (aG (df (TB (ak rEq (ah 3) (eI (ar)))) (aQ (eI (ag (ak L3.rIx (ak L3.rIx (ah 2) (aq L3.aB (ag (ah 0) (ag (aq gA (ag (ah 2) (ar))) (ar))))) (TC (.int 0))) (ar))) (aw 3)) (bT)) (cn))
theorem lG:∀ ds μ Q,b9 ds μ Q->gG { nx:=λ_ μ'=>RT Q .non μ',rt:=RT Q } (ini 6 ds) μ:=by
 intro ds μ Q h
 replace h:=ecO h
 obtain ⟨b,ds,rfl,h⟩:=h
 replace h:=ecS h
 obtain ⟨n,ds,rfl,h⟩:=h
 replace h:=ecO h
 obtain ⟨a,ds,rfl,h⟩:=h
 replace h:=ecN h
 obtain ⟨rfl,h⟩:=h
 walk_at "ini"
 unfold gG
 walk_at "go"
 obtain ⟨ws,⟨hB,ab,em,⟨l0,l1⟩,hw,on⟩,k⟩:=h
 refine bh em ?_
 refine yI em hB ab (λr zs=>∃ (rs:List WE) (ns:List Str),r=rs.map WE.toD/\zs=ns.map .str/\(∀ x∈rs,x∈ws)/\ns.length+rs.length<=8/\(ns++rs.map WE.nm).Sublist (ws.map WE.nm)) ⟨ws,[],rfl,rfl,(λ_ h=>h),by simpa using l1,Vx _⟩ (by simp;omega) ?_ ?_
 ·rintro d r zs μ1 hB1 ⟨rs,ns,er,rfl,hr,hl,hn⟩ N hN
  cases rs with
  | nil=>cases er
  | cons x rs=>
  cases er
  rw[Nk] at hl
  have hr':=λy hy=>hr y (MU x hy)
  walk_at "go"
  refine tkE hB1 (by decide) (by decide) λc μ2 c0 c1 B2=>?_
  walk_at "go"
  refine kif (λh=>?_) λh=>?_
  ·exact hN _ _ ⟨rs,ns++[x.nm],rfl,by simp,hr',by simp;omega,by simpa using hn⟩ B2
  ·exact hN none _ ⟨rs,ns,rfl,by simp,hr',by omega,(U9 (RV x.nm _) ns).trans hn⟩ B2
 ·rintro zs μ1 ⟨rs,ns,er,rfl,_,hl,hn⟩ B1
  walk_at "go"
  have hn:ns.Sublist (ws.map WE.nm):=(Rj ns _).trans hn
  have okn:∀ x∈ns,M7 x=true:=λx xi=>by
   obtain ⟨y,yi,rfl⟩:=M3.mp (hn.subset xi)
   exact (hw y yi).n
  have fin:∀ (x:Str) (xs:List Str) μ2,(∀ y∈x::xs,M7 y=true)->(x::xs).Sublist (ws.map WE.nm)->xs.length<=8->cC b μ μ2->cn { nx:=λ_ μ'=>RT Q .non μ',rt:=RT Q } [some (.obj b),some (.str n),some (.obj a),some (.ls ((x::xs).map .str)),none,none] μ2:=by
   intro x xs μ2 ho hx hxl B2
   unfold cn
   walk_at "go"
   refine tkE B2.box (by decide) (by decide) λc3 μ3 c30 c31 B3=>?_
   walk_at "go"
   refine ⟨⟨by decide,by decide,by decide⟩,?_⟩
   refine tkE B3.box (by decide) (by decide) λc4 μ4 c40 c41 B4=>?_
   walk_at "go"
   refine tkE B4.box (by decide) (by decide) λc5 μ5 c50 c51 B5=>?_
   obtain ⟨bg,e2,ob⟩:=cZ (P:=λd=>okD 38 d=true) (xs:=[.int 0,.int c3,.int c4]) (a6 rfl (a6 rfl (a6 rfl gY))) c50 c51
   walk_at "go"
   rw[e2]
   walk_at "go"
   refine tkE B5.box (by decide) (by decide) λc6 μ6 c60 c61 B6=>?_
   walk_at "go"
   refine tkE B6.box (by decide) (by decide) λc7 μ7 c70 c71 B7=>?_
   obtain ⟨mn,e3,om⟩:=cZ (P:=λd=>okD 38 d=true) (xs:=[.non,.int c6]) (a6 rfl (a6 rfl gY)) c70 c71
   walk_at "go"
   rw[e3]
   walk_at "go"
   refine tkE B7.box (by decide) (by decide) λc8 μ8 c80 c81 B8=>?_
   walk_at "go"
   refine ⟨B8.box,λR μ9 K B9=>?_⟩
   walk_at "go"
   exact ⟨_,.refl _,k ⟨n,x,xs,1+c8,bg,mn,R⟩ _ ⟨on,ho,by show 1<=1+c8;omega,by show 1+c8<=8;omega,K,ob,om⟩ rfl hx (B2.trans (B3.trans (B4.trans (B5.trans (B6.trans (B7.trans (B8.trans B9))))))) ⟩
  cases ns with
  | cons x xs=>
   walk_at "go"
   rw[Nk] at hl
   exact ⟨by rw[okn x MS,ki λy z=>okn y (MU _ z)];rfl,fin x xs μ1 okn hn (by omega) B1⟩
  | nil=>
   walk_at "go"
   have em1:μ1 a=some (.lst (ws.map WE.toD)):=by rw[B1.oth a ab];exact em
   refine bh em1 ?_
   rw[MX]
   refine tkE B1.box (by omega) (by omega) λc μ2 c0 c1 B2=>?_
   have em2:μ2 a=some (.lst (ws.map WE.toD)):=by rw[B2.oth a ab];exact em1
   walk_at "go"
   refine bh em2 ?_
   obtain ⟨_,e2,y,hy,rfl⟩:=cZ (P:=λd=>∃ y,y∈ws/\d=y.toD) (xs:=ws.map WE.toD) (λd hd=>by obtain ⟨y,hy,rfl⟩:=M3.mp hd;exact ⟨y,hy,rfl⟩) c0 (by rw[MX];exact c1)
   refine wm e2 ?_
   walk_at "go"
   exact fin y.nm [] μ2 (λz hz=>by rw[MV.mp hz];exact (hw y hy).n) (List.singleton_sublist.mpr (M3.mpr ⟨y,hy,rfl⟩)) (by decide) (B1.trans B2)
def cE:List Str:=[MK "a", MK "ab", MK "b", MK "ba", MK "bb", MK "c", MK "line", MK "longest", MK "longests", MK "m", MK "turns", MK "way", MK "x", MK "z", MK "zz"]
theorem Ak:cE.Nodup:=by decide +kernel
theorem AH:∀ x∈cE,M7 x=true/\x≠MK "" := by decide +kernel
theorem zc (lo:Int)(m:Nat):cV lo (m+1)=.int lo::cV (lo+1) m:=by
 unfold cV
 rw[List.range_succ_eq_map]
 rw[Ni,NL]
 congr 1
 ·simp
 ·refine Pl λi _=>?_
  show D.int (lo+((i+1:Nat):Int))=D.int (lo+1+(i:Int))
  congr 1
  omega
theorem ixE {n j:Nat}(h:j < n):L2.ixN n (j:Int)=some j:=by
 unfold L2.ixN
 rw[if_pos (Oz j),if_pos (by omega)]
 simp
theorem La {α β:Type}(f:α->β):∀ (xs:List α) (j:Nat),(xs.map f).eraseIdx j=(xs.eraseIdx j).map f
 | [],_=>rfl
 | _::_,0=>rfl
 | x::r,j+1=>by rw[Ni,RB,RB,Ni,La f r j]
theorem K3 {α:Type}:∀ (xs:List α) (j:Nat) (h:j < xs.length),(xs.eraseIdx j++[xs[j]]).Perm xs
 | x::r,0,_=>List.perm_append_singleton x r
 | x::r,j+1,h=>(K3 r j (Nat.lt_of_succ_lt_succ h)).cons x
def enF (i:Nat):List Str->List D
 | []=>[]
 | x::r=>.tup [.int (i:Nat),.str x]::enF (i+1) r
theorem xt:∀ (T:List Str) (k i:Nat),(enF k T)[i]? = T[i]?.map λx=>.tup [.int ((k+i:Nat):Int),.str x]
 | [],_,_=>rfl
 | x::r,k,0=>rfl
 | x::r,k,i+1=>by
  show (enF (k+1) r)[i]? = r[i]?.map _
  rw[xt r (k+1) i,show k+1+i=k+(i+1) by omega]
theorem yZ (T:List Str):gW (T.map .str)=enF 0 T:=by
 refine List.ext_getElem? λi=>?_
 rw[oj,xt,Nv,Option.map_map,Vj]
 rfl
theorem Mf (xs:List D){k:Int}(k0:0<=k):cutD xs none (some k)=xs.take k.toNat:=by
 have:=EO xs k.toNat
 rwa [Qs k0] at this
def cP:FSp:=λds μ Q=>kcL ds λxs ds=>kcN ds ((∃ ns:List Int,xs=ns.map .int)/\∀ (g:D) (ws:List WE) (ss:List SE) μ',PE' ws ss->(∀ x∈ws,x.nm∈cE)->(∀ x∈ss,x.nm∈cE)->ws.length<=6->Q (ba g ws ss) μ')
theorem mX:∀ ds μ Q,cP ds μ Q->ds.length=1:=λ_ _ _ h=>lcL h λ_ _ h=>by rw[(ecN h).1];rfl
def jV:STr:=aG (aQ (aq L3.fT (ag (ah 0) (ag (TC (.int 0)) (ar)))) (aw 1)) (aG (aQ (jc (ag (TC (.str "a")) (ag (TC (.str "ab")) (ag (TC (.str "b")) (ag (TC (.str "ba")) (ag (TC (.str "bb")) (ag (TC (.str "c")) (ag (TC (.str "line")) (ag (TC (.str "longest")) (ag (TC (.str "longests")) (ag (TC (.str "m")) (ag (TC (.str "turns")) (ag (TC (.str "way")) (ag (TC (.str "x")) (ag (TC (.str "z")) (ag (TC (.str "zz")) (ar))))))))))))))))) (aw 2)) (aG (aQ (jc (ar)) (aw 3)) (aG (fK (eU (TC (.int 8))) (aw 4) (fq (kU (ah 3) (HS (ah 2) (aq L3.aB (ag (ah 1) (ag (aq gA (ag (ah 2) (ar))) (ar)))))))) (aG (aQ (jc (ar)) (aw 5)) (aG (fK (eU (ak aK (TC (.int 1)) (aq L3.aB (ag (ah 1) (ag (TC (.int 6)) (ar)))))) (aw 4) (fq (kU (ah 5) (aq dk (ag (aq L3.fT (ag (ah 0) (ag (ak aK (TC (.int 1)) (ah 4)) (ar)))) (ag (ak L3.rIx (ah 3) (ak fv (ak aK (ak bX (TC (.int 3)) (ah 4)) (TC (.int 1))) (TC (.int 8)))) (ar))))))) (aG (aQ (jc (ar)) (aw 6)) (aG (fK (wc (ag (TSl (aq vw (ag (yq (ah 3)) (ar))) (ONo) (mN (aq L3.aB (ag (ah 1) (ag (TC (.int 9)) (ar)))))) (ar))) (dR [4,7]) (fq (kU (ah 6) (aq b9 (ag (aq L3.fT (ag (ah 0) (ag (ak aK (TC (.int 7)) (ah 4)) (ar)))) (ag (ah 7) (ag (ah 5) (ar)))))))) (a5 (a7 (ag (ak aK (TC (.int 1)) (aq L3.aB (ag (ah 1) (ag (TC (.int 60)) (ar))))) (ag (aq bR (ag (ah 5) (ar))) (ag (aq bR (ag (ah 6) (ar))) (ar)))))))))))))
theorem qH:∀ ds μ Q,cP ds μ Q->jV { nx:=λ_ μ'=>RT Q .non μ',rt:=RT Q } (ini 8 ds) μ:=by
 intro ds μ Q h
 replace h:=ecL h
 obtain ⟨xs,ds,rfl,h⟩:=h
 replace h:=ecN h
 obtain ⟨rfl,h⟩:=h
 walk_at "ini"
 unfold jV
 walk_at "go"
 obtain ⟨⟨ns,rfl⟩,k⟩:=h
 refine ⟨⟨ns,rfl,by decide,by decide⟩,λb μ1 hb hB1 oth1=>?_⟩
 walk_at "go"
 refine ⟨by simp,λp2 hp2 p3 hp3=>?_⟩
 have b2:=iu hB1 hp2
 have p32:p3≠p2:=λz=>by subst z;rw[aA] at hp3;cases hp3
 have LZ:μ1 p3=none:=by rw[aT p32] at hp3;exact hp3
 have b3:=iu hB1 LZ
 refine bz (λr ρ μ'=>∃ (st nm:List Str) (v4:Option D),ρ=[some (.ls (ns.map .int)),some (.obj b),some (.obj p2),some (.obj p3),v4,none,none,none]/\μ' p2=some (.lst (st.map .str))/\μ' p3=some (.lst (nm.map .str))/\Box μ' b/\(st++nm).Perm cE/\nm.length+r.length=8) ?_ ?_ _ _ _ ⟨cE,[],_,rfl,by rw[aT (Np p32),aA];rfl,by rw[aA];rfl,dD (dD hB1 b2) b3,by rw[NN],by simp[cV]⟩
 rotate_left
 ·rintro d r ρ μ2 N ⟨st,nm,v4,rfl,e2,e3,hB,pm,hl⟩ hN
  rw[Nk] at hl
  have pl:=pm.length_eq
  rw[Nt,show cE.length=15 from rfl] at pl
  walk_at "go"
  refine bh e3 (bh e2 (bh e2 ?_))
  rw[MX]
  refine tkE hB (by omega) (by omega) λc μ3 c0 c1 B3=>?_
  walk_at "go"
  have e2':μ3 p2=some (.lst (st.map .str)):=by rw[B3.oth p2 b2];exact e2
  have e3':μ3 p3=some (.lst (nm.map .str)):=by rw[B3.oth p3 b3];exact e3
  refine ⟨⟨by omega,by omega⟩,bh e2' ?_⟩
  obtain ⟨j,rfl⟩:=OT c0
  have hj:j < st.length:=by omega
  rw[MX,ixE hj]
  walk_at "go"
  rw[Nv,MZ hj]
  walk_at "go"
  refine bh (by rw[aT p32];exact e3') ⟨by rw[MX];omega,hN _ _ ⟨st.eraseIdx j,nm++[st[j]],_,rfl,?_,?_,dD (dD B3.box b2) b3,?_,by simp;omega⟩⟩
  ·rw[aT (Np p32),aA,La]
  ·rw[aA];simp
  ·refine UD ?_ pm
   have h1:=(K3 st j hj).append_right nm
   refine UD ?_ h1
   rw[List.append_assoc]
   exact List.Perm.append_left _ List.perm_append_comm
 rintro ρ μ2 ⟨st,nm,v4,rfl,e2,e3,hB,pm,hl⟩
 have nl:nm.length=8:=by simpa using hl
 have nnd:nm.Nodup:=((pm.nodup_iff.mpr Ak).sublist (List.sublist_append_right st nm))
 have KW:∀ x∈nm,M7 x=true/\x≠MK "" := λx hx=>AH x (pm.mem_iff.mp (Ng _ hx))
 have nok:∀ x∈nm,M7 x=true:=λx hx=>(KW x hx).1
 walk_at "go"
 intro p5 hp5
 have b5:=iu hB hp5
 have p53:p5≠p3:=λz=>by subst z;rw[e3] at hp5;cases hp5
 refine tkE (dD hB b5) (by decide) (by decide) λc μ3 c0 c1 B3=>?_
 walk_at "go"
 refine ⟨⟨by omega,by omega⟩,?_⟩
 refine bz (λr ρ μ'=>∃ (wl:List WE) (v4:Option D),ρ=[some (.ls (ns.map .int)),some (.obj b),some (.obj p2),some (.obj p3),v4,some (.obj p5),none,none]/\μ' p3=some (.lst (nm.map .str))/\μ' p5=some (.lst (wl.map WE.toD))/\Box μ' b/\(∀ x∈wl,x.Ok)/\(∃ m,r=cV wl.length m/\wl.length+m=(1+c).toNat)/\∀ i < wl.length,(wl.map WE.nm)[i]? = nm[(3*i+1) % 8]?) ?_ ?_ _ _ _ ⟨[],_,rfl,by rw[B3.oth p3 b3,aT (Np p53)];exact e3,by rw[B3.oth p5 b5,aA];rfl,B3.box,(λ_ h=>nomatch h),⟨(1+c).toNat,rfl,by simp⟩,λi h=>nomatch h⟩
 rotate_left
 ·rintro d r ρ μ4 N ⟨wl,v4,rfl,e3,e5,hB,hw,⟨m,hl,hm⟩,hI⟩ hN
  cases m with
  | zero=>cases hl
  | succ m=>
  rw[zc] at hl
  obtain ⟨rfl,hr⟩:=Ri hl
  generalize hi:(wl.length:Int)=i at hr ⊢
  have i0:0<=i:=by omega
  have i1:i<=5:=by omega
  walk_at "go"
  refine bh e5 ?_
  refine ⟨⟨ns,rfl,by omega,by omega⟩,λb' μ5 hb' hB' oth'=>?_⟩
  have n3:p3≠b':=λz=>by subst z;rw[e3] at hb';cases hb'
  have n5:p5≠b':=λz=>by subst z;rw[e5] at hb';cases hb'
  have nb:b≠b':=Np (iu hB hb')
  have e3':μ5 p3=some (.lst (nm.map .str)):=by rw[oth' p3 n3];exact e3
  have e5':μ5 p5=some (.lst (wl.map WE.toD)):=by rw[oth' p5 n5];exact e5
  walk_at "go"
  refine ⟨.inl (.inl (by unfold S64;decide)),by decide,bh e3' ?_⟩
  have m0:=fm0 (a:=3*i+1) (n:=8) (by decide)
  have m1:=fm1 (a:=3*i+1) (n:=8) (by decide)
  have mt:(3*i+1).fmod 8=(((3*wl.length+1) % 8:Nat):Int):=by rw[← hi,Int.fmod_eq_emod_of_nonneg _ (by decide)];omega
  have mlt:(3*wl.length+1) % 8 < nm.length:=by omega
  have ex:atD (nm.map D.str) ((3*i+1).fmod 8)=some (.str nm[(3*wl.length+1) % 8]):=by rw[mt,bF,Nv,MZ mlt];rfl
  have hx:nm[(3*wl.length+1) % 8]∈nm:=P6 mlt
  generalize hxe:nm[(3*wl.length+1) % 8]=x at ex hx
  refine wm ex ?_
  refine ⟨⟨hB',KW x hx⟩,λw μ6 W wn B6=>?_⟩
  have e3'':μ6 p3=some (.lst (nm.map .str)):=by rw[B6.oth p3 n3];exact e3'
  have e5'':μ6 p5=some (.lst (wl.map WE.toD)):=by rw[B6.oth p5 n5];exact e5'
  have hB6:Box μ6 b:=by
   obtain ⟨g,s,c,e,h0⟩:=hB
   exact ⟨g,s,c,by rw[B6.oth b nb,oth' b nb];exact e,h0⟩
  refine bh e5'' ⟨by rw[MX];omega,hN _ _ ⟨wl++[w],_,rfl,by rw[aT (Np p53)];exact e3'',by rw[aA];simp,dD hB6 b5,?_,⟨m,by rw[hr,Nt,← hi];rfl,by simp;omega⟩,λj hj=>?_⟩⟩
  ·intro y hy
   rcases NM.mp hy with z | z
   ·exact hw y z
   ·rw[MV.mp z];exact W
  ·rw[Nt,R7] at hj
   rw[NG]
   by_cases jl:j < wl.length
   ·rw[OB (by rw[MX];exact jl)]
    exact hI j jl
   ·have:j=wl.length:=by omega
    subst this
    rw[Ow (by rw[MX];exact M0 _),MX,RL,MZ mlt,hxe,← wn]
    rfl
 rintro ρ μ4 ⟨wl,v4,rfl,e3,e5,hB,hw,⟨m,hl,hm⟩,hI⟩
 have wl':wl.length=(1+c).toNat:=by
  cases m with
  | zero=>omega
  | succ m=>rw[zc] at hl;cases hl
 have wnd:(wl.map WE.nm).Nodup:=by
  refine List.pairwise_iff_getElem.mpr λi j hi hj ij e=>?_
  rw[MX] at hi hj
  have a1:(3*i+1) % 8 < nm.length:=by omega
  have a2:(3*j+1) % 8 < nm.length:=by omega
  have h1:=hI i hi
  have h2:=hI j hj
  rw[MZ (by rw[MX];exact hi),MZ a1] at h1
  rw[MZ (by rw[MX];exact hj),MZ a2] at h2
  have:=(T9 nnd).mp ((Nl h1).symm.trans (e.trans (Nl h2)))
  omega
 walk_at "go"
 intro p6 hp6
 have b6:=iu hB hp6
 have p63:p6≠p3:=λz=>by subst z;rw[e3] at hp6;cases hp6
 have p65:p6≠p5:=λz=>by subst z;rw[e5] at hp6;cases hp6
 refine bh (by rw[aT (Np p63)];exact e3) ?_
 refine ⟨nm,⟨rfl,by omega⟩,λsn sp1 sp2=>?_⟩
 have e5d:dn (up μ4 p6 (.lst [])) p3 p5=some (.lst (wl.map WE.toD)):=by unfold L3.dn;rw[if_neg p53,aT (Np p65)];exact e5
 have e6d:dn (up μ4 p6 (.lst [])) p3 p6=some (.lst []):=by unfold L3.dn;rw[if_neg p63,aA]
 have hBd:=F0 (dD (o:=.lst []) hB b6) b3
 generalize dn (up μ4 p6 (.lst [])) p3=μ5 at e5d e6d hBd
 refine tkE hBd (by decide) (by decide) λc9 μ6 c90 c91 B6=>?_
 walk_at "go"
 rw[Mf _ c90,← List.map_take,yZ]
 generalize hT:sn.take c9.toNat=T
 have snd:sn.Nodup:=sp1.nodup_iff.mpr nnd
 have Tnd:T.Nodup:=by rw[← hT];exact snd.sublist (Tz _ _)
 have Tok:∀ x∈T,M7 x=true:=λx hx=>nok x (sp1.mem_iff.mp (by rw[← hT] at hx;exact Sv hx))
 have Tl:T.length<=8:=by rw[← hT,PY,sp1.length_eq];omega
 refine bz (λr ρ μ'=>∃ (dn rest:List Str) (sl:List SE) (v4 v7:Option D),r=enF dn.length rest/\dn++rest=T/\sl.map SE.nm=dn/\(∀ s∈sl,s.Ok/\s.road.Sublist (wl.map WE.nm))/\ρ=[some (.ls (ns.map .int)),some (.obj b),some (.obj p2),some (.obj p3),v4,some (.obj p5),some (.obj p6),v7]/\μ' p5=some (.lst (wl.map WE.toD))/\μ' p6=some (.lst (sl.map SE.toD))/\Box μ' b) ?_ ?_ _ _ _ ⟨[],T,[],_,_,rfl,rfl,rfl,(λ_ h=>nomatch h),rfl,by rw[B6.oth p5 b5];exact e5d,by rw[B6.oth p6 b6];exact e6d,B6.box⟩
 rotate_left
 ·rintro d r ρ μ7 N ⟨dn,rest,sl,v4,v7,er,eT,en,hs,rfl,e5,e6,hB⟩ hN
  cases rest with
  | nil=>cases er
  | cons x rest=>
  cases er
  have Tl':dn.length+(rest.length+1)=T.length:=by rw[← eT];simp
  have xok:=Tok x (by rw[← eT];simp)
  walk_at "go"
  refine bh e6 ?_
  refine ⟨⟨ns,rfl,by omega,by omega⟩,λb' μ8 hb' hB' oth'=>?_⟩
  have n5:p5≠b':=λz=>by subst z;rw[e5] at hb';cases hb'
  have n6:p6≠b':=λz=>by subst z;rw[e6] at hb';cases hb'
  have nb:b≠b':=Np (iu hB hb')
  have e5':μ8 p5=some (.lst (wl.map WE.toD)):=by rw[oth' p5 n5];exact e5
  have e6':μ8 p6=some (.lst (sl.map SE.toD)):=by rw[oth' p6 n6];exact e6
  walk_at "go"
  refine ⟨wl,⟨hB',n5,e5',⟨by omega,by omega⟩,hw,xok⟩,λs μ9 S sn' so B9=>?_⟩
  have hB9:Box μ9 b:=by
   obtain ⟨g,s,c,e,h0⟩:=hB
   exact ⟨g,s,c,by rw[B9.oth b nb,oth' b nb];exact e,h0⟩
  refine bh (by rw[B9.oth p6 n6];exact e6') ⟨by rw[MX,show sl.length=dn.length by rw[← en,MX]];omega,hN _ _ ⟨dn++[x],rest,sl++[s],_,_,by rw[Nt];rfl,by rw[← eT];simp,by rw[NG,en];simp[sn'],?_,rfl,by rw[aT (Np p65),B9.oth p5 n5];exact e5',by rw[aA];simp,dD hB9 b6⟩⟩
  intro y hy
  rcases NM.mp hy with z | z
  ·exact hs y z
  ·rw[MV.mp z];exact ⟨S,so⟩
 rintro ρ μ7 ⟨dn,rest,sl,v4,v7,er,eT,en,hs,rfl,e5,e6,hB⟩
 cases rest with
 | cons _ _=>cases er
 | nil=>
 rw[NN] at eT
 walk_at "go"
 refine tkE hB (by decide) (by decide) λc10 μ8 c100 c101 B8=>?_
 walk_at "go"
 refine bh (by rw[B8.oth p5 b5];exact e5) ?_
 walk_at "go"
 refine bh (by rw[B8.oth p6 b6];exact e6) ?_
 refine ⟨_,.refl _,k (.int (1+c10)) wl sl _ ⟨hw,(λs h=>(hs s h).1),(λs h=>(hs s h).2),by omega,by rw[← MX (f:=SE.nm),en,eT];exact Tl,by rw[en,eT];exact Tnd,wnd⟩ (λx hx=>?_) (λx hx=>?_) (by omega)⟩
 ·have h0:x.nm∈wl.map WE.nm:=M3.mpr ⟨x,hx,rfl⟩
  obtain ⟨i,hi,e⟩:=List.getElem_of_mem h0
  have h1:=hI i (by rw[MX] at hi;exact hi)
  rw[MZ hi,e] at h1
  exact pm.mem_iff.mp (Ng _ (Oh h1.symm))
 ·have h0:x.nm∈T:=by rw[← eT,← en];exact M3.mpr ⟨x,hx,rfl⟩
  rw[← hT] at h0
  exact pm.mem_iff.mp (Ng _ (sp1.mem_iff.mp (Sv h0)))
def bG (ss:List SE)(f:Fm):List (L2.Key×D):=ss.map λs=>(.inr s.nm,frR (val f s))
theorem yt {tab:List (L2.Key×D)}{k:L2.Key}{d:D}(h:k ∉ tab.map (·.1)):putD tab k d=tab++[(k,d)]:=by
 unfold putD
 rw[if_neg]
 intro z
 obtain ⟨y,hy,e⟩:=Ou.mp z
 exact h (M3.mpr ⟨y,hy,by simpa using e⟩)
theorem lj:∀ (ps acc:List (L2.Key×D)),((acc++ps).map (·.1)).Nodup->cm acc ps=acc++ps
 | [],acc,_=>by rw[NN];rfl
 | y::r,acc,h=>by
  have e:cm acc (y::r)=cm (putD acc y.1 y.2) r:=rfl
  have n:y.1 ∉ acc.map (·.1):=λz=>by
   rw[NG,Ni] at h
   exact (Q4.mp h).2.2 _ z _ MS rfl
  rw[e,yt n,lj r (acc++[(y.1,y.2)]) (by simpa using h)]
  simp
theorem z6 {ss:List SE}{f:Fm}(h:(ss.map SE.nm).Nodup):((bG ss f).map (·.1)).Nodup:=by
 unfold bG
 rw[NL]
 have:((ss.map SE.nm).map (QU:Str->L2.Key)).Nodup:=by
  exact T6 _ (λa b ne e=>ne (by injection e)) h
 simpa[NL,Q5] using this
def aP:FSp:=λds μ Q=>kcA ds λd ds=>kcN ds (∃ (g:D) (ws:List WE) (ss:List SE),(d=ba g ws ss/\PE' ws ss)/\∀ p μ',Sub μ μ'->μ p=none->μ' p=some (.dcF (bG ss (evF ws ss)))->Q (.obj p) μ')
theorem jY:∀ ds μ Q,aP ds μ Q->ds.length=1:=λ_ _ _ h=>lcA h λ_ _ h=>by rw[(ecN h).1];rfl
def gJ:STr:=a5 (xj (aq oF (ag (bS (dh (aq iU (ag (ah 0) (ar)))) (aw 0) (j1) (TSl (ah 0) (ONo) (mN (TC (.int 2)))) 1 []) (ar))))
theorem l6:∀ ds μ Q,aP ds μ Q->gJ { nx:=λ_ μ'=>RT Q .non μ',rt:=RT Q } (ini 1 ds) μ:=by
 intro ds μ Q h
 replace h:=ecA h
 obtain ⟨d,ds,rfl,h⟩:=h
 replace h:=ecN h
 obtain ⟨rfl,h⟩:=h
 walk_at "ini"
 unfold gJ
 walk_at "go"
 obtain ⟨g,ws,ss,⟨rfl,P⟩,k⟩:=h
 have sl:=P.sl
 refine ⟨g,ws,ss,⟨rfl,P⟩,λμ1 sb=>?_⟩
 generalize evF ws ss=f at k ⊢
 walk_at "go"
 refine b7 ss (λs=>.tup [.str s.nm,frR (val f s),.str (A3 ws ss f s)]) (λs=>.tup [.str s.nm,frR (val f s)]) rfl (by omega) (λs hs μ' s' N m=>?_) ?_
 ·walk_at "go"
  exact m
 walk_at "go"
 refine ⟨bG ss f,by unfold bG;rw[NL];rfl,by unfold bG;simp;omega,λp hp=>?_⟩
 rw[lj _ [] (by simpa using z6 P.nd),Pq]
 walk_at "go"
 have hp0:μ p=none:=by
  cases e:μ p with
  | none=>rfl
  | some o=>rw[sb p o e] at hp;cases hp
 refine ⟨_,.refl _,k p _ (λa o e=>?_) hp0 aA⟩
 have n:a≠p:=λz=>by subst z;rw[hp0] at e;cases e
 rw[aT n]
 exact sb a o e
theorem GC (i0 i1 i2 i3 i4:Nat)(w:WE)(ρ:ST)(μ:Mu)(k:ST->Mu->Prop):dR [i0,i1,i2,i3,i4] w.toD ρ μ k=dR [i0,i1,i2,i3,i4] (.tup [.str w.nm,.int w.pc,w.rm,w.ma,w.so]) ρ μ k:=propext MT
theorem GO (i0 i1 i2 i3 i4 i5:Nat)(s:SE)(ρ:ST)(μ:Mu)(k:ST->Mu->Prop):dR [i0,i1,i2,i3,i4,i5] s.toD ρ μ k=dR [i0,i1,i2,i3,i4,i5] (.tup [.str s.nm,.tup (s.road.map .str),.int s.bt,s.bg,s.mn,s.R.toD]) ρ μ k:=propext MT
theorem o5 {α β:Type}{f:α->β}{xs ys:List α}(h:xs.map f=ys.map f):xs.length=ys.length:=by
 have:=congrArg NZ h
 simpa using this
theorem KU {ws ws':List WE}(h:ws'.map kyW=ws.map kyW):ws'.map WE.nm=ws.map WE.nm:=by
 have:=congrArg (TR Prod.fst) h
 simpa[NL,Q5,kyW] using this
theorem Cm {ss ss':List SE}(h:ss'.map kyS=ss.map kyS):ss'.map SE.nm=ss.map SE.nm:=by
 have:=congrArg (TR Prod.fst) h
 simpa[NL,Q5,kyS] using this
theorem C2 {ws ws':List WE}{ss ss':List SE}(P:PE' ws ss)(hw:ws'.map kyW=ws.map kyW)(hs:ss'.map kyS=ss.map kyS)(ow:∀ x∈ws',x.Ok)(os:∀ x∈ss',x.Ok):PE' ws' ss':=by
 have n1:=KU hw
 have n2:=Cm hs
 refine ⟨ow,os,λx hx=>?_,by rw[o5 hw];exact P.wl,by rw[o5 hs];exact P.sl,by rw[n2];exact P.nd,by rw[n1];exact P.wn⟩
 obtain ⟨y,hy,e⟩:=pB hs hx
 simp only[kyS,Qa] at e
 have:y.road=x.road:=by unfold SE.road;rw[e.2.1,e.2.2.1]
 rw[n1,← this]
 exact P.rd y hy
theorem yk {L:Int}(h1:1<=L)(h2:L<=60):∀ d∈([.tup [.str "still", .tup [.int L,.int 1]],.tup [.str "step", .tup [.int 1,.int 1],.tup [.int 1,.int 2],.tup [.int 1,.int 3],.tup [.int L,.int 1]],.tup [.str "calm", .tup [.int L,.int 1],.tup [.int 2,.int 1],.int 1,.int 3,.tup [.int L,.int 1]]]:List D),
  ∃ R:RN,R.Ok/\d=R.toD/\R.r / R.s=L:=by
 have t:FrB 1 60 L 1:=⟨by decide,by decide,by simp,by omega,by omega⟩
 have o:FrA 0 1 1 1:=DA (by decide) (by decide)
 have o6:FrA 0 60 1 1:=DA (by decide) (by decide)
 have w1:FrB 1 60 1 1:=⟨by decide,by decide,by decide,by decide,by decide⟩
 have x2:FrA 0 60 1 2:=⟨⟨by decide,by decide,by decide,by decide,by decide⟩,by decide⟩
 have x3:FrA 0 1 1 3:=⟨⟨by decide,by decide,by decide,by decide,by decide⟩,by decide⟩
 have y2:FrA 0 60 2 1:=⟨⟨by decide,by decide,by decide,by decide,by decide⟩,by decide⟩
 have z0:(0:Int)<=0:=by decide
 have z1:(0:Int)<=60:=by decide
 have z2:(0:Int)<=1:=by decide
 have z3:(1:Int)<=3:=by decide
 have z4:(3:Int)<=60:=by decide
 have z5:(1:Int) < 3:=by decide
 intro d hd
 rcases MY.mp hd with rfl | hd
 ·exact ⟨⟨.jz,L,1,1,1,1,1,0,0,L,1⟩,⟨t,t,by show L*1<=L*1;omega,o6,(λz=>nomatch z),o,(λz=>by rcases z with z | z<;>cases z),z0,z0,z1,λ_=>⟨rfl,rfl⟩⟩,rfl,RH L⟩
 rcases MY.mp hd with rfl | hd
 ·exact ⟨⟨.step,1,1,1,2,1,3,0,0,L,1⟩,⟨w1,t,by show 1*1<=L*1;omega,x2,(λz=>nomatch z),x3,(λ_=>z5),z0,z0,z1,λz=>nomatch z⟩,rfl,RH L⟩
 rcases MY.mp hd with rfl | hd
 ·exact ⟨⟨.calm,L,1,2,1,1,1,1,3,L,1⟩,⟨t,t,by show L*1<=L*1;omega,y2,(λz=>nomatch z),o,(λz=>by rcases z with z | z<;>cases z),z2,z3,z4,λz=>nomatch z⟩,rfl,RH L⟩
 cases hd
def cJ:FSp:=λds μ Q=>kcO ds λb ds=>kcA ds λd ds=>kcN ds (∃ (g:D) (ws:List WE) (ss:List SE),(d=ba g ws ss/\PE' ws ss/\Box μ b)/\∀ (g':D) (ws':List WE) (ss':List SE) μ',ws'.map kyW=ws.map kyW->ss'.map kyS=ss.map kyS->PE' ws' ss'->Sx b μ μ'->Q (ba g' ws' ss') μ')
theorem nF:∀ ds μ Q,cJ ds μ Q->ds.length=2:=λ_ _ _ h=>lcO h λ_ _ h=>lcA h λ_ _ h=>by rw[(ecN h).1];rfl
def jw:STr:=aG (aQ (jc (ar)) (aw 2)) (aG (fK (dh (ak L3.rIx (ah 1) (TC (.int 1)))) (dR [3,4,5,6,7]) (fq (kU (ah 2) (a7 (ag (ah 3) (ag (ah 4) (ag (ak aK (TC (.int 1)) (aq L3.aB (ag (ah 0) (ag (TC (.int 60)) (ar))))) (ag (ak L3.rIx (eI (ag (TC .non) (ag (aq L3.aB (ag (ah 0) (ag (TC (.int 9)) (ar)))) (ar)))) (aq L3.aB (ag (ah 0) (ag (TC (.int 2)) (ar))))) (ag (TC (.str "turns")) (ar)))))))))) (aG (aQ (jc (ar)) (aw 8)) (aG (fK (dh (ak L3.rIx (ah 1) (TC (.int 2)))) (dR [3,9,10,11,12,13]) (aG (aQ (a7 (ag (aq cu (ag (ah 13) (ar))) (ag (TC (.int 1)) (ar)))) (aw 14)) (aG (aQ (eI (ag (a7 (ag (TC (.str "still")) (ag (ah 14) (ar)))) (ag (a7 (ag (TC (.str "step")) (ag (a7 (ag (TC (.int 1)) (ag (TC (.int 1)) (ar)))) (ag (a7 (ag (TC (.int 1)) (ag (TC (.int 2)) (ar)))) (ag (a7 (ag (TC (.int 1)) (ag (TC (.int 3)) (ar)))) (ag (ah 14) (ar))))))) (ag (a7 (ag (TC (.str "calm")) (ag (ah 14) (ag (a7 (ag (TC (.int 2)) (ag (TC (.int 1)) (ar)))) (ag (TC (.int 1)) (ag (TC (.int 3)) (ag (ah 14) (ar)))))))) (ar))))) (aw 15)) (fq (kU (ah 8) (a7 (ag (ah 3) (ag (ah 9) (ag (ah 10) (ag (aq L3.aB (ag (ah 0) (ag (TC (.int 99)) (ar)))) (ag (ak L3.rIx (eI (ag (TC .non) (ag (TC (.int 0)) (ar)))) (aq L3.aB (ag (ah 0) (ag (TC (.int 2)) (ar))))) (ag (ak L3.rIx (ah 15) (aq L3.aB (ag (ah 0) (ag (TC (.int 3)) (ar))))) (ar))))))))))))) (a5 (a7 (ag (ak aK (TC (.int 1)) (aq L3.aB (ag (ah 0) (ag (TC (.int 60)) (ar))))) (ag (aq bR (ag (ah 2) (ar))) (ag (aq bR (ag (ah 8) (ar))) (ar)))))))))
theorem oV:∀ ds μ Q,cJ ds μ Q->jw { nx:=λ_ μ'=>RT Q .non μ',rt:=RT Q } (ini 16 ds) μ:=by
 intro ds μ Q h
 replace h:=ecO h
 obtain ⟨b,ds,rfl,h⟩:=h
 replace h:=ecA h
 obtain ⟨d,ds,rfl,h⟩:=h
 replace h:=ecN h
 obtain ⟨rfl,h⟩:=h
 walk_at "ini"
 unfold jw
 walk_at "go"
 obtain ⟨g,ws,ss,⟨rfl,P,hB⟩,k⟩:=h
 have sl:=P.sl
 have wl:=P.wl
 intro q hq
 have qb:=iu hB hq
 walk_at "go"
 refine bz (λr ρ μ'=>∃ (dn rs dn':List WE) (v3 v4 v5 v6 v7:Option D),r=rs.map WE.toD/\dn++rs=ws/\dn'.map kyW=dn.map kyW/\(∀ x∈dn',x.Ok)/\ρ=[some (.obj b),some (ba g ws ss),some (.obj q),v3,v4,v5,v6,v7,none,none,none,none,none,none,none,none]/\μ' q=some (.lst (dn'.map WE.toD))/\Box μ' b/\Sx b μ μ') ?_ ?_ _ _ _ ⟨[],ws,[],_,_,_,_,_,rfl,rfl,rfl,(λx hx=>nomatch hx),rfl,aA,dD hB qb,(λa o _ e=>hZ hq a o e)⟩
 rotate_left
 ·rintro d r ρ μ1 N ⟨dn,rs,dn',v3,v4,v5,v6,v7,er,es,ek,ok,rfl,eq,B,sx⟩ hN
  cases rs with
  | nil=>cases er
  | cons w rs=>
  cases er
  have hw:w∈ws:=by rw[← es];simp
  have W:=P.w w hw
  have wn:=congrArg NZ es
  have dl:=o5 ek
  rw[Nt,Nk] at wn
  rw[GC]
  walk_at "go"
  refine bh eq (tkE B (by decide) (by decide) λc1 μ2 c10 c11 B1=>?_)
  walk_at "go"
  refine tkE B1.box (by decide) (by decide) λc2 μ3 c20 c21 B2=>?_
  walk_at "go"
  refine tkE B2.box (by decide) (by decide) λc3 μ4 c30 c31 B3=>?_
  obtain ⟨mk,e2,_⟩:=cZ (P:=λ_=>True) (xs:=[.non,.int c2]) (λ_ _=>trivial) c30 c31
  walk_at "go"
  rw[e2]
  walk_at "go"
  have BB:=B1.trans (B2.trans B3)
  have eq4:μ4 q=some (.lst (dn'.map WE.toD)):=by rw[BB.oth q qb];exact eq
  refine bh eq4 ⟨by rw[MX];omega,hN _ _ ⟨dn++[w],rs,dn'++[⟨w.nm,w.pc,.int (1+c1),mk,.str "turns"⟩],_,_,_,_,_,rfl,by rw[← es];simp,by simp[ek,kyW],λx hx=>?_,rfl,by rw[aA,NG];rfl,dD BB.box qb,λa o n e=>?_⟩⟩
  ·rcases NM.mp hx with hx | hx
   ·exact ok x hx
   ·cases MV.mp hx
    exact ⟨W.n,W.ne,W.p0,W.p1⟩
  ·rw[aT (λz=>by subst z;rw[hq] at e;cases e),BB.oth a n]
   exact sx a o n e
 ·rintro ρ μ1 ⟨dn,rs,dn',v3,v4,v5,v6,v7,er,es,ek,ok,rfl,eq,B,sx⟩
  cases rs with
  | cons _ _=>cases er
  | nil=>
  rw[NN] at es
  subst es
  walk_at "go"
  intro p hp
  have pb:=iu B hp
  have pq:p≠q:=λz=>by subst z;rw[eq] at hp;cases hp
  have hp0:μ p=none:=by
   cases e:μ p with
   | none=>rfl
   | some o=>rw[sx p o pb e] at hp;cases hp
  refine bz (λr ρ μ'=>∃ (en rt en':List SE) (v3 v9 v10 v11 v12 v13 v14 v15:Option D),r=rt.map SE.toD/\en++rt=ss/\en'.map kyS=en.map kyS/\(∀ x∈en',x.Ok)/\ρ=[some (.obj b),some (ba g dn ss),some (.obj q),v3,v4,v5,v6,v7,some (.obj p),v9,v10,v11,v12,v13,v14,v15]/\μ' q=some (.lst (dn'.map WE.toD))/\μ' p=some (.lst (en'.map SE.toD))/\Box μ' b/\Sx b μ μ') ?_ ?_ _ _ _ ⟨[],ss,[],_,_,_,_,_,_,_,_,rfl,rfl,rfl,(λx hx=>nomatch hx),rfl,by rw[aT (Np pq)];exact eq,aA,dD B pb,(λa o n e=>by rw[aT (λz=>by subst z;rw[hp0] at e;cases e)];exact sx a o n e)⟩
  ·rintro ρ μ2 ⟨en,rt,en',v3,v9,v10,v11,v12,v13,v14,v15,er,et,ek2,ok2,rfl,eq2,ep2,B2,sx2⟩
   cases rt with
   | cons _ _=>cases er
   | nil=>
   rw[NN] at et
   subst et
   walk_at "go"
   refine tkE B2 (by decide) (by decide) λc1 μ3 c10 c11 B3=>?_
   walk_at "go"
   have eq3:μ3 q=some (.lst (dn'.map WE.toD)):=by rw[B3.oth q qb];exact eq2
   have ep3:μ3 p=some (.lst (en'.map SE.toD)):=by rw[B3.oth p pb];exact ep2
   refine bh eq3 ?_
   walk_at "go"
   refine bh ep3 ?_
   walk_at "go"
   exact ⟨_,.refl _,k (.int (1+c1)) dn' en' μ3 ek ek2 (C2 P ek ek2 ok ok2) λa o n e=>by rw[B3.oth a n];exact sx2 a o n e⟩
  ·rintro d r ρ μ2 N ⟨en,rt,en',v3,v9,v10,v11,v12,v13,v14,v15,er,et,ek2,ok2,rfl,eq2,ep2,B2,sx2⟩ hN
   cases rt with
   | nil=>cases er
   | cons s rt=>
   cases er
   have hs:s∈ss:=by rw[← et];simp
   have S:=P.s s hs
   have sn:=congrArg NZ et
   have dl:=o5 ek2
   rw[Nt,Nk] at sn
   rw[GO]
   walk_at "go"
   refine ⟨s.R,⟨S.R,rfl⟩,?_⟩
   walk_at "go"
   refine bh ep2 (tkE B2 (by decide) (by decide) λc1 μ3 c10 c11 B3=>?_)
   walk_at "go"
   refine tkE B3.box (by decide) (by decide) λc2 μ4 c20 c21 B4=>?_
   obtain ⟨mn,e2,om⟩:=cZ (P:=λd=>okD 38 d=true) (xs:=[.non,.int 0]) (a6 rfl (a6 rfl gY)) c20 c21
   walk_at "go"
   rw[e2]
   walk_at "go"
   refine tkE B4.box (by decide) (by decide) λc3 μ5 c30 c31 B5=>?_
   obtain ⟨rd,e3,R,Ro,rfl,Rl⟩:=cZ (yk S.lim.1 S.lim.2) c30 c31
   walk_at "go"
   rw[show s.R.r / s.R.s=s.lim from rfl,e3]
   walk_at "go"
   have BB:=B3.trans (B4.trans B5)
   have eq5:μ5 q=some (.lst (dn'.map WE.toD)):=by rw[BB.oth q qb];exact eq2
   have ep5:μ5 p=some (.lst (en'.map SE.toD)):=by rw[BB.oth p pb];exact ep2
   refine bh ep5 ⟨by rw[MX];omega,hN _ _ ⟨en++[s],rt,en'++[⟨s.nm,s.r0,s.rd,s.bt,.int c1,mn,R⟩],_,_,_,_,_,_,_,_,rfl,by rw[← et];simp,?_,λx hx=>?_,rfl,by rw[aT (Np pq)];exact eq5,by rw[aA,NG];rfl,dD BB.box pb,λa o n e=>?_⟩⟩
   ·rw[NG,NG,ek2]
    show _++[(s.nm,s.r0,s.rd,s.bt,R.r / R.s)]=_
    rw[Rl]
    rfl
   ·rcases NM.mp hx with hx | hx
    ·exact ok2 x hx
    ·cases MV.mp hx
     exact ⟨S.n,S.r,S.b0,S.b1,Ro,rfl,om⟩
   ·rw[aT (λz=>by subst z;rw[hp0] at e;cases e),BB.oth a n]
    exact sx2 a o n e
def tnm:Nat->Str
 | 0=>MK "qs"
 | 1=>MK "ps"
 | 2=>MK "os"
 | 3=>MK "ns"
 | 4=>MK "ms"
 | 5=>MK "ls"
 | 6=>MK "ks"
 | _=>MK "js"
theorem Mq {o:Option Nat}{c:Nat}{f:Nat->Prop}(e:o=some c)(h:f c):kN o f:=by rw[e];exact h
theorem Ls {i:Nat}(h:i < 8){μ:Mu}{Q:DK}(k:Q (.str (tnm i)) μ):rF (.str "qponmlkj") (.int i) μ λx μ1=>aK x (.str "s") μ1 Q:=by
 have go:∀ (c:Nat),L2.atI (MK "qponmlkj").cps.toList (i:Int)=some c->(⟨#[c]⟩:Str)++MK "s" = tnm i->rF (.str "qponmlkj") (.int i) μ λx μ1=>aK x (.str "s") μ1 Q:=λc e1 e2=>
  ⟨by decide +kernel,Mq e1 ⟨by show 1+1<=1000000;decide,by rw[e2];exact k⟩⟩
 have c:i=0∨i=1∨i=2∨i=3∨i=4∨i=5∨i=6∨i=7:=by omega
 rcases c with rfl | rfl | rfl | rfl | rfl | rfl | rfl | rfl
 ·exact go 113 (by decide +kernel) (by decide +kernel)
 ·exact go 112 (by decide +kernel) (by decide +kernel)
 ·exact go 111 (by decide +kernel) (by decide +kernel)
 ·exact go 110 (by decide +kernel) (by decide +kernel)
 ·exact go 109 (by decide +kernel) (by decide +kernel)
 ·exact go 108 (by decide +kernel) (by decide +kernel)
 ·exact go 107 (by decide +kernel) (by decide +kernel)
 ·exact go 106 (by decide +kernel) (by decide +kernel)
theorem Fc (tab:List (L2.Key×D))(k:L2.Key)(d:D):(putD tab k d).length<=tab.length+1:=by
 unfold putD
 split<;>simp
def reS (y:SE×Nat):SE:={ y.1 with nm:=tnm y.2 }
def turn (ss:List SE):List SE:=(ss.zipIdx.map reS).reverse
def cf:FSp:=λds μ Q=>kcA ds λd ds=>kcN ds (∃ (g:D) (ws:List WE) (ss:List SE),(d=ba g ws ss/\PE' ws ss)/\∀ p tab μ',Sub μ μ'->μ p=none->μ' p=some (.dct tab)->(∀ j s,ss[j]? = some s->aU tab (.inr s.nm)=some (.str (tnm j)))->Q (.tup [.obj p,ba g ws (turn ss)]) μ')
theorem j0:∀ ds μ Q,cf ds μ Q->ds.length=1:=λ_ _ _ h=>lcA h λ_ _ h=>by rw[(ecN h).1];rfl
def gT:STr:=aG (aQ (xp) (aw 1)) (aG (fK (wc (ag (ak L3.rIx (ah 0) (TC (.int 2))) (ar))) (dR [2,3]) (wD (ah 1) (ak L3.rIx (ah 3) (TC (.int 0))) (ak aK (ak rF (TC (.str "qponmlkj")) (ah 2)) (TC (.str "s"))))) (aG (aQ (bS (Ju (ak L3.rIx (ah 0) (TC (.int 2)))) (aw 0) (j1) (ak aK (a7 (ag (km (ah 1) (ak L3.rIx (ah 0) (TC (.int 0)))) (ar))) (TSl (ah 0) (mN (TC (.int 1))) (ONo))) 1 [1]) (aw 4)) (a5 (a7 (ag (ah 1) (ag (a7 (ag (ak L3.rIx (ah 0) (TC (.int 0))) (ag (ak L3.rIx (ah 0) (TC (.int 1))) (ag (aq bR (ag (ah 4) (ar))) (ar))))) (ar)))))))
theorem lg:∀ ds μ Q,cf ds μ Q->gT { nx:=λ_ μ'=>RT Q .non μ',rt:=RT Q } (ini 5 ds) μ:=by
 intro ds μ Q h
 replace h:=ecA h
 obtain ⟨d,ds,rfl,h⟩:=h
 replace h:=ecN h
 obtain ⟨rfl,h⟩:=h
 walk_at "ini"
 unfold gT
 walk_at "go"
 obtain ⟨g,ws,ss,⟨rfl,P⟩,k⟩:=h
 have sl:=P.sl
 intro p hp
 walk_at "go"
 refine bz (λr ρ μ'=>∃ (i:Nat) (tab:List (L2.Key×D)) (v2 v3:Option D),r=((ss.zipIdx 0).drop i).map (λy=>.tup [.int (y.2:Nat),y.1.toD])/\i<=ss.length/\ρ=[some (ba g ws ss),some (.obj p),v2,v3,none]/\μ'=up μ p (.dct tab)/\tab.length<=i/\∀ j s,j < i->ss[j]? = some s->aU tab (.inr s.nm)=some (.str (tnm j))) ?_ ?_ _ _ _ ⟨0,[],_,_,?_,N0 _,rfl,rfl,N0 _,(λj s h=>absurd h (Nat.not_lt_zero _))⟩
 ·rintro ρ μ2 ⟨i,tab,v2,v3,er,hi,rfl,rfl,tl,hk⟩
  have hi:i=ss.length:=by
   have:=congrArg NZ er
   simp at this
   omega
  have all:∀ j s,ss[j]? = some s->aU tab (.inr s.nm)=some (.str (tnm j)):=λj s e=>hk j s (by rw[hi];exact (Nm.mp e).1) e
  walk_at "go"
  refine b7 ss.zipIdx.reverse (λy=>y.1.toD) (λy=>(reS y).toD) ?_ (by simp;omega) (λy hy μ' s' N m=>?_) ?_
  ·have z:ss.zipIdx.map (λy=>y.1)=ss:=Ov (by simp) λj h1 h2=>by simp
   have z2:=congrArg (λl=>(l.map SE.toD).reverse) z
   rw[Uo,← z2,NL]
   rfl
  ·obtain ⟨s,j⟩:=y
   have hj:ss[j]? = some s:=NP.mp (List.mem_reverse.mp hy)
   walk_at "go"
   refine gL (s' p _ aA) ?_
   rw[all j s hj]
   walk_at "go"
   exact (show aK (.tup [.str (tnm j)]) (.tup [.tup (s.road.map .str),.int s.bt,s.bg,s.mn,s.R.toD]) μ' N from ⟨by simp,m⟩)
  walk_at "go"
  refine (show RT Q (.tup [.obj p,.tup [g,.tup (ws.map WE.toD),.tup (ss.zipIdx.reverse.map λy=>(reS y).toD)]]) _ from ⟨_,.refl _,?_⟩)
  have e:(ss.zipIdx.reverse.map λy=>(reS y).toD)=(turn ss).map SE.toD:=by unfold turn;rw[← Uo,NL];rfl
  rw[e]
  exact k p tab _ (hZ hp) hp aA all
 ·rintro d r ρ μ2 N ⟨i,tab,v2,v3,er,_,rfl,rfl,tl,hk⟩ hN
  have hi:i < ss.length:=by
   refine Oc λz=>?_
   rw[List.drop_eq_nil_of_le (by simp;omega)] at er
   cases er
  obtain ⟨s,hs⟩:∃ s,ss[i]? = some s:=⟨_,MZ hi⟩
  have e1:(ss.zipIdx 0).drop i=(s,i)::(ss.zipIdx 0).drop (i+1):=by
   rw[Ob (by simpa using hi)]
   obtain ⟨h1,h2⟩:=Nm.mp hs
   simp[h2]
  rw[e1,Ni] at er
  cases er
  walk_at "go"
  refine Ls (by omega) (gL aA ⟨by omega,hN _ _ ⟨i+1,putD tab (.inr s.nm) (.str (tnm i)),_,_,rfl,hi,rfl,oh ..,NR (Fc ..) (by omega),λj y hj hy=>?_⟩⟩)
  ·rw[gu]
   by_cases z:y.nm=s.nm
   ·have e:j=i:=by
     refine (T7 (l:=ss.map SE.nm) (by rw[MX];exact (Nm.mp hy).1) P.nd).mp ?_
     rw[Nv,Nv,hy,hs]
     exact congrArg some z
    rw[if_pos (by rw[z]),e]
   ·rw[if_neg (λx=>z (by injection x))]
    refine hk j y ?_ hy
    have:j≠i:=λe=>by subst e;rw[hs] at hy;cases hy;exact z rfl
    omega
 ·unfold gW
  refine Ov (by simp) λj h1 h2=>?_
  simp
def nD:WE:=⟨MK "nobody", 1,.int 1,.non,.str "line"⟩
theorem Me {xs:List D}(h:xs.length<=5):cutD xs none (some 5)=xs:=by
 match xs,h with
 | [],_=>rfl
 | [_],_=>rfl
 | [_,_],_=>rfl
 | [_,_,_],_=>rfl
 | [_,_,_,_],_=>rfl
 | [_,_,_,_,_],_=>rfl
 | _::_::_::_::_::_::_,h=>simp at h
def cv:FSp:=λds μ Q=>kcA ds λd ds=>kcN ds (∃ (g:D) (ws:List WE) (ss:List SE),(d=ba g ws ss/\ws.length<=5)/\Q (ba g (nD::ws) ss) μ)
theorem l7:∀ ds μ Q,cv ds μ Q->ds.length=1:=λ_ _ _ h=>lcA h λ_ _ h=>by rw[(ecN h).1];rfl
def iF:STr:=a5 (a7 (ag (ak L3.rIx (ah 0) (TC (.int 0))) (ag (ak aK (a7 (ag (a7 (ag (TC (.str "nobody")) (ag (TC (.int 1)) (ag (TC (.int 1)) (ag (TC .non) (ag (TC (.str "line")) (ar))))))) (ar))) (TSl (ak L3.rIx (ah 0) (TC (.int 1))) (ONo) (mN (TC (.int 5))))) (ag (ak L3.rIx (ah 0) (TC (.int 2))) (ar)))))
theorem mK:∀ ds μ Q,cv ds μ Q->iF { nx:=λ_ μ'=>RT Q .non μ',rt:=RT Q } (ini 1 ds) μ:=by
 intro ds μ Q h
 replace h:=ecA h
 obtain ⟨d,ds,rfl,h⟩:=h
 replace h:=ecN h
 obtain ⟨rfl,h⟩:=h
 walk_at "ini"
 unfold iF
 walk_at "go"
 obtain ⟨g,ws,ss,⟨rfl,wl⟩,k⟩:=h
 walk_at "go"
 show [nD.toD].length+(cutD (ws.map WE.toD) none (some 5)).length<=1000000/\RT Q (.tup [g,.tup (nD.toD::cutD (ws.map WE.toD) none (some 5)),.tup (ss.map SE.toD)]) μ
 rw[Me (by rw[MX];exact wl)]
 exact ⟨by simp;omega,_,.refl _,k⟩
def pC:List Rat->D
 | []=>.non
 | x::r=>frR (gB (x::r))
theorem min_eq {a b:Rat}{xs:List Rat}(h:da a xs)(k:da b xs):a=b:=UB (h.2 b k.1) (k.2 a h.1)
theorem BD {m:Rat}{xs:List Rat}(h:da m xs):pC xs=frR m:=by
 cases xs with
 | nil=>exact nomatch h.1
 | cons x r=>exact congrArg frR (min_eq (dF (by simp)) h)
def bU:FSp:=λds μ Q=>kcO ds λp ds=>kcN ds (∃ (ss:List SE) (f:Fm),(μ p=some (.dcF (bG ss f))/\∀ s∈ss,BR (val f s))/\Q (pC (ss.map (val f))) μ)
theorem kX:∀ ds μ Q,bU ds μ Q->ds.length=1:=λ_ _ _ h=>lcO h λ_ _ h=>by rw[(ecN h).1];rfl
def iI:STr:=aG (aQ (TC .non) (aw 1)) (aG (fK (Hh (ah 0)) (aw 2) (df (TOr (TB (ak rIs (ah 1) (TC .non))) (TB (ak rLt (ak bX (ak L3.rIx (ah 2) (TC (.int 0))) (ak L3.rIx (ah 1) (TC (.int 1)))) (ak bX (ak L3.rIx (ah 1) (TC (.int 0))) (ak L3.rIx (ah 2) (TC (.int 1))))))) (aQ (ah 2) (aw 1)) (bT))) (a5 (ah 1)))
theorem nG:∀ ds μ Q,bU ds μ Q->iI { nx:=λ_ μ'=>RT Q .non μ',rt:=RT Q } (ini 3 ds) μ:=by
 intro ds μ Q h
 replace h:=ecO h
 obtain ⟨p,ds,rfl,h⟩:=h
 replace h:=ecN h
 obtain ⟨rfl,h⟩:=h
 walk_at "ini"
 unfold iI
 walk_at "go"
 obtain ⟨ss,f,⟨ep,hB⟩,k⟩:=h
 refine gO ep ?_
 have e:((bG ss f).map λy=>y.2)=ss.map λs=>frR (val f s):=by unfold bG;rw[NL];rfl
 rw[e]
 refine bz (λr ρ μ'=>∃ (dn ys:List SE) (v1 v2:Option D),r=ys.map (λs=>frR (val f s))/\dn++ys=ss/\ρ=[some (.obj p),v1,v2]/\((dn=[]/\v1=some .non)∨∃ m,da m (dn.map (val f))/\v1=some (frR m))/\μ'=μ) ?_ ?_ _ _ _ ⟨[],ss,_,_,rfl,rfl,rfl,.inl ⟨rfl,rfl⟩,rfl⟩
 ·rintro ρ μ' ⟨dn,ys,v1,v2,er,es,rfl,hv,rfl⟩
  cases ys with
  | cons _ _=>cases er
  | nil=>
  rw[NN] at es
  subst es
  rcases hv with ⟨rfl,rfl⟩ | ⟨m,hm,rfl⟩
  ·walk_at "go"
   exact ⟨_,.refl _,k⟩
  ·walk_at "go"
   rw[BD hm] at k
   exact ⟨_,.refl _,k⟩
 ·rintro d r ρ μ' N ⟨dn,ys,v1,v2,er,es,rfl,hv,rfl⟩ hN
  cases ys with
  | nil=>cases er
  | cons y ys=>
  cases er
  have hy:y∈ss:=by rw[← es];simp
  rcases hv with ⟨rfl,rfl⟩ | ⟨m,hm,rfl⟩
  ·walk_at "go"
   exact hN _ _ ⟨[y],ys,_,_,rfl,es,rfl,.inr ⟨val f y,⟨MS,λz hz=>by cases MV.mp hz;exact Oa⟩,rfl⟩,rfl⟩
  ·have hmB:BR m:=by
    obtain ⟨z,hz,rfl⟩:=M3.mp hm.1
    exact hB z (by rw[← es];exact Og _ hz)
   walk_at "go"
   show L3.MulOk (val f y).num m.den/\L3.MulOk m.num (val f y).den/\kIf (decide ((val f y).num*(m.den:Int) < m.num*((val f y).den:Int))) _ _
   refine ⟨?_,?_,?_⟩
   ·exact (hB y hy).n.mul hmB.d
   ·exact hmB.n.mul (hB y hy).d
   rw[vI]
   refine kif (λh=>?_) λh=>?_
   ·refine hN _ _ ⟨dn++[y],ys,_,_,rfl,by rw[← es];simp,rfl,.inr ⟨val f y,⟨by simp,λz hz=>?_⟩,rfl⟩,rfl⟩
    rw[NG] at hz
    rcases NM.mp hz with hz | hz
    ·exact Nq (OZ h) (hm.2 z hz)
    ·cases MV.mp hz;exact Oa
   ·refine hN _ _ ⟨dn++[y],ys,_,_,rfl,by rw[← es];simp,rfl,.inr ⟨m,⟨by rw[NG];exact Og _ hm.1,λz hz=>?_⟩,rfl⟩,rfl⟩
    rw[NG] at hz
    rcases NM.mp hz with hz | hz
    ·exact hm.2 z hz
    ·cases MV.mp hz;exact Tr.mp h
theorem okT (ss:List SE)(f:Fm):aO 38 ((bG ss f).map (·.2))=true:=by
 unfold bG
 induction ss with
 | nil=>rfl
 | cons s r ih=>
  have e:aO 38 (((s::r).map λs=>((.inr s.nm,frR (val f s)):L2.Key×D)).map (·.2))=(okD 38 (frR (val f s))&&aO 38 ((r.map λs=>((.inr s.nm,frR (val f s)):L2.Key×D)).map (·.2))):=rfl
  rw[e,ih]
  rfl
theorem Cp (ss:List SE)(f:Fm):bG ss f=(ss.map SE.nm).map λn=>(.inr n,frR ((f n).getD 0)):=by unfold bG;rw[NL];rfl
theorem xc {ss:List SE}{f g:Fm}(h:∀ s∈ss,val f s=val g s):bG ss f=bG ss g:=Pl λs hs=>by rw[h s hs]
theorem eqT {ss:List SE}{f:Fm}(nd:(ss.map SE.nm).Nodup):eqK (bG ss f) (bG ss f)=true:=qV (.refl _) (z6 nd) λy hy=>by
 obtain ⟨s,_,rfl⟩:=M3.mp hy
 rfl
theorem AV {ws ws':List WE}{ss ss':List SE}(P:PE' ws ss)(P':PE' ws' ss')(hw:ws'.map kyW=ws.map kyW)(hs:ss'.map kyS=ss.map kyS):bG ss' (evF ws' ss')=bG ss (evF ws ss):=by
 rw[Cp,Cm hs,← Cp]
 exact xc (o9 (Dd (cU P') P hw hs) (cU P))
theorem Hr {ws:List WE}{ss:List SE}(P:PE' ws ss)(nw:∀ x∈ws,x.nm∈cE)(wl:ws.length<=5):PE' (nD::ws) ss/\nD.nm ∉ ws.map WE.nm:=by
 have nn:nD.nm ∉ ws.map WE.nm:=λh=>by
  obtain ⟨x,hx,e⟩:=M3.mp h
  have:=nw x hx
  rw[e] at this
  exact absurd this (by decide +kernel)
 refine ⟨⟨λx hx=>?_,P.s,λx hx=>(P.rd x hx).trans (RV _ _),by simp;omega,P.sl,P.nd,NB.mpr ⟨nn,P.wn⟩⟩,nn⟩
 rcases MY.mp hx with rfl | hx
 ·exact ⟨by decide +kernel,by decide +kernel,by decide,by decide⟩
 ·exact P.w x hx
theorem EN {ws:List WE}{ss:List SE}(P:PE' ws ss)(P':PE' (nD::ws) ss)(nn:nD.nm ∉ ws.map WE.nm):bG ss (evF (nD::ws) ss)=bG ss (evF ws ss):=
 xc (o9 (Ao (cU P') P nn) (cU P))
theorem Gw (i:Nat):M7 (tnm i)=true:=by
 unfold tnm
 split<;>decide +kernel
theorem Cy {n:Nat}(h:n<=8):((OK n).map tnm).Nodup:=by
 have h8:((OK 8).map tnm).Nodup:=by decide +kernel
 exact h8.sublist ((List.range_sublist.mpr h).map _)
theorem JG (ss:List SE):(ss.zipIdx.map reS).map SE.nm=(OK ss.length).map tnm:=by
 refine Ov (by simp) λj h1 h2=>?_
 simp[reS]
theorem FU {ws:List WE}{ss:List SE}(P:PE' ws ss):PE' ws (ss.zipIdx.map reS):=by
 have sl:=P.sl
 have get:∀ x∈ss.zipIdx.map reS,∃ s∈ss,∃ j,x=reS (s,j):=λx hx=>by
  obtain ⟨⟨s,j⟩,hy,rfl⟩:=M3.mp hx
  exact ⟨s,Oh (NP.mp hy),j,rfl⟩
 refine ⟨P.w,λx hx=>?_,λx hx=>?_,P.wl,by simpa using sl,by rw[JG];exact Cy sl,P.wn⟩
 ·obtain ⟨s,hs,j,rfl⟩:=get x hx
  have S:=P.s s hs
  exact ⟨Gw j,S.r,S.b0,S.b1,S.R,S.bo,S.mo⟩
 ·obtain ⟨s,hs,j,rfl⟩:=get x hx
  exact P.rd s hs
theorem xq {ws:List WE}{ss:List SE}(P:PE' ws ss):PE' ws (turn ss):=by
 have R:=FU P
 have p:(turn ss).Perm (ss.zipIdx.map reS):=Q6 _
 exact ⟨R.w,λx hx=>R.s x (p.mem_iff.mp hx),λx hx=>R.rd x (p.mem_iff.mp hx),R.wl,by rw[p.length_eq];exact R.sl,(p.map SE.nm).nodup_iff.mpr R.nd,R.wn⟩
theorem turn_val {ws:List WE}{ss:List SE}(P:PE' ws ss):∀ j s,ss[j]? = some s->val (evF ws (turn ss)) (reS (s,j))=val (evF ws ss) s:=by
 have F1:=Er (cU (xq P)) (FU P) (Q6 _)
 generalize evF ws (turn ss)=g at F1
 have ff:∀ j s,ss[j]? = some s->((ss.zipIdx.find? λy=>decide (y.1.nm=s.nm)).bind λy=>g (tnm y.2))=g (tnm j):=λj s hs=>by
  cases e:ss.zipIdx.find? λy=>decide (y.1.nm=s.nm) with
  | none=>exact absurd (QM.mp e (s,j) (NP.mpr hs)) (by simp)
  | some y=>
   obtain ⟨t,i⟩:=y
   have h1:t.nm=s.nm:=by simpa using List.find?_some e
   have h2:ss[i]? = some t:=NP.mp (QS e)
   have:i=j:=by
    refine (T7 (l:=ss.map SE.nm) (by rw[MX];exact (Nm.mp h2).1) P.nd).mp ?_
    rw[Nv,Nv,h2,hs]
    exact congrArg some h1
   rw[this]
   rfl
 have F2:FE ws ss (λn=>(ss.zipIdx.find? λy=>decide (y.1.nm=n)).bind λy=>g (tnm y.2)):=by
  refine IL F1 P (Ov (by simp) λj h1 h2=>?_)
  rw[MX] at h2
  have e:=ff j ss[j] (MZ h2)
  simp only[List.getElem_map,List.getElem_zipIdx,Vj,kz,e]
  rfl
 intro j s hs
 rw[← o9 F2 (cU P) s (Oh hs)]
 exact congrArg (λo:Option Rat=>o.getD 0) (ff j s hs).symm
def trK (ss:List SE)(f:Fm):List (L2.Key×D):=ss.zipIdx.map λy=>(.inr (tnm y.2),frR (val f y.1))
theorem Fj {ss:List SE}{f:Fm}(h:ss.length<=8):((trK ss f).map (·.1)).Nodup:=by
 have e:(trK ss f).map (·.1)=((OK ss.length).map tnm).map (QU:Str->L2.Key):=by
  refine Ov (by simp[trK]) λj h1 h2=>?_
  simp[trK]
 rw[e]
 exact T6 _ (λa b ne e=>ne (by injection e)) (Cy h)
theorem An {ws:List WE}{ss:List SE}(P:PE' ws ss):eqK (bG (turn ss) (evF ws (turn ss))) (trK ss (evF ws ss))=true:=by
 refine qV ?_ (Fj P.sl) λy hy=>?_
 ·have p:(bG (turn ss) (evF ws (turn ss))).Perm ((ss.zipIdx.map reS).map λs=>(.inr s.nm,frR (val (evF ws (turn ss)) s))):=(Q6 _).map _
  refine p.trans (List.Perm.of_eq ?_)
  rw[NL]
  refine Pl λy hy=>?_
  obtain ⟨s,j⟩:=y
  show (.inr (tnm j),frR (val (evF ws (turn ss)) (reS (s,j))))=((.inr (tnm j),frR (val (evF ws ss) s)):L2.Key×D)
  rw[turn_val P j s (NP.mp hy)]
 ·obtain ⟨s,_,rfl⟩:=M3.mp hy
  rfl
theorem LM (ss:List SE)(f:Fm):aO 38 ((trK ss f).map (·.2))=true:=by
 have e:(trK ss f).map (·.2)=(bG ss f).map (·.2):=by
  refine Ov (by simp[trK,bG]) λj h1 h2=>?_
  simp[trK,bG]
 rw[e]
 exact okT ss f
theorem okR (R:RN):okD 38 R.toD=true:=by
 have h1:M7 (MK "still")=true:=by decide +kernel
 have h2:M7 (MK "step")=true:=by decide +kernel
 have h3:M7 (MK "swell")=true:=by decide +kernel
 have h4:M7 (MK "heed")=true:=by decide +kernel
 have h5:M7 (MK "calm")=true:=by decide +kernel
 unfold RN.toD
 cases R.wd<;>simp[okD,aO,fr,h1,h2,h3,h4,h5]
theorem Dj {ns:List Str}(h:∀ n∈ns,M7 n=true):aO 37 (ns.map D.str)=true:=by
 induction ns with
 | nil=>rfl
 | cons a r ih=>
  have e:aO 37 ((a::r).map D.str)=(okD 37 (.str a)&&aO 37 (r.map D.str)):=by rw[Ni];simp[aO]
  rw[e,ih λn hn=>h n (MU _ hn)]
  simp[okD,h a MS]
theorem Ki {ws:List WE}{ss:List SE}(P:PE' ws ss):aO 39 (ss.map SE.toD)=true:=by
 have one:∀ s∈ss,okD 39 s.toD=true:=λs hs=>by
  have S:=P.s s hs
  simp[SE.toD,okD,aO,S.n,Dj S.r,S.bo,S.mo,okR]
 clear P
 induction ss with
 | nil=>rfl
 | cons s r ih=>
  have e:aO 39 ((s::r).map SE.toD)=(okD 39 s.toD&&aO 39 (r.map SE.toD)):=by rw[Ni];simp[aO]
  rw[e,one s MS,ih λs hs=>one s (MU _ hs)]
  rfl
theorem Km (g:D)(ws:List WE)(ss:List SE)(μ:Mu)(Q:DK):L3.rIx (ba g ws ss) (.int 0) μ Q=Q g μ:=propext MT
theorem zP {ws:List WE}{ss tt:List SE}(P:PE' ws ss)(h:tt.Sublist ss):PE' ws tt:=
 ⟨P.w,λx hx=>P.s x (h.subset hx),λx hx=>P.rd x (h.subset hx),P.wl,NR h.length_le P.sl,P.nd.sublist (h.map _),P.wn⟩
def twin (s:SE):SE:={ s with nm:=MK "zzzzzzzz" }
theorem DZ {ws:List WE}{ss:List SE}(P:PE' ws ss)(nS:∀ x∈ss,x.nm∈cE)(hl:ss.length < 8){s:SE}(hs:s∈ss):PE' ws (ss++[twin s]):=by
 have S:=P.s s hs
 refine ⟨P.w,λx hx=>?_,λx hx=>?_,P.wl,by simp;omega,?_,P.wn⟩
 ·rcases NM.mp hx with hx | hx
  ·exact P.s x hx
  ·cases MV.mp hx
   exact ⟨(show M7 (MK "zzzzzzzz")=true by decide +kernel),S.r,S.b0,S.b1,S.R,S.bo,S.mo⟩
 ·rcases NM.mp hx with hx | hx
  ·exact P.rd x hx
  ·cases MV.mp hx
   exact P.rd s hs
 ·rw[NG]
  refine Q4.mpr ⟨P.nd,by simp,λa ha b hb e=>?_⟩
  have hb:b=MK "zzzzzzzz" := by simpa[twin] using hb
  obtain ⟨x,hx,ex⟩:=M3.mp ha
  have:=nS x hx
  rw[ex,e,hb] at this
  exact absurd this (by decide +kernel)
theorem o4 {n:Nat}(h:∀ d,okD n d=true->okD (n+1) d=true):∀ ds:List D,aO n ds=true->aO (n+1) ds=true
 | [],_=>by simp[aO]
 | d::r,k=>by
  have k':okD n d=true/\aO n r=true:=by simpa[aO] using k
  simp[aO,h d k'.1,o4 h r k'.2]
theorem uF:∀ (n:Nat) (d:D),okD n d=true->okD (n+1) d=true
 | 0,d,h=>by cases d<;>simp_all [okD]
 | n+1,d,h=>by
  cases d with
  | tup ds=>rw[He] at h ⊢;exact o4 (uF n) ds h
  | ls ds=>rw[Gq] at h ⊢;exact o4 (uF n) ds h
  | _=>simp_all [okD]
theorem KA {ws:List WE}{ss:List SE}(P:PE' ws ss){s:SE}(hs:s∈ss):okD 40 s.toD=true:=by
 have S:=P.s s hs
 have o:=Ki P
 have:okD 39 s.toD=true:=ke o (M3.mpr ⟨s,hs,rfl⟩)
 exact uF 39 _ this
theorem kNT {a b:Prop}(h:b):kIf (!true) a b:=h
theorem feB {ws:List WE}{ss:List SE}{f:Fm}(F:FE ws ss f):∀ s∈ss,BR (val f s):=λs hs=>BR.of (F.i s hs) (cj _) (gw (M0 _)) (Nq (by decide) (F.l s hs).1) (Nq (F.l s hs).2 (by decide))
def bD:FSp:=λds μ Q=>kcO ds λp ds=>kcO ds λq ds=>kcN ds (∃ (ss:List SE) (f:Fm) (ss':List SE) (f':Fm),(μ p=some (.dcF (bG ss f))/\(∀ s∈ss,BR (val f s))/\μ q=some (.dcF (bG ss' f'))/\(∀ s∈ss',BR (val f' s))/\∀ a b,da a (ss.map (val f))->da b (ss'.map (val f'))->b<=a)/\Q (.bl true) μ)
theorem je:∀ ds μ Q,bD ds μ Q->ds.length=2:=λ_ _ _ h=>lcO h λ_ _ h=>lcO h λ_ _ h=>by rw[(ecN h).1];rfl
def fG:STr:=aG (rP 2 3 (ag (aq bU (ag (ah 1) (ar))) (ag (aq bU (ag (ah 0) (ar))) (ar)))) (a5 (uT (ak rIs (ah 2) (TC .non)) (uT (ak rIs (ah 3) (TC .non)) (ak rLe (ak bX (ak L3.rIx (ah 2) (TC (.int 0))) (ak L3.rIx (ah 3) (TC (.int 1)))) (ak bX (ak L3.rIx (ah 3) (TC (.int 0))) (ak L3.rIx (ah 2) (TC (.int 1))))))))
theorem j9:∀ ds μ Q,bD ds μ Q->fG { nx:=λ_ μ'=>RT Q .non μ',rt:=RT Q } (ini 4 ds) μ:=by
 intro ds μ Q h
 replace h:=ecO h
 obtain ⟨p,ds,rfl,h⟩:=h
 replace h:=ecO h
 obtain ⟨q,ds,rfl,h⟩:=h
 replace h:=ecN h
 obtain ⟨rfl,h⟩:=h
 walk_at "ini"
 unfold fG
 walk_at "go"
 obtain ⟨ss,f,ss',f',⟨ep,hp,eq,hq,le⟩,k⟩:=h
 refine ⟨ss',f',⟨eq,hq⟩,?_⟩
 walk_at "go"
 refine ⟨ss,f,⟨ep,hp⟩,?_⟩
 cases e':ss' with
 | nil=>
  walk_at "go"
  show RT Q (.bl true) μ
  exact ⟨_,.refl _,k⟩
 | cons s' r'=>
 cases e:ss with
 | nil=>
  walk_at "go"
  show RT Q (.bl true) μ
  exact ⟨_,.refl _,k⟩
 | cons s r=>
  walk_at "go"
  subst e' e
  have hb:da (gB ((s'::r').map (val f'))) ((s'::r').map (val f')):=dF (by simp)
  have ha:da (gB ((s::r).map (val f))) ((s::r).map (val f)):=dF (by simp)
  have l:=le _ _ ha hb
  have Bb:BR (gB ((s'::r').map (val f'))):=by
   obtain ⟨z,hz,ez⟩:=M3.mp hb.1
   rw[← ez];exact hq z hz
  have Ba:BR (gB ((s::r).map (val f))):=by
   obtain ⟨z,hz,ez⟩:=M3.mp ha.1
   rw[← ez];exact hp z hz
  generalize eb:gB ((s'::r').map (val f'))=b at *
  generalize ea:gB ((s::r).map (val f))=a at *
  have lb:pC (val f' s'::r'.map (val f'))=frR b:=by rw[← eb];rfl
  have la:pC (val f s::r.map (val f))=frR a:=by rw[← ea];rfl
  rw[la,lb]
  show MulOk b.num a.den/\MulOk a.num b.den/\RT Q (.bl (decide (b.num*(a.den:Int)<=a.num*(b.den:Int)))) μ
  rw[Hm,decide_eq_true l]
  exact ⟨Bb.n.mul Ba.d,Ba.n.mul Bb.d,_,.refl _,k⟩
abbrev dW:FSp:=L3.dW
theorem qL:∀ ds μ Q,dW ds μ Q->ds.length=1:=L3.qL
def ko:STr:=aG (aQ (aq cf (ag (ah 1) (ar))) (dR [3,4])) (aG (df (TB (ak (sA not) (aq aP (ag (ah 4) (ar))) (xj (aq oF (ag (bS (Jd (ah 2)) (dR [0,1]) (j1) (a7 (ag (km (ah 2) (ah 0)) (ag (ah 1) (ar)))) 2 [3]) (ar)))))) (a5 (TC (.bl false))) (bT)) (aG (df (TB (ak rEq (ak L3.rIx (ah 1) (TC (.int 2))) (a7 (ar)))) (a5 (ak rEq (aq iU (ag (ah 1) (ar))) (a7 (ar)))) (bT)) (aG (aQ (ak L3.rIx (ak L3.rIx (ah 1) (TC (.int 2))) (aq L3.aB (ag (aq L3.fT (ag (ah 0) (ag (TC (.int 17)) (ar)))) (ag (aq gA (ag (ak L3.rIx (ah 1) (TC (.int 2))) (ar))) (ar))))) (aw 5)) (aG (aQ (a7 (ag (ak L3.rIx (ah 1) (TC (.int 0))) (ag (ak L3.rIx (ah 1) (TC (.int 1))) (ag (aq bR (ag (bS (dh (ak L3.rIx (ah 1) (TC (.int 2)))) (aw 0) (TB (ak rNe (ah 0) (ah 1))) (ah 0) 1 [5]) (ar))) (ar))))) (aw 6)) (aG (df (tw (TB (aq bD (ag (aq aP (ag (ah 6) (ar))) (ag (ah 2) (ar)))))) (a5 (TC (.bl false))) (bT)) (aG (df (TB (ak rLt (aq gA (ag (ak L3.rIx (ah 1) (TC (.int 2))) (ar))) (TC (.int 8)))) (aG (aQ (a7 (ag (ak L3.rIx (ah 1) (TC (.int 0))) (ag (ak L3.rIx (ah 1) (TC (.int 1))) (ag (ak aK (ak L3.rIx (ah 1) (TC (.int 2))) (a7 (ag (ak aK (a7 (ag (TC (.str "zzzzzzzz")) (ar))) (TSl (ah 5) (mN (TC (.int 1))) (ONo))) (ar)))) (ar))))) (aw 7)) (df (tw (TB (aq bD (ag (ah 2) (ag (aq aP (ag (ah 7) (ar))) (ar)))))) (a5 (TC (.bl false))) (bT))) (bT)) (a5 (ak (sA id) (aq aP (ag (ah 1) (ar))) (ah 2)))))))))
def Aw:STr:=aG (aQ (aq cP (ag (ah 0) (ar))) (aw 1)) (aG (aQ (aq aP (ag (ah 1) (ar))) (aw 2)) (aG (df (TB (ak (sA not) (aq aP (ag (aq cJ (ag (aq L3.fT (ag (ah 0) (ag (TC (.int 16)) (ar)))) (ag (ah 1) (ar)))) (ar))) (ah 2))) (a5 (TC (.bl false))) (bT)) (aG (df (rC (TB (ak rLt (aq gA (ag (ak L3.rIx (ah 1) (TC (.int 1))) (ar))) (TC (.int 6)))) (TB (ak (sA not) (aq aP (ag (aq cv (ag (ah 1) (ar))) (ar))) (ah 2)))) (a5 (TC (.bl false))) (bT)) (ko))))
theorem Il:∀ ds μ Q,dW ds μ Q->Aw { nx:=λ_ μ'=>RT Q .non μ',rt:=RT Q } (ini 8 ds) μ:=by
 intro ds μ Q h
 replace h:=ecL h
 obtain ⟨_,ds,rfl,h⟩:=h
 replace h:=ecN h
 obtain ⟨rfl,h⟩:=h
 obtain ⟨⟨ns,rfl,hn⟩,k⟩:=h
 walk_at "ini"
 unfold Aw
 walk_at "go"
 refine ⟨⟨ns,rfl⟩,λg ws ss μ1 P nw nS wl=>?_⟩
 walk_at "go"
 refine ⟨g,ws,ss,⟨rfl,P⟩,λp0 μ2 _ _ e0=>?_⟩
 walk_at "go"
 refine ⟨⟨ns,rfl,by decide,by decide⟩,λb μ3 hb hB oth=>?_⟩
 have e03:μ3 p0=some (.dcF (bG ss (evF ws ss))):=by rw[oth p0 (λz=>by subst z;rw[e0] at hb;cases hb)];exact e0
 have b0:p0≠b:=λz=>by subst z;rw[e0] at hb;cases hb
 walk_at "go"
 refine ⟨g,ws,ss,⟨rfl,P,hB⟩,λg' ws' ss' μ4 hw hs P' sx=>?_⟩
 have e04:=sx p0 _ b0 e03
 walk_at "go"
 refine ⟨g',ws',ss',⟨rfl,P'⟩,λp1 μ5 sb5 n1 e1=>?_⟩
 have e05:=sb5 p0 _ e04
 walk_at "go"
 refine gO e1 ?_
 walk_at "go"
 refine gO e05 ?_
 refine ⟨⟨okT ..,okT ..⟩,?_⟩
 rw[AV P P' hw hs,eqT P.nd]
 refine kNT ?_
 have rest:∀ μ5:Mu,μ5 p0=some (MO.dcF (bG ss (evF ws ss)))->ko { nx:=λ_ μ'=>RT Q .non μ',rt:=RT Q } [some (D.ls (ns.map D.int)),some (ba g ws ss),some (D.obj p0),none,none,none,none,none] μ5:=λμ5 e05=>by
  unfold ko
  walk_at "go"
  refine ⟨g,ws,ss,⟨rfl,P⟩,λpk tab μ6 sb6 nk ek hk=>?_⟩
  have e06:=sb6 p0 _ e05
  walk_at "go"
  refine ⟨g,ws,turn ss,⟨rfl,xq P⟩,λp1 μ7 sb7 n1 e1=>?_⟩
  have e07:=sb7 p0 _ e06
  have ek7:=sb7 pk _ ek
  walk_at "go"
  refine gO e07 ?_
  refine b7 ss.zipIdx (λy=>.tup [.str y.1.nm,frR (val (evF ws ss) y.1)]) (λy=>.tup [.str (tnm y.2),frR (val (evF ws ss) y.1)]) ?_ (by simp;have:=P.sl;omega) (λy hy μ' s' N m=>?_) ?_
  ·refine Ov (by simp[bG]) λj h1 h2=>?_
   simp[bG,BI]
  ·obtain ⟨s,j⟩:=y
   walk_at "go"
   refine gL (s' pk _ ek7) ?_
   rw[hk j s (NP.mp hy)]
   exact m
  walk_at "go"
  refine ⟨trK ss (evF ws ss),by unfold trK;rw[NL];rfl,by unfold trK;simp;have:=P.sl;omega,λp3 hp3=>?_⟩
  rw[lj _ [] (by simpa using Fj P.sl),Pq]
  walk_at "go"
  have p13:p1≠p3:=λz=>by subst z;rw[e1] at hp3;cases hp3
  have p03:p0≠p3:=λz=>by subst z;rw[e07] at hp3;cases hp3
  refine gO (by rw[aT p13];exact e1) (gO aA ⟨⟨okT ..,LM ..⟩,?_⟩)
  rw[An P]
  refine kNT ?_
  have e08:up μ7 p3 (MO.dcF (trK ss (evF ws ss))) p0=some (MO.dcF (bG ss (evF ws ss))):=by rw[aT p03];exact e07
  generalize up μ7 p3 (MO.dcF (trK ss (evF ws ss)))=μ8 at e08 ⊢
  refine ⟨Ki P,?_⟩
  cases hss:ss with
  | nil=>
   subst hss
   refine ⟨g,ws,[],⟨rfl,P⟩,λμ9 _=>⟨rfl,_,.refl _,k _⟩⟩
  | cons s0 r0=>
  rw[← hss]
  have ln:0 < ss.length:=by rw[hss];simp
  have en:fh (ss.map SE.toD) []=false:=by rw[hss];rfl
  rw[en]
  refine (show ∀ {a b:Prop},b->kIf false a b from λh=>h) ?_
  refine ⟨⟨ns,rfl,by decide,by decide⟩,λb2 μ9 hb2 hB2 oth2=>?_⟩
  have b20:p0≠b2:=λz=>by subst z;rw[e08] at hb2;cases hb2
  have e09:μ9 p0=some (MO.dcF (bG ss (evF ws ss))):=by rw[oth2 p0 b20];exact e08
  rw[MX]
  have sl:=P.sl
  refine tkE hB2 (by omega) (by omega) λc μ10 c0 c1 B10=>?_
  have e010:μ10 p0=some (MO.dcF (bG ss (evF ws ss))):=by rw[B10.oth p0 b20];exact e09
  obtain ⟨j,rfl⟩:=OT c0
  have hj:j < ss.length:=by omega
  walk_at "go"
  refine wm (d:=ss[j].toD) (by rw[bF,Nv,MZ hj];rfl) ?_
  have hs0:ss[j]∈ss:=P6 hj
  generalize ss[j]=s at hs0 ⊢
  rw[Km]
  refine de ss SE.toD (λy=>if (!eqD y.toD s.toD) then some y.toD else none) rfl (by omega) (λy hy μ' s' N m=>?_) ?_
  ·walk_at "go"
   refine ⟨⟨KA P hy,KA P hs0⟩,?_⟩
   cases h:eqD y.toD s.toD with
   | true=>rw[h] at m;exact m
   | false=>rw[h] at m;exact m
  rw[oJ]
  walk_at "go"
  have P4:PE' ws (ss.filter λy=>!eqD y.toD s.toD):=zP P Qu
  refine ⟨g,ws,_,⟨rfl,P4⟩,λp4 μ11 sb11 n4 e4=>?_⟩
  have e011:=sb11 p0 _ e010
  walk_at "go"
  refine ⟨_,_,ss,evF ws ss,⟨e4,feB (cU P4),e011,feB (cU P),λa b ha hb=>qW (cU P4) (cU P) Qu ha hb⟩,?_⟩
  walk_at "go"
  have fin:∀ μx:Mu,μx p0=some (MO.dcF (bG ss (evF ws ss)))->kP aP [ba g ws ss] μx λx μ1=>kObj x λp=>kF μ1 p λds=>kF μ1 p0 λes=>(aO 38 (ds.map λx=>x.snd)=true/\aO 38 (es.map λx=>x.snd)=true)/\RT Q (D.bl (id (eqK ds es))) μ1:=λμx ex=>by
   refine ⟨g,ws,ss,⟨rfl,P⟩,λp5 μ12 sb12 n5 e5=>?_⟩
   refine (show kF μ12 p5 _ from gO e5 (gO (sb12 p0 _ ex) ⟨⟨okT ..,okT ..⟩,?_⟩))
   rw[eqT P.nd]
   exact ⟨_,.refl _,k _⟩
  refine kif (λh8=>?_) λ_=>fin _ e011
  rw[Km]
  refine (show [D.str "zzzzzzzz"].length+[D.tup (s.road.map .str),.int s.bt,s.bg,s.mn,s.R.toD].length<=1000000/\_ from ⟨by simp,?_⟩)
  refine ⟨by simp;omega,?_⟩
  have P5:PE' ws (ss++[twin s]):=DZ P nS (by omega) hs0
  refine ⟨g,ws,ss++[twin s],⟨by unfold ba;rw[NG];rfl,P5⟩,λp5 μ12 sb12 n5 e5=>?_⟩
  have e012:=sb12 p0 _ e011
  refine ⟨ss,evF ws ss,_,_,⟨e012,feB (cU P),e5,feB (cU P5),λa b ha hb=>qW (cU P) (cU P5) (Rj _ _) ha hb⟩,?_⟩
  exact fin _ e012
 refine kif (λh6=>?_) λh6=>?_
 ·rw[MX] at h6
  have w5:ws.length<=5:=by omega
  obtain ⟨PN,nn⟩:=Hr P nw w5
  refine ⟨g,ws,ss,⟨rfl,w5⟩,?_⟩
  walk_at "go"
  refine ⟨g,nD::ws,ss,⟨rfl,PN⟩,λp2 μ6 sb6 n2 e2=>?_⟩
  have e06:=sb6 p0 _ e05
  walk_at "go"
  refine gO e2 ?_
  walk_at "go"
  refine gO e06 ⟨⟨okT ..,okT ..⟩,?_⟩
  rw[EN P PN nn,eqT P.nd]
  exact kNT (rest _ e06)
 ·exact rest _ e05
theorem jr (ns:List Int)(h:ns.length<=63)(μ:Mu):dW [.ls (ns.map .int)] μ (λd _=>d=.bl true):=L3.jr ns h μ
end Kk
namespace Kk
open PySem L2 L3
theorem Kr {α:Type}{us:List α}(h:us.length=1):∃ x0,us=[x0]:=match us,h with | [x0],_=>⟨x0,rfl⟩
theorem J4 {α:Type}{us:List α}(h:us.length=2):∃ x0 x1,us=[x0,x1]:=match us,h with | [x0,x1],_=>⟨x0,x1,rfl⟩
theorem JI {α:Type}{us:List α}(h:us.length=3):∃ x0 x1 x2,us=[x0,x1,x2]:=match us,h with | [x0,x1,x2],_=>⟨x0,x1,x2,rfl⟩
theorem Ky {α:Type}{us:List α}(h:us.length=5):∃ x0 x1 x2 x3 x4,us=[x0,x1,x2,x3,x4]:=match us,h with | [x0,x1,x2,x3,x4],_=>⟨x0,x1,x2,x3,x4,rfl⟩
def top (i:Nat):Stmt:=PySem.Challenge.pw_swellways_k59_what_even_hangs_on.main.body.getD i (.Pass ⟨0,0,0,0⟩)
abbrev jH:Stmt:=top 1
abbrev AD:Stmt:=top 2
abbrev BO:Stmt:=top 3
abbrev xy:Stmt:=top 4
abbrev zL:Stmt:=top 5
abbrev Cb:Stmt:=top 6
abbrev ky:Stmt:=top 7
abbrev rE:Stmt:=top 17
abbrev lr:Stmt:=top 18
abbrev gS:Stmt:=top 20
abbrev fe:Stmt:=top 21
abbrev gc:Stmt:=top 24
abbrev tm:Stmt:=top 25
abbrev jk:Stmt:=top 26
abbrev lA:Stmt:=top 27
abbrev lD:Stmt:=top 29
abbrev mH:Stmt:=top 30
abbrev hW:Stmt:=top 31
abbrev fP:Stmt:=top 32
abbrev eE:Stmt:=top 33
abbrev vT:Stmt:=top 34
abbrev mG:Stmt:=top 36
abbrev jF:Stmt:=top 37
abbrev lY:Stmt:=top 38
abbrev jJ:Stmt:=top 39
abbrev jA:Stmt:=top 40
abbrev iQ:Stmt:=top 41
abbrev lB:Stmt:=top 42
abbrev eB:Stmt:=top 43
abbrev jQ:Stmt:=top 44
abbrev dP:Stmt:=top 45
abbrev jS:Stmt:=top 46
abbrev dH:Stmt:=top 47
abbrev iY:Stmt:=top 48
abbrev iV:Stmt:=top 49
abbrev fI:Stmt:=top 50
abbrev wZ:Stmt:=top 51
set_option genInjectivity false in
set_option genSizeOfSpec false in
structure Adr where
 jW:Addr
 sy:Nd
 Aj:Addr
 IF:Nd
 Cz:Addr
 Gn:Nd
 xw:Addr
 DP:Nd
 A6:Addr
 Jc:Nd
 za:Addr
 IY:Nd
 kr:Addr
 uf:Nd
 tJ:Addr
 BM:Nd
 lR:Addr
 ug:Nd
 gE:Addr
 mW:Nd
 iR:Addr
 pO:Nd
 jL:Addr
 sv:Nd
 sD:Addr
 AO:Nd
 oR:Addr
 yy:Nd
 rj:Addr
 Bo:Nd
 mI:Addr
 vC:Nd
 lV:Addr
 vg:Nd
 lE:Addr
 um:Nd
 rL:Addr
 CB:Nd
 gF:Addr
 nH:Nd
 AU:Addr
 HC:Nd
 lN:Addr
 u7:Nd
 jy:Addr
 rA:Nd
 kx:Addr
 ui:Nd
 jC:Addr
 tG:Nd
 jU:Addr
 rJ:Nd
 iP:Addr
 pL:Nd
 mh:Addr
 vM:Nd
 gI:Addr
 nK:Nd
 jP:Addr
 rf:Nd
 gU:Addr
 nI:Nd
 jR:Addr
 tf:Nd
 gR:Addr
 nC:Nd
 jb:Addr
 oS:Nd
 iA:Addr
 qz:Nd
 fD:Addr
 lW:Nd
 zu:Addr
 FD:Nd
structure Txt (Pm:Params) (K:ML) (mg:Str->Option MN) (t:Adr):Prop where
 sE:mg "common_of" = some (.ref t.jW)
 rM:Fun K "common_of" "common_of" jH t.jW t.sy
 HB:mg "part" = some (.ref t.Aj)
 Jy:Fun K "part" "part" AD t.Aj t.IF
 HA:mg "plus" = some (.ref t.Cz)
 Ig:Fun K "plus" "plus" BO t.Cz t.Gn
 DQ:mg "minus" = some (.ref t.xw)
 E6:Fun K "minus" "minus" xy t.xw t.DP
 HN:mg "over" = some (.ref t.A6)
 Gd:Fun K "over" "over" zL t.A6 t.Jc
 Gm:mg "less" = some (.ref t.za)
 Hz:Fun K "less" "less" Cb t.za t.IY
 vQ:mg "floor_of" = some (.ref t.kr)
 uk:Fun K "floor_of" "floor_of" ky t.kr t.uf
 Ap:mg "top_of" = some (.ref t.tJ)
 zI:Fun K "top_of" "top_of" rE t.tJ t.BM
 vJ:mg "limit_of" = some (.ref t.lR)
 vv:Fun K "limit_of" "limit_of" lr t.lR t.ug
 mU:mg "limit_share" = some (.ref t.gE)
 m8:Fun K "limit_share" "limit_share" gS t.gE t.mW
 pH:mg "senders_on" = some (.ref t.iR)
 qD:Fun K "senders_on" "senders_on" fe t.iR t.pO
 rY:mg "shares_on" = some (.ref t.jL)
 rT:Fun K "shares_on" "shares_on" gc t.jL t.sv
 zZ:mg "sum_on" = some (.ref t.sD)
 Ad:Fun K "sum_on" "sum_on" tm t.sD t.AO
 xU:mg "is_full" = some (.ref t.oR)
 yj:Fun K "is_full" "is_full" jk t.oR t.yy
 Bx:mg "is_why" = some (.ref t.rj)
 y9:Fun K "is_why" "is_why" lA t.rj t.Bo
 uW:mg "least_of" = some (.ref t.mI)
 u4:Fun K "least_of" "least_of" lD t.mI t.vC
 uI:mg "level_on" = some (.ref t.lV)
 tU:Fun K "level_on" "level_on" mH t.lV t.vg
 uY:mg "bound_of" = some (.ref t.lE)
 tY:Fun K "bound_of" "bound_of" hW t.lE t.um
 y6:mg "settle" = some (.ref t.rL)
 ze:Fun K "settle" "settle" fP t.rL t.CB
 nT:mg "even_shares" = some (.ref t.gF)
 mY:Fun K "even_shares" "even_shares" eE t.gF t.nH
 IH:mg "even" = some (.ref t.AU)
 Jp:Fun K "even" "even" vT t.AU t.HC
 vz:mg "_law_box" = some (.ref t.lN)
 vO:Fun K "_law_box" "_law_box" mG t.lN t.u7
 sm:mg "_law_take" = some (.ref t.jy)
 tQ:Fun K "_law_take" "_law_take" jF t.jy t.rA
 vR:mg "_law_low" = some (.ref t.kx)
 uU:Fun K "_law_low" "_law_low" lY t.kx t.ui
 tO:mg "_law_more" = some (.ref t.jC)
 r9:Fun K "_law_more" "_law_more" jJ t.jC t.tG
 rG:mg "_law_rule" = some (.ref t.jU)
 tR:Fun K "_law_rule" "_law_rule" jA t.jU t.rJ
 qr:mg "_law_limit" = some (.ref t.iP)
 pF:Fun K "_law_limit" "_law_limit" iQ t.iP t.pL
 uN:mg "_law_way" = some (.ref t.mh)
 vt:Fun K "_law_way" "_law_way" lB t.mh t.vM
 nO:mg "_law_sender" = some (.ref t.gI)
 mQ:Fun K "_law_sender" "_law_sender" eB t.gI t.nK
 qO:mg "_law_plan" = some (.ref t.jP)
 qZ:Fun K "_law_plan" "_law_plan" jQ t.jP t.rf
 nQ:mg "_law_shares" = some (.ref t.gU)
 mO:Fun K "_law_shares" "_law_shares" dP t.gU t.nI
 sf:mg "_law_like" = some (.ref t.jR)
 rO:Fun K "_law_like" "_law_like" jS t.jR t.tf
 nL:mg "_law_turned" = some (.ref t.gR)
 nA:Fun K "_law_turned" "_law_turned" dH t.gR t.nC
 pX:mg "_law_wider" = some (.ref t.jb)
 qf:Fun K "_law_wider" "_law_wider" iY t.jb t.oS
 qk:mg "_law_least" = some (.ref t.iA)
 qG:Fun K "_law_least" "_law_least" iV t.iA t.qz
 l8:mg "_law_no_less" = some (.ref t.fD)
 lC:Fun K "_law_no_less" "_law_no_less" fI t.fD t.lW
 JT:mg "law" = some (.ref t.zu)
 xm:Fun K "law" "law" wZ t.zu t.FD
 tE:mg "abs" = none
 Lb:mg "any" = none
 uz:mg "dict" = none
 jx:mg "enumerate" = none
 K2:mg "int" = none
 iB:mg "len" = none
 wK:mg "range" = none
 vD:mg "reversed" = none
 A1:mg "sorted" = none
 cH:mg "tuple" = none
 Fz:mg "zip" = none
 GL:GV K mg "BEAT" (.int 2)
 dM:GV K mg "NAME" (.int 0)
 zH:GV K mg "NOUGHT" (.tup [.int 0,.int 1])
 zw:GV K mg "PACE" (.int 1)
 kR:GV K mg "ROAD" (.int 1)
 fA:GV K mg "ROW_SHARE" (.int 1)
 HG:GV K mg "RULE" (.int 5)
 cQ:GV K mg "SENDERS" (.int 2)
 Cq:GV K mg "WAYS" (.int 1)
local macro_rules | `(tactic| walk_at "sc")=>`(tactic| exact K7 rfl rfl rfl rfl (by decide +kernel))
local macro_rules | `(tactic| walk_at "b1")=>`(tactic| (rename_i hl;obtain ⟨x0,e⟩:=Kr hl;subst e;rfl))
local macro_rules | `(tactic| walk_at "b2")=>`(tactic| (rename_i hl;obtain ⟨x0,x1,e⟩:=J4 hl;subst e;rfl))
local macro_rules | `(tactic| walk_at "b3")=>`(tactic| (rename_i hl;obtain ⟨x0,x1,x2,e⟩:=JI hl;subst e;rfl))
local macro_rules | `(tactic| walk_at "b5")=>`(tactic| (rename_i hl;obtain ⟨x0,x1,x2,x3,x4,e⟩:=Ky hl;subst e;rfl))
section
variable {P:Nh} {w:Nw} {K:ML} {mg:Str->Option MN} {base:Heap} {t:Adr}
theorem bP:aE ["one", "other", "divisor", "rest", "behind"] ["one", "other"] (au jH):=by walk_at "sc"
theorem qY (T:Txt w.params K mg t):aM P w K mg base 1 "common_of" ["one", "other"] L3.cN:=aH T.sE T.rM bP L3.mV L3.oY (λ_ _ _ _ _ _ _ _=>by walk_at "b2") λ_ _ _ _ _ _ hr hu=>
 ao (aD 2 bP.nd (bf f9 il rfl T.tE rfl (ae (af 0) (ai)))) (ao (aD 3 bP.nd (bf f9 il rfl T.tE rfl (ae (af 1) (ai)))) (ao (lI NA (Av (af 3) (le_int)) (ao (aD 4 bP.nd (eA (af 2) (af 3))) (ao (aD 2 bP.nd (af 3)) (ay (aD 3 bP.nd (af 4)))))) (ay (aI (af 2)))))
theorem pJ:aE ["top", "bottom", "divisor"] ["top", "bottom"] (au AD):=by walk_at "sc"
theorem o8 (T:Txt w.params K mg t):aM P w K mg base 2 "part" ["top", "bottom"] L3.eW:=aH T.HB T.Jy pJ L3.CM L3.Ee (λ_ _ _ _ _ _ _ _=>by walk_at "b2") λ_ _ _ _ _ _ hr hu=>
 ao (aD 2 pJ.nd (aj (qY T) hr rfl (ae (af 0) (ae (af 1) (ai))))) (ao (cD (oI (af 1) (le_int)) (ay (aD 2 pJ.nd (le_neg (af 2)))) (bB)) (ay (aI (aJ (ae (fR (af 0) (af 2)) (ae (fR (af 1) (af 2)) (ai)))))))
theorem CV:aE ["one", "other"] ["one", "other"] (au BO):=by walk_at "sc"
theorem Gu (T:Txt w.params K mg t):aM P w K mg base 3 "plus" ["one", "other"] L3.kf:=aH T.HA T.Ig CV L3.BN L3.D9 (λ_ _ _ _ _ _ _ _=>by walk_at "b2") λ_ _ _ _ _ _ hr hu=>
 ay (aI (aj (o8 T) hr rfl (ae (aF (le_mul (ax (af 0) (le_int)) (ax (af 1) (le_int))) (le_mul (ax (af 1) (le_int)) (ax (af 0) (le_int)))) (ae (le_mul (ax (af 0) (le_int)) (ax (af 1) (le_int))) (ai)))))
theorem A5:aE ["one", "other"] ["one", "other"] (au xy):=by walk_at "sc"
theorem Ec (T:Txt w.params K mg t):aM P w K mg base 3 "minus" ["one", "other"] L3.i7:=aH T.DQ T.E6 A5 L3.xH L3.By (λ_ _ _ _ _ _ _ _=>by walk_at "b2") λ_ _ _ _ _ _ hr hu=>
 ay (aI (aj (o8 T) hr rfl (ae (uj (le_mul (ax (af 0) (le_int)) (ax (af 1) (le_int))) (le_mul (ax (af 1) (le_int)) (ax (af 0) (le_int)))) (ae (le_mul (ax (af 0) (le_int)) (ax (af 1) (le_int))) (ai)))))
theorem C9:aE ["one", "other"] ["one", "other"] (au zL):=by walk_at "sc"
theorem Ij (T:Txt w.params K mg t):aM P w K mg base 3 "over" ["one", "other"] kh:=aH T.HN T.Gd C9 Bl DO (λ_ _ _ _ _ _ _ _=>by walk_at "b2") λ_ _ _ _ _ _ hr hu=>
 ay (aI (aj (o8 T) hr rfl (ae (le_mul (ax (af 0) (le_int)) (ax (af 1) (le_int))) (ae (le_mul (ax (af 0) (le_int)) (ax (af 1) (le_int))) (ai)))))
theorem DV:aE ["one", "other"] ["one", "other"] (au Cb):=by walk_at "sc"
theorem y3 (T:Txt w.params K mg t):aM P w K mg base 1 "less" ["one", "other"] L3.ja:=aH T.Gm T.Hz DV L3.Bt L3.D0 (λ_ _ _ _ _ _ _ _=>by walk_at "b2") λ_ _ _ _ _ _ hr hu=>
 ay (aI (Kb (le_mul (ax (af 0) (le_int)) (ax (af 1) (le_int))) (le_mul (ax (af 1) (le_int)) (ax (af 0) (le_int)))))
theorem rQ:aE ["one"] ["one"] (au ky):=by walk_at "sc"
theorem vX (T:Txt w.params K mg t):aM P w K mg base 1 "floor_of" ["one"] L3.dj:=aH T.vQ T.uk rQ L3.qC L3.rB (λ_ _ _ _ _ _ _ _=>by walk_at "b1") λ_ _ _ _ _ _ hr hu=>
 ay (aI (fR (ax (af 0) (le_int)) (ax (af 0) (le_int))))
theorem xP:aE ["rule"] ["rule"] (au rE):=by walk_at "sc"
theorem AX (T:Txt w.params K mg t):aM P w K mg base 1 "top_of" ["rule"] L3.gr:=aH T.Ap T.zI xP L3.vS L3.xS (λ_ _ _ _ _ _ _ _=>by walk_at "b1") λ_ _ _ _ _ _ hr hu=>
 ay (aI (ax (af 0) (uj (bf bY dq rfl T.iB rfl (ae (af 0) (ai))) (le_int))))
theorem rz:aE ["rule"] ["rule"] (au lr):=by walk_at "sc"
theorem vj (T:Txt w.params K mg t):aM P w K mg base 2 "limit_of" ["rule"] dr:=aH T.vJ T.vv rz pV sX (λ_ _ _ _ _ _ _ _=>by walk_at "b1") λ_ _ _ _ _ _ hr hu=>
 ay (aI (aj (vX T) hr rfl (ae (aj (AX T) hr rfl (ae (af 0) (ai))) (ai))))
theorem kq:aE ["sender"] ["sender"] (au gS):=by walk_at "sc"
theorem gN (T:Txt w.params K mg t):aM P w K mg base 3 "limit_share" ["sender"] bM:=aH T.mU T.m8 kq j2 kA (λ_ _ _ _ _ _ _ _=>by walk_at "b1") λ_ _ _ _ _ _ hr hu=>
 ay (aI (aj (o8 T) hr rfl (ae (aj (vj T) hr rfl (ae (ax (af 0) (bc rfl T.HG)) (ai))) (ae (ax (af 0) (bc rfl T.GL)) (ai)))))
theorem nv:aE ["plan", "name"] ["plan", "name"] (au fe):=by walk_at "sc"
theorem qh (T:Txt w.params K mg t):aM P w K mg base 1 "senders_on" ["plan", "name"] cp:=aH T.pH T.qD nv md nE (λ_ _ _ _ _ _ _ _=>by walk_at "b2") λ_ _ _ _ _ _ hr hu=>
 ay (aI (bJ (fsc:=au fe) ["plan", "name"] ["sender", "name"] 1 [1] rfl rfl (bH (ax (af 0) (bc rfl T.cQ))) (λcl C s₀ H₀ ex=>⟨bx 0 (show (["sender", "name"]:List Str).Nodup from by decide +kernel),eR (Cj hu (af 1) (ax (af 0) (bc rfl T.kR))),af 0⟩) rfl rfl (by decide +kernel)))
theorem qE:aE ["plan", "shares", "name"] ["plan", "shares", "name"] (au gc):=by walk_at "sc"
theorem jT (T:Txt w.params K mg t):aM P w K mg base 1 "shares_on" ["plan", "shares", "name"] b8:=aH T.rY T.rT qE ny pA (λ_ _ _ _ _ _ _ _=>by walk_at "b3") λ_ _ _ _ _ _ hr hu=>
 ay (aI (bJ (fsc:=au gc) ["plan", "shares", "name"] ["sender", "row", "name"] 2 [2] rfl rfl (w4 rfl T.Fz (ae (ax (af 0) (bc rfl T.cQ)) (ae (af 1) (ai)))) (λcl C s₀ H₀ ex=>⟨wx rfl (gs 0 (show (["sender", "row", "name"]:List Str).Nodup from by decide +kernel) (gs 1 (show (["sender", "row", "name"]:List Str).Nodup from by decide +kernel) (sW))),eR (Cj hu (af 2) (ax (af 0) (bc rfl T.kR))),ax (af 1) (bc rfl T.fA)⟩) rfl rfl (by decide +kernel)))
theorem gq:aE ["plan", "shares", "name", "total", "share"] ["plan", "shares", "name"] (au tm):=by walk_at "sc"
theorem zd (T:Txt w.params K mg t):aM P w K mg base 4 "sum_on" ["plan", "shares", "name"] gy:=aH T.zZ T.Ad gq vp yh (λ_ _ _ _ _ _ _ _=>by walk_at "b3") λ_ _ _ _ _ _ hr hu=>
 ao (aD 3 gq.nd (bc rfl T.zH)) (ao (cA NA rfl (bH (aj (jT T) hr rfl (ae (af 0) (ae (af 1) (ae (af 2) (ai)))))) (e7 4 gq.nd) (ay (aD 3 gq.nd (aj (Gu T) hr rfl (ae (af 3) (ae (af 4) (ai))))))) (ay (aI (af 3))))
theorem ml:aE ["plan", "shares", "name", "pace"] ["plan", "shares", "name"] (au jk):=by walk_at "sc"
theorem yN (T:Txt w.params K mg t):aM P w K mg base 5 "is_full" ["plan", "shares", "name"] eZ:=aH T.xU T.yj ml qR vc (λ_ _ _ _ _ _ _ _=>by walk_at "b3") λ_ _ _ _ _ _ hr hu=>
 ao (aD 3 ml.nd (ax (bJ (fsc:=au jk) ["plan", "shares", "name", "pace"] ["way", "name"] 1 [2] rfl rfl (bH (ax (af 0) (bc rfl T.Cq))) (λcl C s₀ H₀ ex=>⟨bx 0 (show (["way", "name"]:List Str).Nodup from by decide +kernel),eR (lt_eq hu (ax (af 0) (bc rfl T.dM)) (af 1)),ax (af 0) (bc rfl T.zw)⟩) rfl rfl (by decide +kernel)) (le_int))) (ay (aI (le_eq hu (aj (zd T) hr rfl (ae (af 0) (ae (af 1) (ae (af 2) (ai))))) (aJ (ae (af 3) (ae (le_int) (ai)))))))
theorem yn:aE ["plan", "shares", "sender", "share", "why"] ["plan", "shares", "sender", "share", "why"] (au lA):=by walk_at "sc"
theorem Bf (T:Txt w.params K mg t):aM P w K mg base 6 "is_why" ["plan", "shares", "sender", "share", "why"] gm:=aH T.Bx T.y9 yn t8 yS (λ_ _ _ _ _ _ _ _=>by walk_at "b5") λ_ _ _ _ _ _ hr hu=>
 ao (cD (lt_eq hu (af 4) (le_str)) (ay (aI (le_eq hu (af 3) (aj (gN T) hr rfl (ae (af 2) (ai)))))) (bB)) (ao (cD (LW.lt (FN (ym hu (af 4) (ax (af 2) (bc rfl T.kR))) (Au (uX (lU (aj (yN T) hr rfl (ae (af 0) (ae (af 1) (ae (af 4) (ai)))))))))) (ay (aI (oN))) (bB)) (ay (aI (GA (bf (xM rfl) EL rfl T.Lb rfl (ae (bJ (fsc:=au lA) ["plan", "shares", "sender", "share", "why"] ["other", "share"] 1 [3] rfl rfl (bH (aj (jT T) hr rfl (ae (af 0) (ae (af 1) (ae (af 4) (ai)))))) (λcl C s₀ H₀ ex=>⟨bx 0 (show (["other", "share"]:List Str).Nodup from by decide +kernel),dz,aj (y3 T) hr rfl (ae (af 1) (ae (af 0) (ai)))⟩) rfl rfl (by decide +kernel)) (ai)))))))
theorem dA:aE ["row", "least", "one"] ["row"] (au lD):=by walk_at "sc"
theorem l9 (T:Txt w.params K mg t):aM P w K mg base 2 "least_of" ["row"] cx:=aH T.uW T.u4 dA qA rS (λ_ _ _ _ _ _ _ _=>by walk_at "b1") λ_ _ _ _ _ _ hr hu=>
 ao (aD 1 dA.nd (ax (af 0) (le_int))) (ao (cA NA rfl (bH (af 0)) (e7 2 dA.nd) (ay (cD (lU (aj (y3 T) hr rfl (ae (af 2) (ae (af 1) (ai))))) (ay (aD 1 dA.nd (af 2))) (bB)))) (ay (aI (af 1))))
theorem bZ:aE ["plan", "way", "settled", "remains", "rising", "sender"] ["plan", "way", "settled"] (au mH):=by walk_at "sc"
theorem vn (T:Txt w.params K mg t):aM P w K mg base 4 "level_on" ["plan", "way", "settled"] dB:=aH T.uI T.tU bZ pE rg (λ_ _ _ _ _ _ _ _=>by walk_at "b3") λ_ _ _ _ _ _ hr hu=>
 ao (aD 3 bZ.nd (aJ (ae (ax (af 1) (bc rfl T.zw)) (ae (le_int) (ai))))) (ao (aD 4 bZ.nd (le_int)) (ao (cA NA rfl (bH (aj (qh T) hr rfl (ae (af 0) (ae (ax (af 1) (bc rfl T.dM)) (ai))))) (e7 5 bZ.nd) (ay (cD (GZ hu (ax (af 5) (bc rfl T.dM)) (af 2)) (ay (aD 3 bZ.nd (aj (Ec T) hr rfl (ae (af 3) (ae (iX hu (af 2) (ax (af 5) (bc rfl T.dM))) (ai)))))) (ay (ya 4 bZ.nd (le_int)))))) (ay (aI (vW (lt_eq hu (af 4) (le_int)) (dJ) (aj (Ij T) hr rfl (ae (af 3) (ae (aJ (ae (af 4) (ae (le_int) (ai)))) (ai)))))))))
theorem sN:aE ["sender", "levels"] ["sender", "levels"] (au hW):=by walk_at "sc"
theorem kH (T:Txt w.params K mg t):aM P w K mg base 4 "bound_of" ["sender", "levels"] cw:=aH T.uY T.tY sN pI tS (λ_ _ _ _ _ _ _ _=>by walk_at "b2") λ_ _ _ _ _ _ hr hu=>
 ay (aI (aj (l9 T) hr rfl (ae (aF (bW (ae (aj (gN T) hr rfl (ae (af 0) (ai))) (ai))) (bJ (fsc:=au hW) ["sender", "levels"] ["name", "levels"] 1 [1] rfl rfl (bH (ax (af 0) (bc rfl T.kR))) (λcl C s₀ H₀ ex=>⟨bx 0 (show (["name", "levels"]:List Str).Nodup from by decide +kernel),dz,iX hu (af 1) (af 0)⟩) rfl rfl (by decide +kernel))) (ai))))
theorem eO:aE ["plan", "settled", "levels", "rising", "least", "sender"] ["plan", "settled"] (au fP):=by walk_at "sc"
theorem B0 (T:Txt w.params K mg t):aM P w K mg base 5 "settle" ["plan", "settled"] gv:=aH T.y6 T.ze eO uu yO (λ_ _ _ _ _ _ _ _=>by walk_at "b2") λ_ _ _ _ _ _ hr hu=>
 ao (aD 2 eO.nd (a9 (gZ rfl) mv rfl T.uz rfl (ae (bJ (fsc:=au fP) ["plan", "settled", "levels", "rising", "least", "sender"] ["way", "plan", "settled"] 1 [0,1] rfl rfl (bH (ax (af 0) (bc rfl T.Cq))) (λcl C s₀ H₀ ex=>⟨bx 0 (show (["way", "plan", "settled"]:List Str).Nodup from by decide +kernel),dz,aJ (ae (ax (af 0) (bc rfl T.dM)) (ae (aj (vn T) hr rfl (ae (af 1) (ae (af 0) (ae (af 2) (ai))))) (ai)))⟩) rfl rfl (by decide +kernel)) (ai)))) (ao (mj (fsc:=au fP) 3 eO.nd ["plan", "settled", "levels", "rising", "least", "sender"] ["sender", "settled"] 1 [1] rfl rfl (bH (ax (af 0) (bc rfl T.cQ))) (λcl C s₀ H₀ ex=>⟨bx 0 (show (["sender", "settled"]:List Str).Nodup from by decide +kernel),eR (D6 hu (ax (af 0) (bc rfl T.dM)) (af 1)),af 0⟩) rfl rfl (by decide +kernel)) (ao (aD 4 eO.nd (aj (l9 T) hr rfl (ae (bJ (fsc:=au fP) ["plan", "settled", "levels", "rising", "least", "sender"] ["sender", "levels"] 1 [2] rfl rfl (bH (af 3)) (λcl C s₀ H₀ ex=>⟨bx 0 (show (["sender", "levels"]:List Str).Nodup from by decide +kernel),dz,aj (kH T) hr rfl (ae (af 0) (ae (af 1) (ai)))⟩) rfl rfl (by decide +kernel)) (ai)))) (ay (cA NA rfl (bH (af 3)) (e7 5 eO.nd) (ay (cD (lt_eq hu (aj (kH T) hr rfl (ae (af 5) (ae (af 2) (ai)))) (af 4)) (ay (wR hu (af 1) (ax (af 5) (bc rfl T.dM)) (af 4))) (bB)))))))
theorem fE:aE ["plan", "settled"] ["plan"] (au eE):=by walk_at "sc"
theorem mT (T:Txt w.params K mg t):aM P w K mg base 6 "even_shares" ["plan"] cg:=aH T.nT T.mY fE j3 kE (λ_ _ _ _ _ _ _ _=>by walk_at "b1") λ_ _ _ _ _ _ hr hu=>
 ao (aD 1 fE.nd (AJ)) (ao (lI NA (oI (bf yH Cr rfl T.iB rfl (ae (af 1) (ai))) (bf bY dq rfl T.iB rfl (ae (ax (af 0) (bc rfl T.cQ)) (ai)))) (ay (eQ (aj (B0 T) hr rfl (ae (af 0) (ae (af 1) (ai))))))) (ay (aI (a9 aZ bO rfl T.cH rfl (ae (bJ (fsc:=au eE) ["plan", "settled"] ["sender", "settled"] 1 [1] rfl rfl (bH (ax (af 0) (bc rfl T.cQ))) (λcl C s₀ H₀ ex=>⟨bx 0 (show (["sender", "settled"]:List Str).Nodup from by decide +kernel),dz,aJ (ae (ax (af 0) (bc rfl T.dM)) (ae (iX hu (af 1) (ax (af 0) (bc rfl T.dM))) (ai)))⟩) rfl rfl (by decide +kernel)) (ai))))))
theorem gh:aE ["plan", "shares", "rows", "sender", "row", "whys"] ["plan"] (au vT):=by walk_at "sc"
theorem Ax (T:Txt w.params K mg t):aM P w K mg base 7 "even" ["plan"] iU:=aH T.IH T.Jp gh Cf CY (λ_ _ _ _ _ _ _ _=>by walk_at "b1") λ_ _ _ _ _ _ hr hu=>
 ao (aD 1 gh.nd (aj (mT T) hr rfl (ae (af 0) (ai)))) (ao (aD 2 gh.nd (fS (ai))) (ao (cA NA rfl (w4 rfl T.Fz (ae (ax (af 0) (bc rfl T.cQ)) (ae (af 1) (ai)))) (ju rfl (aW 3 gh.nd (aW 4 gh.nd (gf)))) (ao (mj (fsc:=au vT) 5 gh.nd ["plan", "shares", "rows", "sender", "row", "whys"] ["why", "plan", "shares", "sender", "row"] 1 [0,1,3,4] rfl rfl (bH (aF (aJ (ae (le_str) (ai))) (ax (af 3) (bc rfl T.kR)))) (λcl C s₀ H₀ ex=>⟨bx 0 (show (["why", "plan", "shares", "sender", "row"]:List Str).Nodup from by decide +kernel),eR (lU (aj (Bf T) hr rfl (ae (af 1) (ae (af 2) (ae (af 3) (ae (ax (af 4) (bc rfl T.fA)) (ae (af 0) (ai)))))))),af 0⟩) rfl rfl (by decide +kernel)) (ay (eQ (le_app (af 2) (aJ (ae (ax (af 4) (bc rfl T.dM)) (ae (ax (af 4) (bc rfl T.fA)) (ae (ax (af 5) (le_int)) (ai)))))))))) (ay (aI (a9 aZ bO rfl T.cH rfl (ae (af 2) (ai)))))))
theorem fW:aE ["_law_script", "_law_k", "_law_cell", "_law_great"] ["_law_script", "_law_k"] (au mG):=by walk_at "sc"
theorem cR (T:Txt w.params K mg t):aM P w K mg base 1 "_law_box" ["_law_script", "_law_k"] L3.fT:=aH T.vz T.vO fW L3.EX L3.F8 (λ_ _ _ _ _ _ _ _=>by walk_at "b2") λ_ _ _ _ _ _ hr hu=>
 ao (aD 2 fW.nd (vW (oI (af 1) (bf bY dq rfl T.iB rfl (ae (af 0) (ai)))) (ax (af 0) (af 1)) (le_int))) (ao (aD 3 fW.nd (le_mul (bf f9 il rfl T.tE rfl (ae (af 2) (ai))) (a9 yE DL rfl T.K2 rfl (ae (Lv (bf f9 il rfl T.tE rfl (ae (af 2) (ai))) (le_pow (le_int) (le_int))) (ai))))) (ay (aI (fS (ae (af 3) (ae (eA (le_mul (aF (aF (eA (af 2) (le_int)) (le_mul (le_mul (le_int) (af 1)) (af 1))) (le_int)) (le_int)) (le_int)) (ae (le_int) (ai))))))))
theorem ix:aE ["_law_box_here", "_law_many", "_law_digit"] ["_law_box_here", "_law_many"] (au jF):=by walk_at "sc"
theorem av (T:Txt w.params K mg t):aM P w K mg base 1 "_law_take" ["_law_box_here", "_law_many"] fg:=aH T.sm T.tQ ix mM qB (λ_ _ _ _ _ _ _ _=>by walk_at "b2") λ_ _ _ _ _ _ hr hu=>
 ao (lJ (af 0) (le_int) (aF (ax (af 0) (le_int)) (le_int))) (ao (cD (LW.lt (AN (Av (ax (af 0) (le_int)) (le_int)) (wO (Fw (ax (af 0) (le_int)) (le_int))))) (ao (aD 2 ix.nd (eA (ax (af 0) (le_int)) (af 1))) (ao (lJ (af 0) (le_int) (fR (ax (af 0) (le_int)) (af 1))) (ay (aI (af 2))))) (bB)) (ao (lJ (af 0) (le_int) (eA (aF (aF (le_mul (ax (af 0) (le_int)) (le_int)) (le_int)) (ax (af 0) (le_int))) (le_int))) (ay (aI (eA (fR (eA (le_mul (ax (af 0) (le_int)) (aF (eA (ax (af 0) (le_int)) (le_int)) (le_int))) (le_int)) (le_int)) (af 1))))))
theorem fM:aE ["_law_top", "_law_bottom", "_law_one", "_law_other"] ["_law_top", "_law_bottom"] (au lY):=by walk_at "sc"
theorem cY (T:Txt w.params K mg t):aM P w K mg base 1 "_law_low" ["_law_top", "_law_bottom"] bA:=aH T.vR T.uU fM oT sZ (λ_ _ _ _ _ _ _ _=>by walk_at "b2") λ_ _ _ _ _ _ hr hu=>
 ao (uS 2 3 rfl fM.nd (ae (bf f9 il rfl T.tE rfl (ae (af 0) (ai))) (ae (af 1) (ai)))) (ao (lI NA (Av (af 3) (le_int)) (ay (uS 2 3 rfl fM.nd (ae (af 3) (ae (eA (af 2) (af 3)) (ai)))))) (ay (aI (aJ (ae (fR (af 0) (af 2)) (ae (fR (af 1) (af 2)) (ai)))))))
theorem fi:aE ["_law_one", "_law_box_here", "_law_most", "_law_bottom", "_law_made"] ["_law_one", "_law_box_here", "_law_most"] (au jJ):=by walk_at "sc"
theorem qT (T:Txt w.params K mg t):aM P w K mg base 2 "_law_more" ["_law_one", "_law_box_here", "_law_most"] cG:=aH T.tO T.r9 fi nc p9 (λ_ _ _ _ _ _ _ _=>by walk_at "b3") λ_ _ _ _ _ _ hr hu=>
 ao (aD 3 fi.nd (aF (le_int) (aj (av T) hr rfl (ae (af 1) (ae (le_int) (ai)))))) (ao (aD 4 fi.nd (aj (cY T) hr rfl (ae (aF (le_mul (ax (af 0) (le_int)) (af 3)) (le_mul (ax (af 0) (le_int)) (aj (av T) hr rfl (ae (af 1) (ae (af 2) (ai)))))) (ae (le_mul (ax (af 0) (le_int)) (af 3)) (ai))))) (ay (aI (vW (Fw (ax (af 4) (le_int)) (le_mul (le_int) (ax (af 4) (le_int)))) (af 4) (aJ (ae (le_int) (ae (le_int) (ai))))))))
theorem aV:aE ["_law_box_here", "_law_whole", "_law_bottom", "_law_w", "_law_top", "_law_up", "_law_under", "_law_down", "_law_least_here", "_law_rules"] ["_law_box_here"] (au jA):=by walk_at "sc"
theorem qQ (T:Txt w.params K mg t):aM P w K mg base 3 "_law_rule" ["_law_box_here"] cL:=aH T.rG T.tR aV nr pT (λ_ _ _ _ _ _ _ _=>by walk_at "b1") λ_ _ _ _ _ _ hr hu=>
 ao (aD 1 aV.nd (ax (bW (ae (aF (le_int) (aj (av T) hr rfl (ae (af 0) (ae (le_int) (ai))))) (ae (aF (le_int) (aj (av T) hr rfl (ae (af 0) (ae (le_int) (ai))))) (ae (aF (le_int) (aj (av T) hr rfl (ae (af 0) (ae (le_int) (ai))))) (ai))))) (aj (av T) hr rfl (ae (af 0) (ae (le_int) (ai)))))) (ao (aD 2 aV.nd (aF (le_int) (aj (av T) hr rfl (ae (af 0) (ae (le_int) (ai)))))) (ao (aD 3 aV.nd (aj (cY T) hr rfl (ae (aF (le_mul (af 1) (af 2)) (aj (av T) hr rfl (ae (af 0) (ae (af 2) (ai))))) (ae (af 2) (ai))))) (ao (aD 4 aV.nd (aj (qT T) hr rfl (ae (af 3) (ae (af 0) (ae (le_int) (ai)))))) (ao (aD 5 aV.nd (aj (cY T) hr rfl (ae (aF (le_int) (aj (av T) hr rfl (ae (af 0) (ae (le_int) (ai))))) (ae (aF (le_int) (aj (av T) hr rfl (ae (af 0) (ae (le_int) (ai))))) (ai))))) (ao (aD 6 aV.nd (aF (le_int) (aj (av T) hr rfl (ae (af 0) (ae (le_int) (ai)))))) (ao (aD 7 aV.nd (aj (cY T) hr rfl (ae (aF (le_int) (aj (av T) hr rfl (ae (af 0) (ae (uj (af 6) (le_int)) (ai))))) (ae (af 6) (ai))))) (ao (aD 8 aV.nd (aj (av T) hr rfl (ae (af 0) (ae (le_int) (ai))))) (ao (aD 9 aV.nd (bW (ae (aJ (ae (le_str) (ae (af 3) (ai)))) (ae (aJ (ae (le_str) (ae (af 3) (ae (af 5) (ae (af 7) (ae (af 4) (ai))))))) (ae (aJ (ae (le_str) (ae (af 3) (ae (aj (cY T) hr rfl (ae (aF (ax (af 5) (le_int)) (ax (af 5) (le_int))) (ae (ax (af 5) (le_int)) (ai)))) (ae (af 7) (ae (af 4) (ai))))))) (ai)))))) (ao (aD 9 aV.nd (aF (af 9) (bW (ae (aJ (ae (le_str) (ae (af 3) (ae (af 5) (ae (af 7) (ae (af 4) (ai))))))) (ae (aJ (ae (le_str) (ae (af 3) (ae (af 5) (ae (aJ (ae (le_int) (ae (le_int) (ai)))) (ae (af 4) (ai))))))) (ai)))))) (ay (aI (ax (aF (af 9) (bW (ae (aJ (ae (le_str) (ae (af 3) (ae (af 5) (ae (af 8) (ae (aF (af 8) (aj (av T) hr rfl (ae (af 0) (ae (le_int) (ai))))) (ae (af 4) (ai)))))))) (ai)))) (aj (av T) hr rfl (ae (af 0) (ae (le_int) (ai))))))))))))))))
theorem nu:aE ["_law_rule_here"] ["_law_rule_here"] (au iQ):=by walk_at "sc"
theorem qK (T:Txt w.params K mg t):aM P w K mg base 1 "_law_limit" ["_law_rule_here"] cu:=aH T.qr T.pF nu kT nN (λ_ _ _ _ _ _ _ _=>by walk_at "b1") λ_ _ _ _ _ _ hr hu=>
 ay (aI (fR (ax (ax (af 0) (le_neg (le_int))) (le_int)) (ax (ax (af 0) (le_neg (le_int))) (le_int))))
theorem gd:aE ["_law_box_here", "_law_name", "_law_pace", "_law_mark"] ["_law_box_here", "_law_name"] (au lB):=by walk_at "sc"
theorem vE (T:Txt w.params K mg t):aM P w K mg base 2 "_law_way" ["_law_box_here", "_law_name"] dk:=aH T.uN T.vt gd pw sI (λ_ _ _ _ _ _ _ _=>by walk_at "b2") λ_ _ _ _ _ _ hr hu=>
 ao (aD 2 gd.nd (ax (bW (ae (aF (le_int) (aj (av T) hr rfl (ae (af 0) (ae (le_int) (ai))))) (ae (aF (le_int) (aj (av T) hr rfl (ae (af 0) (ae (le_int) (ai))))) (ai)))) (aj (av T) hr rfl (ae (af 0) (ae (le_int) (ai)))))) (ao (aD 3 gd.nd (ax (bW (ae (dJ) (ae (aj (av T) hr rfl (ae (af 0) (ae (le_int) (ai)))) (ai)))) (aj (av T) hr rfl (ae (af 0) (ae (le_int) (ai)))))) (ay (aI (aJ (ae (af 1) (ae (af 2) (ae (aF (le_int) (aj (av T) hr rfl (ae (af 0) (ae (le_int) (ai))))) (ae (af 3) (ae (ax (bW (ae (le_str) (ae (le_str) (ai)))) (aj (av T) hr rfl (ae (af 0) (ae (le_int) (ai))))) (ai))))))))))
theorem bI:aE ["_law_box_here", "_law_name", "_law_ways", "_law_road", "_law_begin", "_law_many"] ["_law_box_here", "_law_name", "_law_ways"] (au eB):=by walk_at "sc"
theorem mL (T:Txt w.params K mg t):aM P w K mg base 4 "_law_sender" ["_law_box_here", "_law_name", "_law_ways"] b9:=aH T.nO T.mQ bI j4 lG (λ_ _ _ _ _ _ _ _=>by walk_at "b3") λ_ _ _ _ _ _ hr hu=>
 ao (yz (fsc:=au eB) 3 bI.nd ["_law_box_here", "_law_name", "_law_ways", "_law_road", "_law_begin", "_law_many"] ["_law_way_here", "_law_box_here"] 1 [0] rfl rfl (af 2) (λcl C s₀ H₀ ex=>⟨bx 0 (show (["_law_way_here", "_law_box_here"]:List Str).Nodup from by decide +kernel),eR (lt_eq hu (aj (av T) hr rfl (ae (af 1) (ae (le_int) (ai)))) (le_int)),ax (af 0) (le_int)⟩) rfl rfl (by decide +kernel)) (ao (cD (lt_eq hu (af 3) (bW (ai))) (ay (aD 3 bI.nd (bW (ae (ax (ax (af 2) (aj (av T) hr rfl (ae (af 0) (ae (bf bY dq rfl T.iB rfl (ae (af 2) (ai))) (ai))))) (le_int)) (ai))))) (bB)) (ao (aD 4 bI.nd (ax (bW (ae (le_int) (ae (aj (av T) hr rfl (ae (af 0) (ae (le_int) (ai)))) (ae (aj (av T) hr rfl (ae (af 0) (ae (aF (le_pow (le_int) (le_int)) (le_int)) (ai)))) (ai))))) (aj (av T) hr rfl (ae (af 0) (ae (le_int) (ai)))))) (ao (aD 5 bI.nd (ax (bW (ae (dJ) (ae (aj (av T) hr rfl (ae (af 0) (ae (le_int) (ai)))) (ai)))) (aj (av T) hr rfl (ae (af 0) (ae (le_int) (ai)))))) (ay (aI (aJ (ae (af 1) (ae (a9 aZ bO rfl T.cH rfl (ae (af 3) (ai))) (ae (aF (le_int) (aj (av T) hr rfl (ae (af 0) (ae (le_int) (ai))))) (ae (af 4) (ae (af 5) (ae (aj (qQ T) hr rfl (ae (af 0) (ai))) (ai)))))))))))))
theorem aY:aE ["_law_script", "_law_box_here", "_law_stock", "_law_names", "_law_k", "_law_ways", "_law_senders", "_law_name"] ["_law_script"] (au jQ):=by walk_at "sc"
theorem qP (T:Txt w.params K mg t):aM P w K mg base 5 "_law_plan" ["_law_script"] cP:=aH T.qO T.qZ aY mX qH (λ_ _ _ _ _ _ _ _=>by walk_at "b1") λ_ _ _ _ _ _ hr hu=>
 ao (aD 1 aY.nd (aj (cR T) hr rfl (ae (af 0) (ae (le_int) (ai))))) (ao (aD 2 aY.nd (fS (ae (le_str) (ae (le_str) (ae (le_str) (ae (le_str) (ae (le_str) (ae (le_str) (ae (le_str) (ae (le_str) (ae (le_str) (ae (le_str) (ae (le_str) (ae (le_str) (ae (le_str) (ae (le_str) (ae (le_str) (ai)))))))))))))))))) (ao (aD 3 aY.nd (fS (ai))) (ao (cA NA rfl (oa rfl T.wK (le_int)) (e7 4 aY.nd) (ay (eQ (le_app (af 3) (IE (af 2) (aj (av T) hr rfl (ae (af 1) (ae (bf bY dq rfl T.iB rfl (ae (af 2) (ai))) (ai))))))))) (ao (aD 5 aY.nd (fS (ai))) (ao (cA NA rfl (oa rfl T.wK (aF (le_int) (aj (av T) hr rfl (ae (af 1) (ae (le_int) (ai)))))) (e7 4 aY.nd) (ay (eQ (le_app (af 5) (aj (vE T) hr rfl (ae (aj (cR T) hr rfl (ae (af 0) (ae (aF (le_int) (af 4)) (ai)))) (ae (ax (af 3) (eA (aF (le_mul (le_int) (af 4)) (le_int)) (le_int))) (ai)))))))) (ao (aD 6 aY.nd (fS (ai))) (ao (cA NA rfl (wC rfl T.jx (ae (tN (zO rfl T.A1 rfl (ae (HD (af 3)) (ai))) (sG) (mf (aj (av T) hr rfl (ae (af 1) (ae (le_int) (ai)))))) (ai))) (ju rfl (aW 4 aY.nd (aW 7 aY.nd (gf)))) (ay (eQ (le_app (af 6) (aj (mL T) hr rfl (ae (aj (cR T) hr rfl (ae (af 0) (ae (aF (le_int) (af 4)) (ai)))) (ae (af 7) (ae (af 5) (ai))))))))) (ay (aI (aJ (ae (aF (le_int) (aj (av T) hr rfl (ae (af 1) (ae (le_int) (ai))))) (ae (a9 aZ bO rfl T.cH rfl (ae (af 5) (ai))) (ae (a9 aZ bO rfl T.cH rfl (ae (af 6) (ai))) (ai))))))))))))))
theorem l4:aE ["_law_plan_here"] ["_law_plan_here"] (au dP):=by walk_at "sc"
theorem bu (T:Txt w.params K mg t):aM P w K mg base 8 "_law_shares" ["_law_plan_here"] aP:=aH T.nQ T.mO l4 jY l6 (λ_ _ _ _ _ _ _ _=>by walk_at "b1") λ_ _ _ _ _ _ hr hu=>
 ay (aI (we (a9 (gZ rfl) mv rfl T.uz rfl (ae (bJ (fsc:=au dP) ["_law_plan_here"] ["_law_row"] 1 [] rfl rfl (bH (aj (Ax T) hr rfl (ae (af 0) (ai)))) (λcl C s₀ H₀ ex=>⟨bx 0 (show (["_law_row"]:List Str).Nodup from by decide +kernel),dz,tN (af 0) (sG) (mf (le_int))⟩) rfl rfl (by decide +kernel)) (ai)))))
theorem aL:aE ["_law_box_here", "_law_plan_here", "_law_ways", "_law_name", "_law_pace", "_law_room", "_law_mark", "_law_sort", "_law_senders", "_law_road", "_law_beat", "_law_begin", "_law_many", "_law_rule_here", "_law_top", "_law_rules"] ["_law_box_here", "_law_plan_here"] (au jS):=by walk_at "sc"
theorem rD (T:Txt w.params K mg t):aM P w K mg base 2 "_law_like" ["_law_box_here", "_law_plan_here"] cJ:=aH T.sf T.rO aL nF oV (λ_ _ _ _ _ _ _ _=>by walk_at "b2") λ_ _ _ _ _ _ hr hu=>
 ao (aD 2 aL.nd (fS (ai))) (ao (cA NA rfl (bH (ax (af 1) (le_int))) (ju rfl (aW 3 aL.nd (aW 4 aL.nd (aW 5 aL.nd (aW 6 aL.nd (aW 7 aL.nd (gf))))))) (ay (eQ (le_app (af 2) (aJ (ae (af 3) (ae (af 4) (ae (aF (le_int) (aj (av T) hr rfl (ae (af 0) (ae (le_int) (ai))))) (ae (ax (bW (ae (dJ) (ae (aj (av T) hr rfl (ae (af 0) (ae (le_int) (ai)))) (ai)))) (aj (av T) hr rfl (ae (af 0) (ae (le_int) (ai))))) (ae (le_str) (ai))))))))))) (ao (aD 8 aL.nd (fS (ai))) (ao (cA NA rfl (bH (ax (af 1) (le_int))) (ju rfl (aW 3 aL.nd (aW 9 aL.nd (aW 10 aL.nd (aW 11 aL.nd (aW 12 aL.nd (aW 13 aL.nd (gf)))))))) (ao (aD 14 aL.nd (aJ (ae (aj (qK T) hr rfl (ae (af 13) (ai))) (ae (le_int) (ai))))) (ao (aD 15 aL.nd (bW (ae (aJ (ae (le_str) (ae (af 14) (ai)))) (ae (aJ (ae (le_str) (ae (aJ (ae (le_int) (ae (le_int) (ai)))) (ae (aJ (ae (le_int) (ae (le_int) (ai)))) (ae (aJ (ae (le_int) (ae (le_int) (ai)))) (ae (af 14) (ai))))))) (ae (aJ (ae (le_str) (ae (af 14) (ae (aJ (ae (le_int) (ae (le_int) (ai)))) (ae (le_int) (ae (le_int) (ae (af 14) (ai)))))))) (ai)))))) (ay (eQ (le_app (af 8) (aJ (ae (af 3) (ae (af 9) (ae (af 10) (ae (aj (av T) hr rfl (ae (af 0) (ae (le_int) (ai)))) (ae (ax (bW (ae (dJ) (ae (le_int) (ai)))) (aj (av T) hr rfl (ae (af 0) (ae (le_int) (ai))))) (ae (ax (af 15) (aj (av T) hr rfl (ae (af 0) (ae (le_int) (ai))))) (ai)))))))))))))) (ay (aI (aJ (ae (aF (le_int) (aj (av T) hr rfl (ae (af 0) (ae (le_int) (ai))))) (ae (a9 aZ bO rfl T.cH rfl (ae (af 2) (ai))) (ae (a9 aZ bO rfl T.cH rfl (ae (af 8) (ai))) (ai))))))))))
theorem bN:aE ["_law_plan_here", "_law_known", "_law_k", "_law_sender_here", "_law_senders"] ["_law_plan_here"] (au dH):=by walk_at "sc"
theorem nP (T:Txt w.params K mg t):aM P w K mg base 1 "_law_turned" ["_law_plan_here"] cf:=aH T.nL T.nA bN j0 lg (λ_ _ _ _ _ _ _ _=>by walk_at "b1") λ_ _ _ _ _ _ hr hu=>
 ao (aD 1 bN.nd (AJ)) (ao (cA NA rfl (wC rfl T.jx (ae (ax (af 0) (le_int)) (ai))) (ju rfl (aW 2 bN.nd (aW 3 bN.nd (gf)))) (ay (wR hu (af 1) (ax (af 3) (le_int)) (aF (G5 (le_str) (af 2)) (le_str))))) (ao (mj (fsc:=au dH) 4 bN.nd ["_law_plan_here", "_law_known", "_law_k", "_law_sender_here", "_law_senders"] ["_law_sender_here", "_law_known"] 1 [1] rfl rfl (Ih rfl T.vD (ax (af 0) (le_int))) (λcl C s₀ H₀ ex=>⟨bx 0 (show (["_law_sender_here", "_law_known"]:List Str).Nodup from by decide +kernel),dz,aF (aJ (ae (iX hu (af 1) (ax (af 0) (le_int))) (ai))) (tN (af 0) (mf (le_int)) (sG))⟩) rfl rfl (by decide +kernel)) (ay (aI (aJ (ae (af 1) (ae (aJ (ae (ax (af 0) (le_int)) (ae (ax (af 0) (le_int)) (ae (a9 aZ bO rfl T.cH rfl (ae (af 4) (ai))) (ai))))) (ai))))))))
theorem mP:aE ["_law_plan_here"] ["_law_plan_here"] (au iY):=by walk_at "sc"
theorem qd (T:Txt w.params K mg t):aM P w K mg base 1 "_law_wider" ["_law_plan_here"] cv:=aH T.pX T.qf mP l7 mK (λ_ _ _ _ _ _ _ _=>by walk_at "b1") λ_ _ _ _ _ _ hr hu=>
 ay (aI (aJ (ae (ax (af 0) (le_int)) (ae (aF (aJ (ae (aJ (ae (le_str) (ae (le_int) (ae (le_int) (ae (dJ) (ae (le_str) (ai))))))) (ai))) (tN (ax (af 0) (le_int)) (sG) (mf (le_int)))) (ae (ax (af 0) (le_int)) (ai))))))
theorem cq:aE ["_law_shares_here", "_law_found", "_law_one"] ["_law_shares_here"] (au iV):=by walk_at "sc"
theorem h9 (T:Txt w.params K mg t):aM P w K mg base 1 "_law_least" ["_law_shares_here"] bU:=aH T.qk T.qG cq kX nG (λ_ _ _ _ _ _ _ _=>by walk_at "b1") λ_ _ _ _ _ _ hr hu=>
 ao (aD 1 cq.nd (dJ)) (ao (cA NA rfl (G0 (af 0)) (e7 2 cq.nd) (ay (cD (LW.lt (FN (Lp (af 1) (dJ)) (Au (oI (le_mul (ax (af 2) (le_int)) (ax (af 1) (le_int))) (le_mul (ax (af 1) (le_int)) (ax (af 2) (le_int))))))) (ay (aD 1 cq.nd (af 2))) (bB)))) (ay (aI (af 1))))
theorem ft:aE ["_law_one", "_law_other", "_law_low_here", "_law_high"] ["_law_one", "_law_other"] (au fI):=by walk_at "sc"
theorem fX (T:Txt w.params K mg t):aM P w K mg base 2 "_law_no_less" ["_law_one", "_law_other"] bD:=aH T.l8 T.lC ft je j9 (λ_ _ _ _ _ _ _ _=>by walk_at "b2") λ_ _ _ _ _ _ hr hu=>
 ao (uS 2 3 rfl ft.nd (ae (aj (h9 T) hr rfl (ae (af 1) (ai))) (ae (aj (h9 T) hr rfl (ae (af 0) (ai))) (ai)))) (ay (aI (FQ (Fi (af 2) (dJ)) (FQ (Fi (af 3) (dJ)) (Gz (Lg (le_mul (ax (af 2) (le_int)) (ax (af 3) (le_int))) (le_mul (ax (af 3) (le_int)) (ax (af 2) (le_int)))))))))
theorem fL:aE ["_law_script", "_law_plan_here", "_law_shares_here", "_law_known", "_law_turned_here", "_law_sender_here", "_law_fewer", "_law_more_here"] ["_law_script"] (au wZ):=by walk_at "sc"
theorem xm (T:Txt w.params K mg t):gX P w K mg base CX0 9 t.zu t.FD ["_law_script"] (lift K dW):=by
 refine Fq (T:=Aw) T.xm fL qL (λcdv A outer s H E hr=>?_) Il
 have hu:=hr.units
 exact ao (aD 1 fL.nd (aj (qP T) hr rfl (ae (af 0) (ai)))) (ao (aD 2 fL.nd (aj (bu T) hr rfl (ae (af 1) (ai)))) (ao (cD (uD hu (aj (bu T) hr rfl (ae (aj (rD T) hr rfl (ae (aj (cR T) hr rfl (ae (af 0) (ae (le_int) (ai)))) (ae (af 1) (ai)))) (ai))) (af 2)) (ay (aI (oN))) (bB)) (ao (cD (LW.lt (AN (oI (bf bY dq rfl T.iB rfl (ae (ax (af 1) (le_int)) (ai))) (le_int)) (wO (uD hu (aj (bu T) hr rfl (ae (aj (qd T) hr rfl (ae (af 1) (ai))) (ai))) (af 2))))) (ay (aI (oN))) (bB)) (ao (Js (aj (nP T) hr rfl (ae (af 1) (ai))) (ju rfl (aW 3 fL.nd (aW 4 fL.nd (gf))))) (ao (cD (uD hu (aj (bu T) hr rfl (ae (af 4) (ai))) (we (a9 (gZ rfl) mv rfl T.uz rfl (ae (bJ (fsc:=au wZ) ["_law_script", "_law_plan_here", "_law_shares_here", "_law_known", "_law_turned_here", "_law_sender_here", "_law_fewer", "_law_more_here"] ["_law_name", "_law_share", "_law_known"] 2 [3] rfl rfl (Ii (af 2)) (λcl C s₀ H₀ ex=>⟨wx rfl (gs 0 (show (["_law_name", "_law_share", "_law_known"]:List Str).Nodup from by decide +kernel) (gs 1 (show (["_law_name", "_law_share", "_law_known"]:List Str).Nodup from by decide +kernel) (sW))),dz,aJ (ae (iX hu (af 2) (af 0)) (ae (af 1) (ai)))⟩) rfl rfl (by decide +kernel)) (ai))))) (ay (aI (oN))) (bB)) (ao (cD (lt_eq hu (ax (af 1) (le_int)) (aJ (ai))) (ay (aI (le_eq hu (aj (Ax T) hr rfl (ae (af 1) (ai))) (aJ (ai))))) (bB)) (ao (aD 5 fL.nd (ax (ax (af 1) (le_int)) (aj (av T) hr rfl (ae (aj (cR T) hr rfl (ae (af 0) (ae (le_int) (ai)))) (ae (bf bY dq rfl T.iB rfl (ae (ax (af 1) (le_int)) (ai))) (ai)))))) (ao (aD 6 fL.nd (aJ (ae (ax (af 1) (le_int)) (ae (ax (af 1) (le_int)) (ae (a9 aZ bO rfl T.cH rfl (ae (bJ (fsc:=au wZ) ["_law_script", "_law_plan_here", "_law_shares_here", "_law_known", "_law_turned_here", "_law_sender_here", "_law_fewer", "_law_more_here"] ["_law_other", "_law_sender_here"] 1 [5] rfl rfl (bH (ax (af 1) (le_int))) (λcl C s₀ H₀ ex=>⟨bx 0 (show (["_law_other", "_law_sender_here"]:List Str).Nodup from by decide +kernel),eR (KO hu (af 0) (af 1)),af 0⟩) rfl rfl (by decide +kernel)) (ai))) (ai)))))) (ao (cD (uX (lU (aj (fX T) hr rfl (ae (aj (bu T) hr rfl (ae (af 6) (ai))) (ae (af 2) (ai)))))) (ay (aI (oN))) (bB)) (ao (cD (oI (bf bY dq rfl T.iB rfl (ae (ax (af 1) (le_int)) (ai))) (le_int)) (ao (aD 7 fL.nd (aJ (ae (ax (af 1) (le_int)) (ae (ax (af 1) (le_int)) (ae (aF (ax (af 1) (le_int)) (aJ (ae (aF (aJ (ae (le_str) (ai))) (tN (af 5) (mf (le_int)) (sG))) (ai)))) (ai)))))) (ay (cD (uX (lU (aj (fX T) hr rfl (ae (af 2) (ae (aj (bu T) hr rfl (ae (af 7) (ai))) (ai)))))) (ay (aI (oN))) (bB)))) (bB)) (ay (aI (F6 hu (aj (bu T) hr rfl (ae (af 1) (ai))) (af 2))))))))))))))
end
theorem all_mk {l:RX}{w:Nw}{K:ML}{mg:Str->Option MN}{fa:Addr}{t:Adr}(hfa:mg "law" = some (.ref fa))(T:Txt w.params K mg t):∃ fd:Nd,(∀ (s:MQ) (v:MN),Tw s fd ⟨[v],[]⟩ [("_law_script", v)])/\∀ base:Heap,K.In base->base.Ns N4 mg->gX l.prog w K mg base CX0 9 fa fd ["_law_script"] (lift K dW):=by
 have e:=hfa.symm.trans T.JT
 injection e with e
 injection e with e
 subst e
 obtain ⟨oc,od,kV,dc,pm,an,cd,ct,sl,ed,_,_⟩:=T.xm.ex
 exact ⟨_,λs v=>.of_eq (by rw[ed];rfl),λbase _ _=>xm T⟩
end Kk
namespace PySem.W.Fast
def tw3117505246055532115:=0
def tw13500182017454516576:=0
def tw3427562022254509728:=0
def tw9570459369617540449:=0
def tw17032466900386739553:=0
def tw2835320234576082721:=0
def tw2574986160535518049:=0
def tw1925128370873680226:=0
def tw4997719871546939842:=0
def tw15657821605323333122:=0
def tw4509785898425902978:=0
def tw8139142859560388707:=0
def tw6235209533007797475:=0
def tw2651521042327457059:=0
def tw7244452379982189379:=0
def tw17836239886279738116:=0
def tw1151135235837548324:=0
def tw238314893224816741:=0
def tw12939068578312317061:=0
def tw17611168188593868997:=0
def tw8009630132822072805:=0
def tw7025726280101208934:=0
def tw2851348327727292262:=0
def tw7590654644587055271:=0
def tw7979519852284426567:=0
def tw12533552375011586695:=0
def tw4994696974070915751:=0
def tw3468296647960680231:=0
def tw16895138699414349799:=0
def tw17682704914347337832:=0
def tw9723421248216917160:=0
def tw5797736481620448456:=0
def tw4415262172586789192:=0
def tw8920519017042525704:=0
def tw15373953772865190568:=0
def tw5715725630525775688:=0
def tw5183177525285136200:=0
def tw6539392781686696297:=0
def tw13377833877424014281:=0
def tw5841992339364245706:=0
def tw8945986608695929098:=0
def tw17168261023549229578:=0
def tw8808938250332027786:=0
def tw10944703711760743819:=0
def tw16539613975695575691:=0
def tw3341736902701776875:=0
def tw14336832277586220620:=0
def tw16917173005654707884:=0
def tw15044759334071246764:=0
def tw4065548572080479405:=0
def tw1799708205108627085:=0
def tw6712661030407592622:=0
def tw4824341631780482798:=0
def tw15557313702713908559:=0
def tw12174285952813844911:=0
def tw12314708861806747119:=0
def tw1923618280880583183:=0
def tw17421932814692389744:=0
def tw8370304875535112209:=0
def tw16266262929404639281:=0
def tw14618629366827318449:=0
def tw11036963168177869842:=0
def tw16309397085746962866:=0
def tw14580865540429918674:=0
def tw2406408466440582866:=0
def tw17976891617033609970:=0
def tw5537668545233250066:=0
def tw11406480310018709330:=0
def tw5326642431799748691:=0
def tw13361082400875655507:=0
def tw14357585237126890195:=0
def tw4841957397207672980:=0
def tw8882082790286971156:=0
def tw16801868451488574132:=0
def tw7112405389397479605:=0
def tw13800510588834947669:=0
def tw11237290896926244918:=0
def tw7205011006602980406:=0
def tw1649058077724126518:=0
def tw16006104584042949078:=0
def tw4181369928203024854:=0
def tw11049219230614986871:=0
def tw1681346563211353911:=0
def tw7895300298173411992:=0
def tw1751406026027712408:=0
def tw2332685330502887449:=0
def tw10518389100232969242:=0
def tw3508523502498489786:=0
def tw5826493350205129370:=0
def tw14785665473770480763:=0
def tw4719689508719025436:=0
def tw17329368171149521180:=0
def tw18295496783093212572:=0
def tw7684138550048261628:=0
def tw597881780730488316:=0
def tw1014798528286068284:=0
def tw3123967074288060220:=0
def tw618349627228222813:=0
def tw7572434872694453438:=0
def tw3325087728160746142:=0
def tw640462418996190910:=0
def tw3604599705234608479:=0
def tw4119952855191205727:=0
end PySem.W.Fast
open PySem PySem.W PyProof.Rows L2 L3
set_option maxRecDepth 100000 in
set_option maxHeartbeats 0 in
theorem PySem.Challenge.cw_swellways_k59_what_even_hangs_on_holds : PySem.Challenge.rw_swellways_k59_what_even_hangs_on.Holds := by
 w_on;o_law;k_head;(case hw=>w_witness2)
 k_fill
 refine L3.K6 (l:=PySem.Challenge.rw_swellways_k59_what_even_hangs_on) (k:=9) (sp:=Kk.dW) (x := "_law_script") rfl rfl ⟨rfl,by decide,by decide⟩ (λw h Y=>PySem.W.kIn_of Y) Kk.jr ?F
 case F=>
  intro w mg fa h KX G hmg
  refine' Kk.all_mk (t:=⟨_,_,_,_,_,_,_,_,_,_,_,_,_,_,_,_,_,_,_,_,_,_,_,_,_,_,_,_,_,_,_,_,_,_,_,_,_,_,_,_,_,_,_,_,_,_,_,_,_,_,_,_,_,_,_,_,_,_,_,_,_,_,_,_,_,_,_,_,_,_,_,_,_,_⟩) hmg ⟨Oe KX G ?_,aN ?_ ?_ ?_,Oe KX G ?_,aN ?_ ?_ ?_,Oe KX G ?_,aN ?_ ?_ ?_,Oe KX G ?_,aN ?_ ?_ ?_,Oe KX G ?_,aN ?_ ?_ ?_,Oe KX G ?_,aN ?_ ?_ ?_,Oe KX G ?_,aN ?_ ?_ ?_,Oe KX G ?_,aN ?_ ?_ ?_,Oe KX G ?_,aN ?_ ?_ ?_,Oe KX G ?_,aN ?_ ?_ ?_,Oe KX G ?_,aN ?_ ?_ ?_,Oe KX G ?_,aN ?_ ?_ ?_,Oe KX G ?_,aN ?_ ?_ ?_,Oe KX G ?_,aN ?_ ?_ ?_,Oe KX G ?_,aN ?_ ?_ ?_,Oe KX G ?_,aN ?_ ?_ ?_,Oe KX G ?_,aN ?_ ?_ ?_,Oe KX G ?_,aN ?_ ?_ ?_,Oe KX G ?_,aN ?_ ?_ ?_,Oe KX G ?_,aN ?_ ?_ ?_,Oe KX G ?_,aN ?_ ?_ ?_,Oe KX G ?_,aN ?_ ?_ ?_,Oe KX G ?_,aN ?_ ?_ ?_,Oe KX G ?_,aN ?_ ?_ ?_,Oe KX G ?_,aN ?_ ?_ ?_,Oe KX G ?_,aN ?_ ?_ ?_,Oe KX G ?_,aN ?_ ?_ ?_,Oe KX G ?_,aN ?_ ?_ ?_,Oe KX G ?_,aN ?_ ?_ ?_,Oe KX G ?_,aN ?_ ?_ ?_,Oe KX G ?_,aN ?_ ?_ ?_,Oe KX G ?_,aN ?_ ?_ ?_,Oe KX G ?_,aN ?_ ?_ ?_,Oe KX G ?_,aN ?_ ?_ ?_,Oe KX G ?_,aN ?_ ?_ ?_,Oe KX G ?_,aN ?_ ?_ ?_,Oe KX G ?_,aN ?_ ?_ ?_,OP KX G ?_,OP KX G ?_,OP KX G ?_,OP KX G ?_,OP KX G ?_,OP KX G ?_,OP KX G ?_,OP KX G ?_,OP KX G ?_,OP KX G ?_,OP KX G ?_,fH KX G ?_,fH KX G ?_,GU (its:=#[.int 0 _,.int 1 _]) (xs:=[V.int 0,V.int 1]) KX G ?_ ?_ ?_ ?_ ?_ (show 2<=sizeLine by decide) (.cons ⟨_,rfl⟩ (.cons ⟨_,rfl⟩ (.nil))) (λ_=>.cons (.int _) (.cons (.int _) (.nil))),fH KX G ?_,fH KX G ?_,fH KX G ?_,fH KX G ?_,fH KX G ?_,fH KX G ?_⟩
  all_goals try first | k_is | rfl
