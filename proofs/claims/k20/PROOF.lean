import PyProof.Rows.All
import Wide.All
import OpenK.AllK
import Wide.FinOn
import Lean
import PyProof.EqAt
import PyProof.EqKinds
import PyProof.TupleCall
import PyProof.P3Eq
import PyProof.NeKinds
import PyProof.NeData
import PyProof.ZipIter
import PyProof.EnumMake
import PyProof.EnumFor
import OpenK.KTop
import PyProof.IsRules
import PyProof.AttrMissHeap
import PyProof.DictUpdate
import KE.KDictOf
import PyProof.Rows.SortStr
import PyProof.FString5
import PyProof.StrOps
import PyProof.ListRange
import PyProof.TupleOfGen
import PyProof.Rows.SumAny
import PyProof.Rows.CallKwBuiltin
import PyProof.StrLoop
import PyProof.StrWalks
import PyProof.StrOps2
import PyProof.SliceStr2
import PyProof.StrBlockI
import PyProof.StrLaws
import PyProof.StrBlock
import PyProof.StrBlockL
import PyProof.StrCalls2
import KE.KStrOpen
import KE.KDictList
import PyProof.DictValues
import PyProof.DictTruth
import PyProof.DictIter
import PyProof.DictWalks
import PyProof.SetKind
import PyProof.SetNew
import PyProof.Rows.SetFrom
import PyProof.MeetsDict
import PyProof.Rows.FStr
import PyProof.Rows.StrJoin2
import PyProof.CallStr
import PyProof.Rows.StrJoinMade
import PyProof.Rows.ReprOcc
import KE.KRevIter
import PySem.Challenge.RW_swellways_k20_what_a_plan_has
set_option Elab.async false
set_option linter.all false
set_option maxRecDepth 100000
set_option maxHeartbeats 4000000
def zzS (t:String):Lean.MacroM (Lean.TSyntax `tactic):=do
 let a←(t.splitOn " ").toArray.mapM fun s=>if s.startsWith "↓" then `(Lean.Parser.Tactic.simpLemma| ↓ $(Lean.mkIdent (s.drop 1).toString.toName):term) else `(Lean.Parser.Tactic.simpLemma| $(Lean.mkIdent s.toName):term)
 `(tactic| try simp only [$a,*])
open PySem.Str renaming ofString → Nr, join → RW, empty → Uw
open PySem.W renaming Frag → Nt, mg_of → O2, kia_one → O7, mg_none_of → Pa, fnOf → P4, keepIn → Qt, KeysLit → Q2, methodObj → Rw, mg_of → RI, cellsFrom_some → R6, nsIn → Sf, OpenLaw → Sl, codeIn → SH, kitx_list → T9, plainGet → Uv, mapOf_K → UN, kitOne → Vb, WalkO → Vo
open PySem renaming Value → Nu, Shared → Nv, starEach → Nx, wpAny → NL, Program → NO, model → NS, FuncData → NU, Expr → NX, Around → NY, World → N0, bootBuiltins → N4, backTo → N8, mainGlobals → Oq, compareOp → Ou, wpAny_newObj_type → OA, wpAny_callSpecial?_slot → OB, wpAny_call_entry → OE, eval → OF, mem_of_lookup → OG, wpAny_truthy_bool → OI, foldedSetIterable → OJ, wpAny_Call_Name_kw → OL, wpAny_mono → OQ, SetTable → OT, wpAny_setState_of → OU, wpAny_setEntries_of → Pb, behindInMarks → Pd, DictEntry → Pf, assignEach → Ph, wpAny_setField → Pk, wpAny_passesOwn → Po, wpAny_ite_false → Pp, binaryOp → Pq, codeAny → Pt, plainId_quiet → Pz, wpAny_isInstance → PK, wpAny_of_eq → PN, builtinLookup_eq_fast → PX, Builtin → P5, rawInt → P9, sliceBounds → Qk, pickOrder → Qo, pyNext → Qs, wpAny_fieldsOf → Qy, sysModules → QF, swapsWithSole → QL, swappedStores → QM, Keyword → QN, attributeBase → QO, wpAny_attempt → QR, NameKind → QS, wpAny_execs_nil → QX, letOwnedTupleGo → QY, wpAny_specialOf → Q3, typeLookup_type → Q4, wpAny_ite_split → Q5, codeAny_mono → Ra, swapsWith → Rg, call → Ro, holding → Ry, sizeLine_eq → Rz, keywordEach → RA, wpAny_pyIter_list → RB, assign → RD, wpAny_standAt → RE, intBits_le_64 → RF, noFill_tuple_add → RM, relayAll → RS, Paired → R0, wpAny_pyNext_list_item → R5, concat_meets → R7, wpAny_Call_method_late → R9, callerA → Se, wpAny_pyNext_list_end → Sw, hashByValue → SO, wpAny_runValue → SQ, isSubtype_type → SS, codeAny_extend_loopS → SU, spliced → S2, lastMarks → S3, getItem → S4, KeyKind → S5, setNext → S6, assignInOrder → Tj, seq_tuple_add → Tn, wpAny_call → TM, findBy → TU, CmpOp → TY, BindsTo → TZ, wpAny_sequenceKey → T3, seqIndex_neg → T4, slot_list_getitem → T5, backToKw → T6, valueAt → T7, entryFor → Ud, wpAny_storeSet_of → Ug, fits_of_scanBound → Uh, wpAny_pyIter_slot → Uk, wpAny_setEpoch_of → Ul, wpAny_execs_cons → Us, PassesOwn → Ut, pyIter → Uu, Result → Ux, wpAny_field → UE, seqIndex_of → UG, ItemsOf → UX, collect → UY, builtinsNs → UZ, Model → U0, wpAny_Name → U1, bindName → U2, wpAny_load → U3, bindL → U4, bindC → U5, typeLookup → U6, typeIs_str → U7, Params → U8, ItemsAre → U9, compEnvC → Vc, compPost → Vd, wants → Vj
open PySem.Heap renaming get?_push_of_some → Nw, lt_size → NG, get?_push_size → NH, get?_update_other → Og, get?_update_self → Oj, SameBut → PR, ExtBut → VL
open False renaming elim → Ny
open Bool renaming and_eq_true → Nz, false_and → NM, true_and → NW, and_false → Od, false_eq_true → PV, beq_eq_decide_eq → QC, false_ne_true → Rj, and_true → RK, not_false → SK, or_false → Tp, not_true → Ts, and_self → TH, eq_iff_iff → UO, or_eq_true → UP, decide_and → UT
open Iff renaming rfl → NA
open List renaming mem_cons_self → NB, length_map → NC, length_cons → ND, mem_cons_of_mem → NF, size_toArray → NJ, mem_singleton → NK, length_append → NQ, mem_append_right → NR, mem_cons → NT, replicate → NZ, mem_append → N1, getElem?_eq_getElem → N2, mem_map → N5, map_cons → N7, all_eq_true → Oe, getElem?_map → Of, length_nil → Ol, getElem?_eq_some_iff → Ot, find?_cons → Ov, not_mem_nil → Oy, append_nil → OC, mem_of_mem_drop → ON, map_map → OR, findIdx_lt_length_of_exists → OX, length_replicate → OY, lookup_cons → O0, append_assoc → O4, nodup_append → O5, range → O6, map_append → O9, length_singleton → Pl, reverse_cons → Pu, mem_range → PD, length_take → PF, length_drop → PJ, length → PM, eq_nil_of_length_eq_zero → PQ, getElem?_eq_none → PY, getElem?_set_ne → P0, getElem?_append_right → P1, getElem?_append_left → P6, drop_eq_getElem_cons → P8, replicate_succ → Qa, length_reverse → Qb, nodup_cons → Qe, getElem?_cons_zero → Ql, getElem?_cons_succ → Qm, getElem?_set_self → Qq, length_range → Qz, ext_getElem? → QA, filterMap_append → QD, drop_length → QH, cons_append → QI, any_eq_true → QJ, getElem_mem → QK, any_cons → QP, mem_of_getElem? → QT, getLast?_eq_some_getLast → QV, mem_of_mem_take → QW, nil_append → QZ, dropLast_concat_getLast → Q6, filterMap_cons → Q7, length_pos_iff → Q8, all_map → Rf, getElem?_replicate → RL, length_eq_zero_iff → RX, map_nil → Sd, take_of_length_le → Sg, findIdx_eq_length → Sj, of_mem_zip → Sk, foldl_cons → Sv, getElem?_toArray → Sy, filterMap_eq_map → SE, take_append_drop → SF, mem_append_left → SG, mem_iff_getElem → SN, length_eraseIdx → SR, head?_replicate → SW, findIdx_append → Tg, mem_filterMap → TL, pairwise_cons → TV, findIdx_cons → Up, filter_cons → Uz, mem_reverse → UD, append → UH, mem_filter → UI, forIn_cons → UL, all_append → UU, map → Vf, findIdx? → Vp, map_drop → Vu, set → VI, not_lt → VJ
open Nat renaming le_refl → NN, ne_of_lt → NP, lt_of_lt_of_le → NV, le_trans → OD, zero_le → OM, lt_irrefl → Px, ne_of_gt → Qr, lt_trans → Qw, succ_lt_succ_iff → QU, reduceAdd → RJ, reduceLeDiff → RQ, zero_lt_succ → RR, le_of_lt → R4, reduceLT → Sh, min_le_left → Sm, zero_lt_one → So, lt_add_one → SM, reduceSub → Tr, sub_self → Ua, succ_le_succ → UB, min_eq_right → UC, min_eq_left → UM, mul_le_mul → Vi, le_of_dvd → Vt, le_total → Vz, succ_mul → VB, mul_zero → VD, add_zero → VE
open PySem.Obj renaming data_mapFields → N3, isFreed_of_fields → OZ, mapFields → Pe, mapSeq → PU, cls_mapFields → PZ
open PySem.PyData renaming strOk → N6, eqv → Py, eqvAll → RH, canLayAll0 → T8, depthAll → UK, canLay0 → Va
open Array renaming getElem?_eq_getElem → N9, length_toList → Oa, getElem?_toList → Oz, getElem?_eq_none → OS, all_eq_true_iff_forall_mem → OW, getElem?_eq_none_iff → Rq, mem_iff_getElem → Sx, toArray_toList → SX, toList_append → S8, append_assoc → TK, toList → Vy
open Int renaming mul_le_mul_of_nonneg_right → Ob, gcd → Oh, toNat_natCast → Oo, eq_ofNat_of_zero_le → O3, gcd_pos_of_ne_zero_right → Q1, ediv_eq_of_eq_mul_right → Rb, dvd_gcd_mul_iff_dvd_mul → Rc, natCast_nonneg → Rp, fmod_eq_emod_of_nonneg → Rr, mul_neg_of_pos_of_neg → Rt, le_of_mul_le_mul_left → Rv, mul_left_comm → RC, le_ediv_iff_mul_le → Si, reduceToNat → Ss, natAbs_dvd_natAbs → SD, mul_nonneg → SV, reducePow → Tu, reduceNeg → Tv, reduceSub → Tx, reduceAdd → Tz, reduceMul → TF, natAbs_natCast → TQ, gcd_zero_right → TR, reduceEq → Ub, lt_trichotomy → Uc, mul_comm → Uo, mul_assoc → Vv, gcd_comm → VA, le_trans → VC
open Option.some renaming inj → Oc, injEq → Ue
open PyProof.Rows renaming slot_tuple_getitem → Oi, callWith_type1 → OO, callWith_builtin1 → PH, seqObj → Qh, StrsAre → Qx, kindOf → QG, assignInOrder_cons → Ri, envOfC → Rk, AllBare → Rx, intBits_le → RO, subscriptTail_builtinR → R8, entry_tuple_getitem → S7, args_tuple_getitem → TN, assignInOrder_nil → TX, IntsAre → UW, sortedHeap → Vh
open PySem.Value renaming isStrOf → Om, ref → OK, none → Pg, str → QE, bool → RY, type → RZ, int → S1, isInt → VG
open PySem.SetTable renaming fresh → Ow, below → OV, grown → PL, fits → Vr
open PySem.Builtin.Tuple renaming tupleExact → Ox, tupleItemsOf → Rn, tupleIsExact → Ve
open PySem.Heap.SameBut renaming update → OH, refl → VQ
open PySem.Builtin.List renaming listExtendWith → OP, listLengthHint → Pc, listSameRef → PB
open PySem.NameKind renaming free → O1, cell → Tq
open ForInStep renaming yield → O8
open PySem.Calls renaming spliced_cons → Pj, spliced_nil → Pr, Name_function_global → Rh, callWith_builtin → Sa, evalArgs_plain → SI
open PySem.Builtin.Slice renaming slicePlaces → Pn, sliceAdjust → P7, sliceApplied → Rm, slicePartIndex → UJ, sliceFields → Vm
open PySem.Around renaming under_plainId → Pw
open Ne renaming symm → PC
open Option renaming isSome_iff_exists → Qc, getD_none → Uy, none → VH
open PySem.F renaming args_tuple_add_2 → Qd, entry_tuple_add → Qj, slot_tuple_add → Qu, plain_list_iadd → QB, plain_extend_loop → Ru, plainAttrs_list → RP, entry_proto_collect → Sz, plain_proto_collect → SA, called_tuple → SY, entry_list_iadd → Um, plain_tuple_new → Ur, plain_set_new → UQ, slot_set_iter → US
open PySem.PassesOwn renaming never → Qf
open True renaming intro → Qg
open PySem.Builtin.Str renaming occurrences → Qi, tooLong → S9
open Classical renaming propDecidable → Qn
open Sum renaming inr → Qp, inl → S0
open Function renaming comp_apply → Q9
open Or renaming inr → RG, inl → SJ
open PyProof.Rows.F renaming plain_set_update_loop → RV
open List.cons renaming injEq → Su
open PySem.Shared renaming TypeIs → TJ
open PySem.pickOrder renaming go → Ui
open PySem.SetTable.below renaming go → Uj
open List.Sublist renaming refl → Uq
open PySem.Builtin.Frozenset renaming updateFrom → UR, isAnySet → Vk, sizeOf → Vq, slot0 → Vx
open PySem.SeqAt renaming EqAt → Vg
open PySem.Paired renaming length → Vn
open PySem.Moved renaming eq_with → Vs
open PySem.Builtin.Range renaming rangeSize → Vw
open PySem.setAddHashedIn renaming eq_def → VF
open PySem.ItemsOf renaming nil → VM
open PySem.Heap.IsSliceOf renaming new → VN
open PySem.W.WShape renaming has → VO
open List.Pairwise renaming nil → VP
namespace L2
open PySem PySem.Spec PyProof.Rows
abbrev Key:=Sum Int Str
def kX:Key->Nu->Bool
 | .inl k,v=>VG k v
 | .inr x,v=>Om x v
def MQ (w:N0):Key->Int
 | .inl k=>hashInt k
 | .inr x=>hashStr w x
theorem bD:∀ {k:Key} {v:Nu},kX k v=true->(∃ i t,k=S0 i/\v=S1 i t)∨(∃ x t,k=Qp x/\v=QE x t)
 | .inl i,v,h=>by
  obtain ⟨t,e⟩:=Value.isInt_shape (k:=i) (v:=v) h
  exact .inl ⟨i,t,rfl,e⟩
 | .inr x,v,h=>by
  obtain ⟨t,e⟩:=Value.isStrOf_shape (x:=x) (v:=v) h
  exact .inr ⟨x,t,rfl,e⟩
theorem zu (i:Int)(t:Tok):kX (.inl i) (.int i t)=true:=by simp[kX,VG]
theorem Ax (x:Str)(t:Tok):kX (.inr x) (.str x t)=true:=by simp[kX,Om]
theorem Kn (a b:Int):decide ((S0 a:Key)=S0 b)=(a == b):=by
 by_cases e:a=b
 ·subst e;simp
 ·have h:¬ (S0 a:Key)=S0 b:=λq=>e (Sum.inl.inj q)
  rw[decide_eq_false h]
  exact (beq_eq_false_iff_ne.mpr e).symm
theorem Js (a b:Str):decide ((Qp a:Key)=Qp b)=decide (a=b):=by
 by_cases e:a=b
 ·subst e;simp
 ·have h:¬ (Qp a:Key)=Qp b:=λq=>e (Sum.inr.inj q)
  rw[decide_eq_false h,decide_eq_false e]
theorem Ju (a:Int)(b:Str):decide ((S0 a:Key)=Qp b)=false:=decide_eq_false (λq=>nomatch q)
theorem IG (a:Str)(b:Int):decide ((Qp a:Key)=S0 b)=false:=decide_eq_false (λq=>nomatch q)
def dB (prog:NO)(w:N0):PySem.KeyKind prog w Key where
 is:=kX
 hash:=MQ w
 inj:=λv a b ha hb=>by
  rcases bD ha with ⟨i,t,rfl,rfl⟩ | ⟨x,t,rfl,rfl⟩
  ·rcases bD hb with ⟨j,u,rfl,e⟩ | ⟨y,u,rfl,e⟩
   ·injection e with e1 _;rw[e1]
   ·exact nomatch e
  ·rcases bD hb with ⟨j,u,rfl,e⟩ | ⟨y,u,rfl,e⟩
   ·exact nomatch e
   ·injection e with e1 _;rw[e1]
 byValue:=λk v h=>by
  rcases bD h with ⟨i,t,rfl,rfl⟩ | ⟨x,t,rfl,rfl⟩ <;> rfl
 pyHash:=λhv h=>by
  rcases bD hv with ⟨i,t,rfl,rfl⟩ | ⟨x,t,rfl,rfl⟩
  ·exact wpAny_pyHash_int h
  ·exact wpAny_pyHash_str h
 eqBool:=λhu hv h=>by
  rcases bD hu with ⟨i,t,rfl,rfl⟩ | ⟨x,t,rfl,rfl⟩
  ·rcases bD hv with ⟨j,u,rfl,rfl⟩ | ⟨y,u,rfl,rfl⟩
   ·rw[Kn] at h;exact wpAny_eqBool_int h
   ·rw[Ju] at h;exact SeqAt.EqAt.int_str i t y u _ _ _ _ h
  ·rcases bD hv with ⟨j,u,rfl,rfl⟩ | ⟨y,u,rfl,rfl⟩
   ·rw[IG] at h;exact SeqAt.EqAt.str_int x t j u _ _ _ _ h
   ·rw[Js] at h;exact wpAny_eqBool_str h
 «strs»:=λk x t v h=>by
  rcases bD h with ⟨i,u,rfl,e⟩ | ⟨y,u,rfl,e⟩
  ·exact nomatch e
  ·injection e with e1 _
   subst e1
   cases v<;>rfl
theorem uZ (prog:NO)(w:N0)(i:Int)(t:Tok):(dB prog w).is (.inl i) (.int i t)=true:=zu i t
theorem uc (prog:NO)(w:N0)(x:Str)(t:Tok):(dB prog w).is (.inr x) (.str x t)=true:=Ax x t
end L2
namespace L2
open PySem PySem.Spec PyProof.Rows
inductive V where
 | non | bl (b:Bool) | int (i:Int) | str (x:Str) | byt (b:Array UInt8) | flt (b:UInt64) | ref (a:Addr) | ty (n:String)
 deriving DecidableEq
def RelV:V->Nu->Prop
 | .non,u=>u=Pg
 | .bl b,u=>u=RY b
 | .int i,u=>∃ t,u=S1 i t
 | .str x,u=>∃ t,u=QE x t
 | .byt b,u=>∃ t,u=Value.bytes b t
 | .flt b,u=>∃ t,u=Value.float b t
 | .ref a,u=>u=OK a
 | .ty n,u=>u=RZ n
abbrev Vals:List V->List Nu->Prop:=R0 RelV
theorem Vals.length {xs:List V}{us:List Nu}(r:Vals xs us):xs.length=us.length:=Vn r
theorem Vals.get:∀ {xs:List V} {us:List Nu} {i:Nat} {x:V},Vals xs us->xs[i]? = some x->∃ u,us[i]? = some u/\RelV x u
 | _,_,_,_,.nil,e=>by simp at e
 | _,_,0,_,.cons r _,e=>by simp at e;subst e;exact ⟨_,rfl,r⟩
 | _,_,i+1,x,.cons _ t,e=>by
  obtain ⟨u,h1,h2⟩:=Vals.get (i:=i) (x:=x) t (by simpa using e)
  exact ⟨u,by simpa using h1,h2⟩
theorem Vals.set {x:V}{u:Nu}(r:RelV x u):∀ {xs:List V} {us:List Nu} (i:Nat),Vals xs us->Vals (xs.set i x) (us.set i u)
 | _,_,_,.nil=>.nil
 | _,_,0,.cons _ t=>.cons r t
 | _,_,i+1,.cons q t=>.cons q (Vals.set r i t)
theorem Vals.append:∀ {xs ys:List V} {us ws:List Nu},Vals xs us->Vals ys ws->Vals (xs++ys) (us++ws)
 | _,_,_,_,.nil,s=>s
 | _,_,_,_,.cons r t,s=>.cons r (Vals.append t s)
theorem Vals.take:∀ {xs:List V} {us:List Nu} (n:Nat),Vals xs us->Vals (xs.take n) (us.take n)
 | _,_,0,_=>.nil
 | _,_,_+1,.nil=>.nil
 | _,_,n+1,.cons r t=>.cons r (Vals.take n t)
theorem Vals.drop:∀ {xs:List V} {us:List Nu} (n:Nat),Vals xs us->Vals (xs.drop n) (us.drop n)
 | _,_,0,r=>r
 | _,_,_+1,.nil=>.nil
 | _,_,n+1,.cons _ t=>Vals.drop n t
def zE:Option V->Option Nu->Prop
 | some v,some u=>RelV v u
 | none,none=>True
 | _,_=>False
def KV {κ:Type}:List (κ×V)->List (κ×Nu)->Prop:=R0 λ(p:κ×V) (q:κ×Nu)=>p.1=q.1/\RelV p.2 q.2
def kV:Key->V
 | .inl i=>.int i
 | .inr x=>.str x
inductive HO where
  | lst (xs:List V)
  | tup (xs:List V)
  | dK (kvs:List (Key×V)) | dT (kvs:List (List Key×V))
  | set (S:Int->Bool) (n:Nat)
  | ins (C dx:Addr) (fs:List (Str×V))
  | own (x:Addr)
  | xd (fs:List (Str×V))
  | met (f x:Addr)
  | rng (lo hi:Int)
  | frz (o:Obj) (u:HO)
  | tbl (ps:Array Nu)
  | ext (φ:Heap->Prop)
abbrev Hp:=Addr->Option HO
def upd (H:Hp)(a:Addr)(o:HO):Hp:=λb=>if b=a then some o else H b
theorem aP {H:Hp}{a:Addr}{o:HO}:upd H a o a=some o:=by unfold upd;rw[if_pos rfl]
theorem aS {H:Hp}{a b:Addr}{o:HO}(h:b≠a):upd H a o b=H b:=by unfold upd;rw[if_neg h]
theorem qN {H:Hp}{a:Addr}{o u:HO}:upd (upd H a o) a u=upd H a u:=by
 funext b;unfold upd;split<;>rfl
theorem dj {H:Hp}{a b:Addr}{o:HO}(h:H a=some o)(h':H b=none):a≠b:=by
 intro e;subst e;rw[h] at h';cases h'
def qS (h:Heap)(a:Addr)(items:Array Nu):Prop:=∃ n,h.get? a=some { cls:=.type "tuple", data:=.seq items n }
theorem qS.tup {h:Heap}{a:Addr}{items:Array Nu}(p:qS h a items):IsTup h a items:=by obtain ⟨n,e⟩:=p;exact ⟨_,e,rfl,n,rfl⟩
theorem qS.new (h:Heap)(items:Array Nu):qS (h.push { cls:=.type "tuple", data:=.seq items }) h.objs.size items:=⟨_,NH _ rfl⟩
section
variable (P:NO) (w:N0)
def dW (H:Hp)(h:Heap)(a:Addr):HO->Prop
 | .lst xs=>xs.length<=sizeLine/\∃ (its:List Nu) (n:Nat),Vals xs its/\h.get? a=some { cls:=.type "list", data:=.seq its.toArray n }
 | .tup xs=>xs.length<=sizeLine/\∃ its:List Nu,Vals xs its/\qS h a its.toArray
 | .dK kvs=>kvs.length<=sizeLine/\(a == QF)=false/\∃ vs,KV kvs vs/\h.DictOf (dB P w) a vs
 | .dT kvs=>kvs.length<=sizeLine/\(a == QF)=false/\∃ xs:List (List Key×Addr×Nu),
   R0 (λ(p:List Key×V) (q:List Key×Addr×Nu)=>p.1=q.1/\H q.2.1=some (.tup (p.1.map kV))/\RelV p.2 q.2.2) kvs xs/\
   ∃ o es ep,h.get? a=some o/\o.ExactDict/\o.data=.dict es ep/\es.toList=xs.map (entryOfKey (tupleKind (dB P w)))/\(xs.map (·.1)).Nodup
 | .set S n=>h.SetOf (intKind P w) a S n
 | .ins C dx fs=>H dx=some (.own a)/\fs.length<=1000/\dx≠a/\h.get? a=some (PySem.W.instObj C dx)/\
   ∃ mA,h.Ns1 dx mA/\(∀ f,zE (fs.lookup f) (mA f))/\PySem.Within mA (fs.map (·.1))
 | .own _=>∃ o,h.get? a=some o
 | .xd fs=>∃ mA,h.Ns1 a mA/\∀ f,zE (fs.lookup f) (mA f)
 | .rng lo hi=>∃ t u v,h.get? a=some { cls:=.type "range", data:=.fields #[.int lo t,.int hi u,.int 1 v] }
 | .frz o u=>h.get? a=some o/\dW H h a u
 | .tbl ps=>h.get? a=some { cls:=.none,data:=.fields ps }
 | .met f x=>h.get? a=some (Rw (.ref f) (.ref x))
 | .ext φ=>φ h/\(∃ o,h.get? a=some o)/\∀ h1 h2:Heap,φ h1->(∀ o,h1.get? a=some o->h2.get? a=some o)->φ h2
def HOk (H:Hp)(h:Heap):Prop:=∀ a o,H a=some o->dW P w H h a o
end
section
variable {P:NO} {w:N0} {H H':Hp} {h h':Heap} {a:Addr} {o:HO}
theorem dW.lt (x:dW P w H h a o):a < h.objs.size:=by
 cases o with
 | lst xs=>obtain ⟨_,_,_,_,e⟩:=x;exact NG e
 | tup xs=>obtain ⟨_,_,_,p⟩:=x;exact p.tup.lt
 | dK kvs=>obtain ⟨_,_,_,_,o,_,_,e,_⟩:=x;exact NG e
 | dT kvs=>obtain ⟨_,_,_,_,o,_,_,e,_⟩:=x;exact NG e
 | set S n=>obtain ⟨o,_,_,_,e,_⟩:=x;exact NG e
 | ins C dx fs=>obtain ⟨_,_,_,e,_⟩:=x;exact NG e
 | own y=>obtain ⟨_,e⟩:=x;exact NG e
 | xd fs=>obtain ⟨_,⟨_,_,_,e,_⟩,_⟩:=x;exact NG e
 | rng lo hi=>obtain ⟨_,_,_,e⟩:=x;exact NG e
 | frz ob u=>obtain ⟨e,_⟩:=x;exact NG e
 | tbl ps=>exact NG (show h.get? a=some _ from x)
 | met f y=>exact NG (show h.get? a=some _ from x)
 | ext φ=>obtain ⟨_,⟨_,e⟩,_⟩:=x;exact NG e
theorem R0.Kp {α β:Type}{F G:α->β->Prop}:∀ {l₁:List α} {l₂:List β},R0 F l₁ l₂->(∀ a b,F a b->G a b)->R0 G l₁ l₂
 | _,_,.nil,_=>.nil
 | _,_,.cons r t,f=>.cons (f _ _ r) (R0.Kp t f)
theorem dW.qV (x:dW P w H h a o)(k:∀ b u,(b=a∨H b=some (.own a))->h.get? b=some u->h'.get? b=some u)
  (ho:∀ b,H b=some (.own a)->H' b=some (.own a)) (ht:∀ b xs,H b=some (.tup xs)->H' b=some (.tup xs)):dW P w H' h' a o:=by
 induction o with
 | lst xs=>obtain ⟨z,its,n,r,e⟩:=x;exact ⟨z,its,n,r,k _ _ (.inl rfl) e⟩
 | tup xs=>obtain ⟨z,its,r,m,e⟩:=x;exact ⟨z,its,r,m,k _ _ (.inl rfl) e⟩
 | dK kvs=>obtain ⟨z,y,vs,r,ob,es,ep,e,c⟩:=x;exact ⟨z,y,vs,r,ob,es,ep,k _ _ (.inl rfl) e,c⟩
 | dT kvs=>
  obtain ⟨z,y,xs,r,ob,es,ep,e,c⟩:=x
  exact ⟨z,y,xs,R0.Kp r λp q z=>⟨z.1,ht _ _ z.2.1,z.2.2⟩,ob,es,ep,k _ _ (.inl rfl) e,c⟩
 | set S n=>obtain ⟨ob,es,ep,t,e,c⟩:=x;exact ⟨ob,es,ep,t,k _ _ (.inl rfl) e,c⟩
 | ins C dx fs=>
  obtain ⟨d,z,ne,e,mA,⟨od,es,ep,e2,c⟩,r⟩:=x
  exact ⟨ho _ d,z,ne,k _ _ (.inl rfl) e,mA,⟨od,es,ep,k _ _ (.inr d) e2,c⟩,r⟩
 | own y=>obtain ⟨ob,e⟩:=x;exact ⟨ob,k _ _ (.inl rfl) e⟩
 | xd fs=>obtain ⟨mA,⟨od,es,ep,e,c⟩,r⟩:=x;exact ⟨mA,⟨od,es,ep,k _ _ (.inl rfl) e,c⟩,r⟩
 | rng lo hi=>obtain ⟨t,u,v,e⟩:=x;exact ⟨t,u,v,k _ _ (.inl rfl) e⟩
 | frz ob u ih=>obtain ⟨e,q⟩:=x;exact ⟨k _ _ (.inl rfl) e,ih q⟩
 | tbl ps=>
  have e:h.get? a=some { cls:=.none,data:=.fields ps }:=x
  show h'.get? a=some { cls:=.none,data:=.fields ps }
  exact k a _ (.inl rfl) e
 | met f y=>
  have e:h.get? a=some (Rw (.ref f) (.ref y)):=x
  show h'.get? a=some (Rw (.ref f) (.ref y))
  exact k a _ (.inl rfl) e
 | ext φ=>obtain ⟨p,⟨o,e⟩,st⟩:=x;exact ⟨st _ _ p λo q=>k _ _ (.inl rfl) q,⟨o,k _ _ (.inl rfl) e⟩,st⟩
theorem HOk.lt (x:HOk P w H h)(e:H a=some o):a < h.objs.size:=(x a o e).lt
theorem HOk.fresh (x:HOk P w H h)(e:h.objs.size<=a):H a=none:=by
 cases q:H a with
 | none=>rfl
 | some u=>exact absurd (NV (x.lt q) e) (Px _)
theorem HOk.kept (x:HOk P w H h)(k:∀ b u,h.get? b=some u->h'.get? b=some u):HOk P w H h':=λa o e=>
 (x a o e).qV (λb u _ q=>k b u q) (λ_ q=>q) λ_ _ q=>q
theorem HOk.laid (x:HOk P w H h)(k:∀ b u,h.get? b=some u->h'.get? b=some u)(hp:h.objs.size<=a)(new:dW P w (upd H a o) h' a o):HOk P w (upd H a o) h':=λb u e=>by
 have hn:=x.fresh hp
 by_cases hb:b=a
 ·subst hb;rw[aP] at e;cases e;exact new
 ·rw[aS hb] at e
  exact (x b u e).qV (λc v _ q=>k c v q) (λc q=>by rw[aS (dj q hn)];exact q) λc xs q=>by rw[aS (dj q hn)];exact q
end
def Rd (H:Hp)(a:Addr)(u:HO):Prop:=H a=some u∨∃ o,H a=some (.frz o u)
theorem Rd.of {H:Hp}{a:Addr}{u:HO}(h:H a=some u):Rd H a u:=.inl h
theorem Rd.ok {P:NO}{w:N0}{H:Hp}{h:Heap}{a:Addr}{u:HO}(r:Rd H a u)(x:HOk P w H h):dW P w H h a u:=by
 rcases r with r | ⟨o,r⟩
 ·exact x a u r
 ·obtain ⟨_,q⟩:=x a _ r
  exact q
def Mut:Option HO->Prop
 | some (.lst _)=>True
 | some (.dK _)=>True
 | some (.dT _)=>True
 | some (.set _ _)=>True
 | some (.ins _ _ _)=>True
 | some (.ext _)=>True
 | _=>False
section
variable {P:NO} {w:N0} {H:Hp} {h h':Heap} {x e:Addr} {o':HO}
theorem HOk.write (ok:HOk P w H h)(mu:Mut (H x))(he:e=x∨H e=some (.own x))(k:∀ b u,b≠e->h.get? b=some u->h'.get? b=some u)(heo:∃ u,h'.get? e=some u)
  (new:dW P w (upd H x o') h' x o'):HOk P w (upd H x o') h':=λb u q=>by
 have Mc:∀ c y,H c=some (.own y)->c≠x:=λc y r z=>by subst z;rw[r] at mu;exact mu
 have M5:∀ c xs,H c=some (.tup xs)->c≠x:=λc xs r z=>by subst z;rw[r] at mu;exact mu
 by_cases hb:b=x
 ·subst hb;rw[aP] at q;cases q;exact new
 ·rw[aS hb] at q
  by_cases hbe:b=e
  ·have q':H b=some (.own x):=by
    rcases he with z | z
    ·exact absurd (hbe.trans z) hb
    ·rw[hbe];exact z
   rw[q] at q';cases q'
   obtain ⟨v,hv⟩:=heo
   exact ⟨v,by rw[hbe];exact hv⟩
  ·refine (ok b u q).qV (λc v hc r=>k c v ?_ r) (λc r=>by rw[aS (Mc c b r)];exact r) λc xs r=>by rw[aS (M5 c xs r)];exact r
   rcases hc with rfl | hc
   ·exact hbe
   ·rintro rfl
    rcases he with z | z
    ·exact Mc c b hc z
    ·rw[hc] at z;cases z;exact hb rfl
end
structure Un (fs ex:List Addr) (H H':Hp) (h h':Heap):Prop where
 keep:∀ b o,h.get? b=some o->H b=none->b ∉ fs->b ∉ ex->h'.get? b=some o
 slot:∀ b o,h.get? b=some o->H b=none->b∈fs->b ∉ ex->∃ sl,h'.get? b=some { o with slots:=sl }
 free:∀ b o,h.get? b=some o->H b=none->b ∉ ex->H' b=none
 there:∀ b o,h.get? b=some o->b ∉ ex->∃ o',h'.get? b=some o'
 lV:∀ b xs,H b=some (.tup xs)->H' b=some (.tup xs)
 kr:∀ b o u,H b=some (.frz o u)->H' b=some (.frz o u)
 lX:∀ b ps,H b=some (.tbl ps)->∃ more,H' b=some (.tbl (ps++more))
section
variable {fs fs' ex ex':List Addr} {H H1 H2:Hp} {h h1 h2 h':Heap} {a x e:Addr} {o:HO}
theorem Un.any (u:Un fs ex H H1 h h1){b:Addr}{ob:Obj}(q:h.get? b=some ob)(n:H b=none)(hx:b ∉ ex):∃ sl,h1.get? b=some { ob with slots:=sl }:=by
 by_cases hb:b∈fs
 ·exact u.slot b ob q n hb hx
 ·exact ⟨ob.slots,u.keep b ob q n hb hx⟩
theorem Un.trans (a:Un fs ex H H1 h h1)(b:Un fs ex H1 H2 h1 h2):Un fs ex H H2 h h2 where
 keep:=λc ob q n hc hx=>b.keep c ob (a.keep c ob q n hc hx) (a.free c ob q n hx) hc hx
 slot:=λc ob q n hc hx=>by
  obtain ⟨sl,e1⟩:=a.slot c ob q n hc hx
  obtain ⟨sl',e2⟩:=b.slot c _ e1 (a.free c ob q n hx) hc hx
  exact ⟨sl',e2⟩
 free:=λc ob q n hx=>by
  obtain ⟨o',e1⟩:=a.there c ob q hx
  exact b.free c o' e1 (a.free c ob q n hx) hx
 there:=λc ob q hx=>by
  obtain ⟨o',e1⟩:=a.there c ob q hx
  exact b.there c o' e1 hx
 lV:=λc xs q=>b.lV c xs (a.lV c xs q)
 kr:=λc ob xs q=>b.kr c ob xs (a.kr c ob xs q)
 lX:=λc ps q=>by
  obtain ⟨m1,e1⟩:=a.lX c ps q
  obtain ⟨m2,e2⟩:=b.lX c _ e1
  exact ⟨m1++m2,by rw[e2,TK]⟩
theorem Un.kept (k:∀ b u,h.get? b=some u->h'.get? b=some u):Un fs ex H H h h':=
 ⟨λb ob q _ _ _=>k b ob q,λb ob q _ _ _=>⟨ob.slots,k b ob q⟩,λ_ _ _ n _=>n,λb ob q _=>⟨ob,k b ob q⟩,λ_ _ q=>q,λ_ _ _ q=>q,λ_ ps q=>⟨#[],by rw[q];simp⟩⟩
theorem Un.refl:Un fs ex H H h h:=Un.kept λ_ _ q=>q
theorem Un.laid (k:∀ b u,h.get? b=some u->h'.get? b=some u)(hp:h.objs.size<=a)(hn:H a=none):Un fs ex H (upd H a o) h h' where
 keep:=λb u q _ _ _=>k b u q
 slot:=λb u q _ _ _=>⟨u.slots,k b u q⟩
 free:=λb u q n _=>by rw[aS (NP (NV (NG q) hp))];exact n
 there:=λb u q _=>⟨u,k b u q⟩
 lV:=λb xs q=>by rw[aS (dj q hn)];exact q
 kr:=λb u xs q=>by rw[aS (dj q hn)];exact q
 lX:=λb ps q=>⟨#[],by rw[aS (dj q hn),q];simp⟩
theorem Un.write (mu:Mut (H x))(he:e=x∨H e=some (.own x))(k:∀ b u,b≠e->h.get? b=some u->h'.get? b=some u)(heo:∃ u,h'.get? e=some u):Un fs ex H (upd H x o) h h':=by
 have hx:∀ b,H b=none->b≠x:=λb n z=>by subst z;rw[n] at mu;exact mu
 have hb:∀ b,H b=none->b≠e:=λb n z=>by
  subst z
  rcases he with r | r
  ·exact hx b n r
  ·rw[n] at r;cases r
 have hm:∀ b u,H b=some u->¬ Mut (some u)->b≠x:=λb u q nm z=>by subst z;rw[q] at mu;exact nm mu
 refine ⟨λb u q n _ _=>k b u (hb b n) q,λb u q n _ _=>⟨u.slots,k b u (hb b n) q⟩,λb u q n _=>by rw[aS (hx b n)];exact n,λb u q _=>?_,
  λb xs q=>by rw[aS (hm b _ q λz=>z)];exact q,λb u xs q=>by rw[aS (hm b _ q λz=>z)];exact q,λb ps q=>⟨#[],by rw[aS (hm b _ q λz=>z),q];simp⟩⟩
 by_cases hbe:b=e
 ·subst hbe;exact heo
 ·exact ⟨u,k b u hbe q⟩
theorem Un.mono (u:Un fs ex H H1 h h1)(hs:∀ b∈fs,b∈fs')(hx:∀ b∈ex,b∈ex'):Un fs' ex' H H1 h h1:=
 ⟨λb ob q n hb he=>u.keep b ob q n (λz=>hb (hs b z)) λz=>he (hx b z),λ_ _ q n _ he=>u.any q n λz=>he (hx _ z),λb ob q n he=>u.free b ob q n λz=>he (hx b z),λb ob q he=>u.there b ob q λz=>he (hx b z),u.lV,u.kr,u.lX⟩
end
def trk (h:Heap)(H:Hp):List Addr:=(O6 h.objs.size).filter λa=>(H a).isSome
def sX (h:Heap)(H:Hp):Heap:=PySem.W.hideAll h (trk h H)
theorem AL (h:Heap)(H:Hp):(sX h H).objs.size=h.objs.size:=PySem.W.hideAll_size _ _
theorem De {h:Heap}{H:Hp}{b:Addr}{o:Obj}(e:h.get? b=some o)(n:H b=none):(sX h H).get? b=some o:=
 PySem.W.hideAll_get _ e λhm=>by
  have q:(H b).isSome=true:=(UI.mp hm).2
  rw[n] at q;simp at q
theorem Gk {h:Heap}{H:Hp}{b:Addr}{o:Obj}(e:(sX h H).get? b=some o):h.get? b=some o/\H b=none:=by
 have e':h.get? b=some o:=PySem.W.of_hideAll (trk h H) e
 refine ⟨e',?_⟩
 cases q:H b with
 | none=>rfl
 | some x=>
  have hm:b∈trk h H:=UI.mpr ⟨PD.mpr (NG e'),by simp[q]⟩
  have z:(sX h H).get? b=none:=PySem.W.hideAll_none (trk h H) hm
  rw[z] at e;cases e
def Fd (g h:Heap)(L:Addr):List (Addr×Obj):=(O6 h.objs.size).filterMap λa=>if a=L∨(g.get? a).isSome=true then none else (h.get? a).map λo=>(a,o)
def rest (g h:Heap)(L d:Addr):List (Addr×Obj):=(Fd g h L).filter λp=>decide (p.1≠d)
end L2
namespace L2
open PySem PySem.Spec PyProof.Rows
structure Mod (K:Nt) (mg:Str->Option Nu) (base:Heap):Prop where
 kin:K.In base
 glob:base.Ns Oq mg
 blt:∃ mb,base.Ns UZ mb/\∀ x:Str,x ≠ "__name__" -> mb x=N4 x
 nolimit:base.NoLimit
structure Cx where
 prog:NO
 w:N0
 K:Nt
 mg:Str->Option Nu
 base:Heap
 A:NY
 N:List Str
 s₀:Nv
 H₀:Hp
 env:Env
 outer:List Env
 stack:List Env
 ex:List Addr
 fn:Str->Bool
 calm:Bool
 pn:List (Addr×Obj)
 xe:Nu->Nv->Prop
def frs (l:List Env):List Addr:=l.filterMap (·.frame)
abbrev Cx.fs (X:Cx):List Addr:=frs X.outer
def Vis (sc:Scope)(x:Str):Prop:=sc.names.lookup x=some .local∨sc.names.lookup x=some .cell∨sc.names.lookup x=some .free
def Loc (sc:Scope)(x:Str):Prop:=sc.names.lookup x=some .local∨sc.names.lookup x=some .cell
def Look (env:Env)(h:Heap)(m:Str->Option Nu)(x:Str)(u:Nu):Prop:=
 (env.kindOf x=some .local/\m x=some u)∨((env.kindOf x=some .cell∨env.kindOf x=some .free)/\∃ c,env.cells.lookup x=some c/\h.IsCell c (some u))
structure Cx.Ok (X:Cx):Prop where
 mod:Mod X.K X.mg X.base
 kind:X.env.scope.kind=.function
 glob:X.env.globals=Oq
 blt:X.env.builtins=UZ
 above:X.s₀.heap.objs.size<=X.env.locals
 inj:∀ x y c,X.env.cells.lookup x=some c->X.env.cells.lookup y=some c->x=y
 has:∀ x,(X.env.kindOf x=some .cell∨X.env.kindOf x=some .free)->∃ c,X.env.cells.lookup x=some c
 cab:∀ x c,X.fn x=true->X.env.cells.lookup x=some c->X.s₀.heap.objs.size<=c
 hd:X.calm=true->X.A.handled=none
 frames:X.A.frames=some X.stack
 stk:X.stack=X.outer∨(X.stack=X.env::X.outer/\X.env.frame=some X.env.locals)
 exf:∀ b∈X.ex,b≠X.env.locals/\∀ x c,X.env.cells.lookup x=some c->c≠b
 bs:∀ b o,X.base.get? b=some o->X.s₀.heap.get? b=some o/\X.H₀ b=none
 bsz:X.base.objs.size<=X.s₀.heap.objs.size
 BZ:∀ b o,X.base.get? b=some o->b ∉ X.ex
 Cp:∀ b∈X.ex,b ∉ X.fs
 oM:X.s₀.heap.FunFrames X.base X.outer
 frf:∀ b∈X.fs,X.H₀ b=none
structure Inv (X:Cx) (pins:List (Addr×Obj)) (σ:List (Option V)) (H:Hp) (s:Nv):Prop where
 ok:X.Ok
 os:s.os=X.s₀.os
 bare:Rx s.gens
 base:Un X.fs X.ex X.H₀ H X.s₀.heap s.heap
 loc:∃ m,s.heap.Ns X.env.locals m/\∀ (i:Nat) (x:Str) (v:V),X.N[i]? = some x->σ[i]? = some (some v)->Vis X.env.scope x->∃ u,RelV v u/\Look X.env s.heap m x u
 cell:∀ x c,X.env.cells.lookup x=some c->∃ v,s.heap.IsCell c v
 free:H X.env.locals=none
 gR:∀ x c,X.env.cells.lookup x=some c->H c=none
 pin:∀ p∈X.pn++pins,s.heap.get? p.1=some p.2/\H p.1=none/\p.1≠X.env.locals/\p.1 ∉ X.fs/\∀ v,p.2.data≠.cell v
 hok:HOk X.prog X.w H s.heap
 len:σ.length=X.N.length
section
variable {X:Cx} {pins:List (Addr×Obj)} {σ:List (Option V)} {H H':Hp} {s:Nv} {h':Heap}
theorem Cx.Ok.Nl (ok:X.Ok){b:Addr}{o:Obj}(e:X.base.get? b=some o):b ∉ X.fs:=λhb=>by
 have:=(ok.oM.mem hb).1
 rw[e] at this;cases this
theorem Inv.bs (I:Inv X pins σ H s):∀ b o,X.base.get? b=some o->s.heap.get? b=some o/\H b=none:=λb o e=>
 ⟨I.base.keep b o (I.ok.bs b o e).1 (I.ok.bs b o e).2 (I.ok.Nl e) (I.ok.BZ b o e),I.base.free b o (I.ok.bs b o e).1 (I.ok.bs b o e).2 (I.ok.BZ b o e)⟩
theorem Inv.bk (I:Inv X pins σ H s):∀ b o,X.base.get? b=some o->s.heap.get? b=some o:=λb o e=>(I.bs b o e).1
theorem Inv.mod (I:Inv X pins σ H s):Mod X.K X.mg X.base:=I.ok.mod
theorem Inv.kIn (I:Inv X pins σ H s):X.K.In s.heap:=I.ok.mod.kin.keeps I.bk
theorem Inv.nolimit (I:Inv X pins σ H s):s.heap.NoLimit:=I.ok.mod.nolimit.keeps I.bk
theorem Inv.fr (I:Inv X pins σ H s):∃ m,Fr X.base X.env.locals s.heap m:=
 let ⟨m,hn,_⟩:=I.loc
 ⟨m,hn,I.bk,OD I.ok.bsz I.ok.above⟩
theorem Inv.lt (I:Inv X pins σ H s):X.env.locals < s.heap.objs.size:=let ⟨_,hn,_⟩:=I.loc;hn.lt
theorem Inv.sz (I:Inv X pins σ H s):X.s₀.heap.objs.size<=s.heap.objs.size:=OD I.ok.above (R4 I.lt)
theorem Inv.MZ (I:Inv X pins σ H s){a:Addr}(h:s.heap.objs.size<=a):a ∉ X.fs:=λhb=>by
 obtain ⟨_,o,ho,_⟩:=I.ok.oM.mem hb
 exact absurd (NV (NG ho) (OD I.sz h)) (Px _)
theorem Inv.cne (I:Inv X pins σ H s):∀ x c,X.env.cells.lookup x=some c->c≠X.env.locals:=λx c e z=>by
 obtain ⟨v,o,ho,hd⟩:=I.cell x c e
 obtain ⟨m,⟨o',es,ep,ho',hd',_⟩,_⟩:=I.loc
 rw[z,ho'] at ho;cases ho;rw[hd'] at hd;cases hd
theorem Inv.oM (I:Inv X pins σ H s):s.heap.FunFrames X.base X.outer:=by
 have all:∀ (l:List Env),(∀ b∈frs l,b∈X.fs)->X.s₀.heap.FunFrames X.base l->s.heap.FunFrames X.base l:=by
  intro l
  induction l with
  | nil=>intro _ _;trivial
  | cons env r ih=>
   intro hs hl
   obtain ⟨hk,⟨L,o,hf,hn,ho,hd⟩,hr⟩:=hl
   have hL:L∈X.fs:=hs L (by unfold frs;rw[Q7,hf];exact NB)
   obtain ⟨sl,e⟩:=I.base.slot L o ho (I.ok.frf L hL) hL λz=>I.ok.Cp L z hL
   exact ⟨hk,⟨L,_,hf,hn,e,hd⟩,ih (λb hb=>hs b (by unfold frs;rw[Q7,hf];exact NF _ hb)) hr⟩
 exact all X.outer (λ_ hb=>hb) I.ok.oM
theorem Inv.stack (I:Inv X pins σ H s):s.heap.FunFrames X.base X.stack:=by
 rcases I.ok.stk with e | ⟨e,hf⟩
 ·rw[e];exact I.oM
 ·rw[e]
  obtain ⟨m,hn,_⟩:=I.loc
  refine .cons (by rw[I.ok.kind];decide) hf hn ?_ I.oM
  exact Heap.get?_none_of_le (OD I.ok.bsz I.ok.above)
theorem Inv.xh (I:Inv X pins σ H s):∀ b∈frs X.stack,b∈X.env.locals::X.fs:=λb hb=>by
 rcases I.ok.stk with e | ⟨e,hf⟩
 ·rw[e] at hb;exact NF _ hb
 ·rw[e] at hb
  unfold frs at hb
  rw[Q7,hf] at hb
  exact hb
theorem Inv.yX (I:Inv X pins σ H s):∀ b∈frs X.stack,H b=none:=λb hb=>by
 rcases NT.mp (I.xh b hb) with e | hb
 ·rw[e];exact I.free
 ·obtain ⟨_,o,ho,_⟩:=I.ok.oM.mem hb
  exact I.base.free b o ho (I.ok.frf b hb) λz=>I.ok.Cp b z hb
theorem Inv.step {g':Array GenState}{t':Nat}{d':Drawn}{ch:List Addr}(I:Inv X pins σ H s)
  (hch:∀ b∈ch,(b∈X.ex∨X.s₀.heap.objs.size<=b)/\b≠X.env.locals/\(∀ x c,X.env.cells.lookup x=some c->c≠b)/\∀ p∈X.pn++pins,p.1≠b)
  (keep:∀ b o,b≠X.env.locals->b ∉ X.fs->b ∉ ch->s.heap.get? b=some o->H b=none->h'.get? b=some o)
  (slot:∀ b o,b≠X.env.locals->b∈X.fs->b ∉ ch->s.heap.get? b=some o->H b=none->∃ sl,h'.get? b=some { o with slots:=sl }) (free:∀ b o,b ∉ ch->s.heap.get? b=some o->H b=none->H' b=none)
  (there:∀ b o,b ∉ ch->s.heap.get? b=some o->∃ o',h'.get? b=some o')
  (lV:∀ b xs,H b=some (.tup xs)->H' b=some (.tup xs)) (kr:∀ b o u,H b=some (.frz o u)->H' b=some (.frz o u)) (lX:∀ b ps,H b=some (.tbl ps)->∃ more,H' b=some (.tbl (ps++more)))
  (ns:∀ m,s.heap.Ns X.env.locals m->h'.Ns X.env.locals m) (hok:HOk X.prog X.w H' h') (hg:Rx g') :
  Inv X pins σ H' { s with heap:=h',gens:=g',drawn:=d',toks:=t' }:=by
 have neL:∀ b o,X.s₀.heap.get? b=some o->b≠X.env.locals:=λb o e=>NP (NV (NG e) I.ok.above)
 have neC:∀ b o,X.s₀.heap.get? b=some o->b ∉ X.ex->b ∉ ch:=λb o e hx hb=>by
  rcases (hch b hb).1 with z | z
  ·exact hx z
  ·exact absurd (NV (NG e) z) (Px _)
 have cellK:∀ x c,X.env.cells.lookup x=some c->∀ v,s.heap.IsCell c v->h'.IsCell c v:=λx c e v ⟨o,ho,hd⟩=>by
  have nch:c ∉ ch:=λz=>(hch c z).2.2.1 x c e rfl
  by_cases hc:c∈X.fs
  ·obtain ⟨sl,q⟩:=slot c o (I.cne x c e) hc nch ho (I.gR x c e)
   exact ⟨_,q,hd⟩
  ·exact ⟨o,keep c o (I.cne x c e) hc nch ho (I.gR x c e),hd⟩
 refine ⟨I.ok,I.os,hg,⟨λb o e n hb hx=>?_,λb o e n hb hx=>?_,λb o e n hx=>?_,λb o e hx=>?_,λb xs e=>lV b xs (I.base.lV b xs e),λb o xs e=>kr b o xs (I.base.kr b o xs e),λb ps e=>?_⟩,?_,λx c e=>?_,?_,λx c e=>?_,λp hp=>?_,hok,I.len⟩
 ·exact keep b o (neL b o e) hb (neC b o e hx) (I.base.keep b o e n hb hx) (I.base.free b o e n hx)
 ·obtain ⟨sl,e1⟩:=I.base.slot b o e n hb hx
  obtain ⟨sl',e2⟩:=slot b _ (neL b o e) hb (neC b o e hx) e1 (I.base.free b o e n hx)
  exact ⟨sl',e2⟩
 ·obtain ⟨o',e1⟩:=I.base.there b o e hx
  exact free b o' (neC b o e hx) e1 (I.base.free b o e n hx)
 ·obtain ⟨o',e1⟩:=I.base.there b o e hx
  exact there b o' (neC b o e hx) e1
 ·obtain ⟨m1,e1⟩:=I.base.lX b ps e
  obtain ⟨m2,e2⟩:=lX b _ e1
  exact ⟨m1++m2,by rw[e2,TK]⟩
 ·obtain ⟨m,hn,hl⟩:=I.loc
  refine ⟨m,ns m hn,λi x v e1 e2 e3=>?_⟩
  obtain ⟨u,r,l⟩:=hl i x v e1 e2 e3
  refine ⟨u,r,?_⟩
  rcases l with l | ⟨k,c,e,z⟩
  ·exact .inl l
  ·exact .inr ⟨k,c,e,cellK x c e _ z⟩
 ·obtain ⟨v,z⟩:=I.cell x c e
  exact ⟨v,cellK x c e v z⟩
 ·obtain ⟨m,⟨o,_,_,ho,_⟩,_⟩:=I.loc
  exact free _ o (λz=>(hch _ z).2.1 rfl) ho I.free
 ·obtain ⟨v,o,ho,hd⟩:=I.cell x c e
  exact free c o (λz=>(hch c z).2.2.1 x c e rfl) ho (I.gR x c e)
 ·obtain ⟨e,n,ne,nf,d⟩:=I.pin p hp
  have nch:p.1 ∉ ch:=λz=>(hch p.1 z).2.2.2 p hp rfl
  exact ⟨keep p.1 p.2 ne nf nch e n,free p.1 p.2 nch e n,ne,nf,d⟩
theorem Inv.un {t':Nat}(I:Inv X pins σ H s)(u:Un X.fs [] H H' s.heap h')(hok:HOk X.prog X.w H' h'):Inv X pins σ H' { s with heap:=h',toks:=t' }:=by
 obtain ⟨m,⟨o,es,ep,ho,r⟩,_⟩:=id I.loc
 obtain ⟨sl,hL⟩:=u.any ho I.free (by simp)
 exact I.step (g':=s.gens) (d':=s.drawn) (ch:=[]) (λ_ z=>nomatch z) (λb o _ hb _ e n=>u.keep b o e n hb (by simp)) (λb o _ hb _ e n=>u.slot b o e n hb (by simp)) (λb o _ e n=>u.free b o e n (by simp)) (λb o _ e=>u.there b o e (by simp)) u.lV u.kr u.lX (λm' hm=>by
  obtain ⟨o',es',ep',ho',r'⟩:=hm
  rw[ho] at ho';cases ho'
  exact ⟨_,es',ep',hL,r'⟩) hok I.bare
theorem Inv.call {g':Array GenState}{t':Nat}{d':Drawn}{ch:List Addr}(I:Inv X pins σ H s)(u:Un (frs X.stack) ch H H' s.heap h')(hok:HOk X.prog X.w H' h')(hg:Rx g')
  (hch:∀ b∈ch,(b∈X.ex∨X.s₀.heap.objs.size<=b)/\b≠X.env.locals/\(∀ x c,X.env.cells.lookup x=some c->c≠b)/\∀ p∈X.pn++pins,p.1≠b) :
  Inv X pins σ H' { s with heap:=h',gens:=g',drawn:=d',toks:=t' }:=by
 obtain ⟨m,⟨o,es,ep,ho,r⟩,_⟩:=id I.loc
 obtain ⟨sl,hL⟩:=u.any ho I.free λz=>(hch _ z).2.1 rfl
 exact I.step (ch:=ch) hch (λb o hL hb hc e n=>u.keep b o e n (λz=>(NT.mp (I.xh b z)).elim hL hb) hc) (λb o _ _ hc e n=>u.any e n hc) (λb o hc e n=>u.free b o e n hc) (λb o hc e=>u.there b o e hc) u.lV u.kr u.lX (λm' hm=>by
  obtain ⟨o',es',ep',ho',r'⟩:=hm
  rw[ho] at ho';cases ho'
  exact ⟨_,es',ep',hL,r'⟩) hok hg
theorem Inv.turned {t':Nat}{it:Addr}(I:Inv X pins σ H s)(k:∀ b o,b≠it->s.heap.get? b=some o->h'.get? b=some o)(hn:H it=none)(hL:it≠X.env.locals)
  (h1:it∈X.ex∨X.s₀.heap.objs.size<=it) (h2:∀ x c,X.env.cells.lookup x=some c->c≠it) (h3:∀ p∈X.pn++pins,p.1≠it):Inv X pins σ H { s with heap:=h',toks:=t' }:=by
 have nit:∀ b u,H b=some u->b≠it:=λb u e z=>by rw[z,hn] at e;cases e
 refine I.step (g':=s.gens) (d':=s.drawn) (ch:=[it]) (λb hb=>?_) (λb o _ _ hc e _=>k b o (λz=>hc (by simp[z])) e) (λb o _ _ hc e _=>⟨o.slots,k b o (λz=>hc (by simp[z])) e⟩) (λ_ _ _ _ n=>n)
  (λb o hc e=>⟨o,k b o (λz=>hc (by simp[z])) e⟩) (λ_ _ e=>e) (λ_ _ _ e=>e) (λb ps e=>⟨#[],by rw[e];simp⟩) (λm hm=>?_) (λb u e=>?_) I.bare
 ·have e:b=it:=by simpa using hb
  subst e
  exact ⟨h1,hL,h2,h3⟩
 ·obtain ⟨o,es,ep,ho,r⟩:=hm
  exact ⟨o,es,ep,k _ o (PC hL) ho,r⟩
 ·refine (I.hok b u e).qV (λc v hc q=>k c v ?_ q) (λ_ q=>q) λ_ _ q=>q
  rcases hc with z | z
  ·rw[z];exact nit b u e
  ·exact nit c _ z
theorem Inv.tok (I:Inv X pins σ H s)(t:Nat):Inv X pins σ H { s with toks:=t }:=I.un (h':=s.heap) (t':=t) Un.refl I.hok
theorem Inv.kept {t':Nat}(I:Inv X pins σ H s)(k:∀ b u,s.heap.get? b=some u->h'.get? b=some u):Inv X pins σ H { s with heap:=h',toks:=t' }:=I.un (Un.kept k) (I.hok.kept k)
theorem Inv.laid {a:Addr}{o:HO}{t':Nat}(I:Inv X pins σ H s)(k:∀ b u,s.heap.get? b=some u->h'.get? b=some u)(hp:s.heap.objs.size<=a)(new:dW X.prog X.w (upd H a o) h' a o) :
  Inv X pins σ (upd H a o) { s with heap:=h',toks:=t' }:=I.un (Un.laid k hp (I.hok.fresh hp)) (I.hok.laid k hp new)
theorem Inv.write {x e:Addr}{o:HO}{t':Nat}(I:Inv X pins σ H s)(mu:Mut (H x))(he:e=x∨H e=some (.own x))(k:∀ b u,b≠e->s.heap.get? b=some u->h'.get? b=some u)(heo:∃ u,h'.get? e=some u)
  (new:dW X.prog X.w (upd H x o) h' x o):Inv X pins σ (upd H x o) { s with heap:=h',toks:=t' }:=I.un (Un.write mu he k heo) (I.hok.write mu he k heo new)
theorem Inv.weak {σ':List (Option V)}(I:Inv X pins σ H s)(hl:σ'.length=σ.length)(w:∀ (i:Nat) v,σ'[i]? = some (some v)->σ[i]? = some (some v)):Inv X pins σ' H s:=
 ⟨I.ok,I.os,I.bare,I.base,let ⟨m,hn,hl'⟩:=I.loc;⟨m,hn,λi x v e1 e2 e3=>hl' i x v e1 (w i v e2) e3⟩,I.cell,I.free,I.gR,I.pin,I.hok,hl.trans I.len⟩
theorem Inv.yM {pins':List (Addr×Obj)}(I:Inv X pins σ H s)(h:∀ p∈pins',s.heap.get? p.1=some p.2/\H p.1=none/\p.1≠X.env.locals/\p.1 ∉ X.fs/\∀ v,p.2.data≠.cell v):Inv X pins' σ H s:=
 ⟨I.ok,I.os,I.bare,I.base,I.loc,I.cell,I.free,I.gR,λp hp=>(N1.mp hp).elim (λz=>I.pin p (SG _ z)) (h p),I.hok,I.len⟩
theorem vK {N:List Str}(hN:N.Nodup){i j:Nat}{x:Str}(a:N[i]? = some x)(b:N[j]? = some x):i=j:=by
 obtain ⟨h1,e1⟩:=Ot.mp a
 obtain ⟨h2,e2⟩:=Ot.mp b
 exact (List.getElem_inj hN).mp (e1.trans e2.symm)
theorem zU {M:U0}{A:NY}{E:Nu->Nv->Prop}{i:Nat}{x:Str}{v:V}{u:Nu}{Q:Unit->Nv->Prop}(I:Inv X pins σ H s)(hN:X.N.Nodup)(hi:X.N[i]? = some x)(hx:Loc X.env.scope x)(r:RelV v u)
  (h:∀ s',Inv X pins (σ.set i (some v)) H s'->(∃ a,PR a s.heap s'.heap/\(a=X.env.locals∨X.env.cells.lookup x=some a))->Q () s') (hf:X.fn x=true∨X.env.scope.names.lookup x=some .local:=by first | exact .inl rfl | exact .inr rfl | assumption):NL M A (storeName X.env x u) Q E s:=by
 obtain ⟨m,hn,hl⟩:=id I.loc
 have MV:(X.env.scope.kind == .class || (X.env.scope.kind == .module&&X.env.locals != X.env.globals))=false:=by rw[I.ok.kind];rfl
 have hiσ:i < σ.length:=by rw[I.len];exact (Ot.mp hi).1
 have cne:=I.cne
 have tracked:∀ {a:Addr} {h':Heap},(∃ o,s.heap.get? a=some o/\H a=none)->PR a s.heap h'->HOk X.prog X.w H h':=λ{a h'} ha hs b ob e=>by
  obtain ⟨_,_,hfree⟩:=ha
  refine (I.hok b ob e).qV (λc w' hc q=>(hs.2 c ?_).trans q) (λ_ q=>q) λ_ _ q=>q
  rintro rfl
  rcases hc with rfl | hc
  ·rw[hfree] at e;cases e
  ·rw[hfree] at hc;cases hc
 rcases hx with hk | hk
 ·refine wpAny_storeName_local hk hn (λh' hn' hs=>?_) MV
  obtain ⟨oL,_,_,hoL,_⟩:=id hn
  refine h _ ⟨I.ok,I.os,I.bare,⟨λb o e n hb hx=>?_,λb o e n hb hx=>?_,I.base.free,λb o e hx=>?_,I.base.lV,I.base.kr,I.base.lX⟩,⟨_,hn',λj y v' e1 e2 e3=>?_⟩,λy c e=>?_,I.free,I.gR,λp hp=>?_,tracked ⟨oL,hoL,I.free⟩ hs,by simpa using I.len⟩ ⟨_,hs,.inl rfl⟩
  ·exact (hs.2 b (NP (NV (NG e) I.ok.above))).trans (I.base.keep b o e n hb hx)
  ·obtain ⟨sl,e1⟩:=I.base.slot b o e n hb hx
   exact ⟨sl,(hs.2 b (NP (NV (NG e) I.ok.above))).trans e1⟩
  ·obtain ⟨o',e1⟩:=I.base.there b o e hx
   exact ⟨o',(hs.2 b (NP (NV (NG e) I.ok.above))).trans e1⟩
  ·by_cases hj:j=i
   ·subst hj
    rw[hi] at e1;cases e1
    rw[Qq hiσ] at e2
    cases e2
    exact ⟨u,r,.inl ⟨hk,by simp⟩⟩
   ·rw[P0 (PC hj)] at e2
    obtain ⟨u',r',q⟩:=hl j y v' e1 e2 e3
    refine ⟨u',r',?_⟩
    rcases q with ⟨k,e⟩ | ⟨k,c,e,z⟩
    ·refine .inl ⟨k,?_⟩
     have:y≠x:=λe=>hj (vK hN e1 (e ▸ hi))
     simp[this,e]
    ·exact .inr ⟨k,c,e,z.sameBut hs (cne y c e)⟩
  ·obtain ⟨w',z⟩:=I.cell y c e
   exact ⟨w',z.sameBut hs (cne y c e)⟩
  ·obtain ⟨e,n,ne,nf,d⟩:=I.pin p hp
   exact ⟨(hs.2 p.1 ne).trans e,n,ne,nf,d⟩
 ·have hfn:X.fn x=true:=by
   rcases hf with z | z
   ·exact z
   ·rw[z] at hk;cases hk
  obtain ⟨c,hc⟩:=I.ok.has x (.inl hk)
  obtain ⟨w',z⟩:=I.cell x c hc
  refine wpAny_storeName_cell I.ok.kind hk hc z (λh' hc' hs=>?_)
  obtain ⟨oc,hoc,hocd⟩:=id z
  refine h { s with heap:=h' } ⟨I.ok,I.os,I.bare,⟨λb o e n hb hx=>?_,λb o e n hb hx=>?_,I.base.free,λb o e hx=>?_,I.base.lV,I.base.kr,I.base.lX⟩,⟨m,hn.sameBut hs (PC (cne x c hc)),λj y v' e1 e2 e3=>?_⟩,λy c' e=>?_,I.free,I.gR,λp hp=>?_,tracked ⟨oc,hoc,I.gR x c hc⟩ hs,by simpa using I.len⟩ ⟨c,hs,.inr hc⟩
  ·exact (hs.2 b (NP (NV (NG e) (I.ok.cab x c hfn hc)))).trans (I.base.keep b o e n hb hx)
  ·obtain ⟨sl,e1⟩:=I.base.slot b o e n hb hx
   exact ⟨sl,(hs.2 b (NP (NV (NG e) (I.ok.cab x c hfn hc)))).trans e1⟩
  ·obtain ⟨o',e1⟩:=I.base.there b o e hx
   exact ⟨o',(hs.2 b (NP (NV (NG e) (I.ok.cab x c hfn hc)))).trans e1⟩
  ·by_cases hj:j=i
   ·subst hj
    rw[hi] at e1;cases e1
    rw[Qq hiσ] at e2
    cases e2
    exact ⟨u,r,.inr ⟨.inl hk,c,hc,hc'⟩⟩
   ·rw[P0 (PC hj)] at e2
    obtain ⟨u',r',q⟩:=hl j y v' e1 e2 e3
    refine ⟨u',r',?_⟩
    rcases q with q | ⟨k,c',e,z'⟩
    ·exact .inl q
    ·refine .inr ⟨k,c',e,z'.sameBut hs ?_⟩
     rintro rfl
     exact hj (vK hN e1 (I.ok.inj _ _ _ e hc ▸ hi))
  ·by_cases hcc:c'=c
   ·subst hcc;exact ⟨_,hc'⟩
   ·obtain ⟨w2,z2⟩:=I.cell y c' e
    exact ⟨w2,z2.sameBut hs hcc⟩
  ·obtain ⟨e,n,ne,nf,d⟩:=I.pin p hp
   refine ⟨(hs.2 p.1 ?_).trans e,n,ne,nf,d⟩
   intro q
   rw[q,hoc] at e
   have q':oc=p.2:=Oc e
   exact d w' (by rw[← q'];exact hocd)
theorem jT {M:U0}{A:NY}{E:Nu->Nv->Prop}{i:Nat}{x:Str}{v:V}{u:Nu}{Q:Unit->Nv->Prop}(I:Inv X pins σ H s)(hN:X.N.Nodup)(hi:X.N[i]? = some x)(hx:Loc X.env.scope x)(r:RelV v u)
  (h:∀ s',Inv X pins (σ.set i (some v)) H s'->Q () s') (hf:X.fn x=true∨X.env.scope.names.lookup x=some .local:=by first | exact .inl rfl | exact .inr rfl | assumption):NL M A (storeName X.env x u) Q E s:=
 zU I hN hi hx r (λs' I' _=>h s' I') hf
theorem Inv.Hj {s':Nv}{ch:List Addr}(I:Inv X pins σ H s)(ho:s'.os=s.os)(u:Un (frs X.stack) ch H H' s.heap s'.heap)(hok:HOk X.prog X.w H' s'.heap)(hg:Rx s'.gens)
  (hch:∀ b∈ch,(b∈X.ex∨X.s₀.heap.objs.size<=b)/\b≠X.env.locals/\(∀ x c,X.env.cells.lookup x=some c->c≠b)/\∀ p∈X.pn++pins,p.1≠b):Inv X pins σ H' s':=by
 obtain ⟨h',g',d',t',o'⟩:=s'
 have e:o'=s.os:=ho
 subst e
 exact I.call (g':=g') (t':=t') (d':=d') u hok hg hch
end
abbrev XK:=Nu->Option Addr->Hp->Prop
abbrev St:=List (Option V)
abbrev VK:=V->Hp->Prop
abbrev TE:=St->Hp->VK->Prop
abbrev TT:=St->Hp->(Bool->Hp->Prop)->Prop
abbrev TA:=St->Hp->(List V->Hp->Prop)->Prop
structure Ends where
 nx:St->Hp->Prop
 rt:VK
 bk:St->Hp->Prop:=λ_ _=>False
 ct:St->Hp->Prop:=λ_ _=>False
abbrev TS:=Ends->St->Hp->Prop
def EP (X:Cx)(pins:List (Addr×Obj))(σ:St)(Q:VK)(u:Nu)(s':Nv):Prop:=∃ v H',Inv X pins σ H' s'/\RelV v u/\Q v H'
def TP (X:Cx)(pins:List (Addr×Obj))(σ:St)(Q:Bool->Hp->Prop)(b:Bool)(s':Nv):Prop:=∃ H',Inv X pins σ H' s'/\Q b H'
def AP (X:Cx)(pins:List (Addr×Obj))(σ:St)(Q:List V->Hp->Prop)(us:List Nu)(s':Nv):Prop:=∃ vs H',Inv X pins σ H' s'/\Vals vs us/\Q vs H'
def SP (X:Cx)(pins:List (Addr×Obj))(D:Ends)(f:Flow)(s':Nv):Prop:=
 match f with
 | .next=>∃ σ' H',Inv X pins σ' H' s'/\D.nx σ' H'
 | .brk=>∃ σ' H',Inv X pins σ' H' s'/\D.bk σ' H'
 | .cont=>∃ σ' H',Inv X pins σ' H' s'/\D.ct σ' H'
 | .ret u=>∃ v σ' H',Inv X pins σ' H' s'/\RelV v u/\D.rt v H'
def PE (X:Cx)(e:NX)(t:TE):Prop:=
 ∀ (pins:List (Addr×Obj)) (s:Nv) (σ:St) (H:Hp) (Q:VK),Inv X pins σ H s->t σ H Q->NL (NS X.prog X.w) X.A (OF e X.env) (EP X pins σ Q) X.xe s
def PT (X:Cx)(e:NX)(t:TT):Prop:=
 ∀ (pins:List (Addr×Obj)) (s:Nv) (σ:St) (H:Hp) (Q:Bool->Hp->Prop),Inv X pins σ H s->t σ H Q->NL (NS X.prog X.w) X.A (isTrue e X.env (OF e X.env)) (TP X pins σ Q) X.xe s
def PW (X:Cx)(e:NX)(t:TT):Prop:=
 ∀ (whole:Sem Nu) (pins:List (Addr×Obj)) (s:Nv) (σ:St) (H:Hp) (Q:Bool->Hp->Prop),Inv X pins σ H s->t σ H Q->NL (NS X.prog X.w) X.A (isTrue e X.env whole) (TP X pins σ Q) X.xe s
theorem PW.pt {X:Cx}{e:NX}{t:TT}(h:PW X e t):PT X e t:=h _
def PA (X:Cx)(es:List NX)(t:TA):Prop:=
 ∀ (pos:Pos) (pins:List (Addr×Obj)) (s:Nv) (σ:St) (H:Hp) (Q:List V->Hp->Prop),Inv X pins σ H s->t σ H Q->NL (NS X.prog X.w) X.A (S2 (N8 pos (Nx es X.env))) (AP X pins σ Q) X.xe s
def PS (X:Cx)(st:Stmt)(t:TS):Prop:=
 ∀ (pins:List (Addr×Obj)) (s:Nv) (σ:St) (H:Hp) (D:Ends),Inv X pins σ H s->t D σ H->NL (NS X.prog X.w) X.A (exec st X.env) (SP X pins D) X.xe s
def PSs (X:Cx)(st:List Stmt)(t:TS):Prop:=
 ∀ (pins:List (Addr×Obj)) (s:Nv) (σ:St) (H:Hp) (D:Ends),Inv X pins σ H s->t D σ H->NL (NS X.prog X.w) X.A (execs st X.env) (SP X pins D) X.xe s
theorem thn {α:Type}{t:Sem α}{Q Q':α->Nv->Prop}{M:U0}{A:NY}{E:Nu->Nv->Prop}{s:Nv}(h:NL M A t Q E s)(hQ:∀ a s,Q a s->Q' a s):NL M A t Q' E s:=OQ h hQ λ_ _ x=>x
end L2
namespace L2
open PySem PySem.Spec PyProof.Rows
section
variable {X:Cx}
def K4 (i:Nat):TE:=λσ H Q=>∃ v,σ[i]? = some (some v)/\Q v H
def tC (v:V):TE:=λ_ H Q=>Q v H
theorem Cg {i:Nat}{x:Str}{pos:Pos}(hN:X.N[i]? = some x)(hv:Vis X.env.scope x)(hd:(x == ("__debug__" : Str))=false:=by decide)(hcd:(x == ("__classdict__" : Str))=false:=by decide):PE X (.Name x pos) (K4 i):=by
 intro pins s σ H Q I h
 obtain ⟨v,e,h⟩:=h
 obtain ⟨m,hn,hl⟩:=I.loc
 obtain ⟨u,r,l⟩:=hl i x v hN e hv
 have fin:EP X pins σ Q u s:=⟨v,H,I,r,h⟩
 rcases l with ⟨hk,hm⟩ | ⟨hk,c,hc,hcell⟩
 ·exact U1 (wpAny_loadName_local I.ok.kind hk hn hm fin) hd
 ·rcases hk with hk | hk
  ·exact U1 (wpAny_loadName_cell I.ok.kind hk hc hcell fin) hd
  ·exact U1 (wpAny_loadName_free I.ok.kind hk hc hcell fin hcd) hd
theorem Jc {i j pos}:PE X (.Constant (.int i) j pos) (tC (.int i)):=λ_ _ _ H _ I h=>wpAny_Constant_int ⟨.int i,H,I.tok _,⟨_,rfl⟩,h⟩
theorem LJ {b j pos}:PE X (.Constant (.bool b) j pos) (tC (.bl b)):=λ_ _ _ H _ I h=>Constant_bool ⟨.bl b,H,I,rfl,h⟩
theorem J6 {j pos}:PE X (.Constant .none j pos) (tC .non):=λ_ _ _ H _ I h=>Constant_none ⟨.non,H,I,rfl,h⟩
theorem Hz {x j pos}:PE X (.Constant (.str x) j pos) (tC (.str x)):=λ_ _ _ H _ I h=>Calls.Constant_str ⟨.str x,H,I.tok _,⟨_,rfl⟩,h⟩
def Gl (X:Cx)(x:Str):Prop:=X.env.kindOf x=some .globalImplicit
theorem yE {E:Nu->Nv->Prop}{pins:List (Addr×Obj)}{s:Nv}{σ:St}{H:Hp}{x:Str}{u:Nu}{pos:Pos}{Q:Nu->Nv->Prop}(I:Inv X pins σ H s)(hg:Gl X x)(hm:X.mg x=some u)(h:Q u s)
  (hd:(x == ("__debug__" : Str))=false:=by decide):NL (NS X.prog X.w) X.A (OF (.Name x pos) X.env) Q E s:=
 Rh I.ok.kind hg (Calls.loadGlobal_global (by rw[I.ok.glob];exact I.mod.glob.keeps I.bk) hm h) hd
theorem gy {E:Nu->Nv->Prop}{pins:List (Addr×Obj)}{s:Nv}{σ:St}{H:Hp}{x:Str}{u:Nu}{pos:Pos}{Q:Nu->Nv->Prop}(I:Inv X pins σ H s)(hg:Gl X x)(hm:X.mg x=none)(hv:N4 x=some u)(h:Q u s)
  (hn:x ≠ "__name__" := by decide) (hd:(x == ("__debug__" : Str))=false:=by decide):NL (NS X.prog X.w) X.A (OF (.Name x pos) X.env) Q E s:=by
 obtain ⟨mb,h1,h2⟩:=I.mod.blt
 exact Rh I.ok.kind hg (Calls.loadGlobal_builtin (by rw[I.ok.glob];exact I.mod.glob.keeps I.bk) hm (by rw[I.ok.blt];exact h1.keeps I.bk) ((h2 x hn).trans hv) h) hd
theorem sU {x:Str}{v:V}{u:Nu}{pos:Pos}(hg:Gl X x)(hm:X.mg x=some u)(r:RelV v u)(hd:(x == ("__debug__" : Str))=false:=by decide):PE X (.Name x pos) (tC v):=
 λ_ _ _ H _ I h=>yE I hg hm ⟨v,H,I,r,h⟩ hd
theorem F3 {x:Str}{v:V}{u:Nu}{pos:Pos}(hg:Gl X x)(hm:X.mg x=none)(hv:N4 x=some u)(r:RelV v u)(hn:x ≠ "__name__" := by decide)(hd:(x == ("__debug__" : Str))=false:=by decide):PE X (.Name x pos) (tC v):=
 λ_ _ _ H _ I h=>gy I hg hm hv ⟨v,H,I,r,h⟩ hn hd
variable {a b:NX} {ta tb:TE} {pos:Pos}
def tB (t:TE):TT:=λσ H Q=>t σ H λx H1=>∃ c,x=.bl c/\Q c H1
theorem HQ {e:NX}{t:TE}(h:PE X e t)(he:∀ whole,isTrue e X.env whole=(do let v ← whole;standAt e.pos;Ry [v] (truthy v)):=by intro _;rfl):PT X e (tB t):=by
 intro pins s σ H Q I hw
 refine isTrue_plain (thn (h pins s σ H _ I hw) λv s1 ⟨x,H1,I1,r1,q1⟩=>?_) (he _)
 obtain ⟨d,rfl,q⟩:=q1
 cases r1
 exact OI ⟨H1,I1,q⟩
variable {tA tB':TT} {rest:List NX}
def tOr (t u:TT):TT:=λσ H Q=>t σ H λc H1=>if c=true then Q true H1 else u σ H1 Q
def Nf (t:TT):TT:=λσ H Q=>t σ H λc H1=>Q (!c) H1
theorem pw_or1 (ha:PT X a tA):PW X (.BoolOp .Or [a] pos) tA:=by
 intro wh pins s σ H Q I h
 refine isTrue_or (thn (ha pins s σ H Q I h) λc s1 e=>?_)
 cases c with
 | false=>exact isTrue_or_nil e
 | true=>exact e
theorem pw_or (ha:PT X a tA)(hb:PW X (.BoolOp .Or (b::rest) pos) tB'):PW X (.BoolOp .Or (a::b::rest) pos) (tOr tA tB'):=by
 intro wh pins s σ H Q I h
 refine isTrue_or (thn (ha pins s σ H _ I h) λc s1 ⟨H1,I1,q1⟩=>?_)
 cases c with
 | true=>exact ⟨H1,I1,q1⟩
 | false=>exact hb wh pins s1 σ H1 Q I1 q1
theorem Ih (ha:PT X a tA):PT X (.UnaryOp .Not a pos) (Nf tA):=by
 intro pins s σ H Q I h
 exact isTrue_not (ha pins s σ H (λc H1=>Q (!c) H1) I h)
def L8 (ta tb:TE):TE:=λσ H Q=>ta σ H λx H1=>∃ c,x=.bl c/\if c=true then tb σ H1 Q else Q (.bl false) H1
def MU (ta tb:TE):TE:=λσ H Q=>ta σ H λx H1=>∃ c,x=.bl c/\if c=true then Q (.bl true) H1 else tb σ H1 Q
def Lf (ta:TE):TE:=λσ H Q=>ta σ H λx H1=>∃ c,x=.bl c/\Q (.bl (!c)) H1
theorem HH {op}{t:TE}(h:PE X a t):PE X (.BoolOp op [a] pos) t:=λpins s σ H Q I hw=>BoolOp_one (h pins s σ H Q I hw)
theorem JW (ha:PE X a ta)(hb:PE X (.BoolOp .And (b::rest) pos) tb):PE X (.BoolOp .And (a::b::rest) pos) (L8 ta tb):=by
 intro pins s σ H Q I h
 refine BoolOp_and (thn (ha pins s σ H _ I h) λv s1 ⟨x,H1,I1,r1,q1⟩=>?_)
 obtain ⟨c,rfl,q1⟩:=q1
 cases r1
 refine OI ?_
 cases c with
 | true=>exact hb pins s1 σ H1 Q I1 q1
 | false=>exact ⟨.bl false,H1,I1,rfl,q1⟩
theorem LF (ha:PE X a ta)(hb:PE X (.BoolOp .Or (b::rest) pos) tb):PE X (.BoolOp .Or (a::b::rest) pos) (MU ta tb):=by
 intro pins s σ H Q I h
 refine BoolOp_or (thn (ha pins s σ H _ I h) λv s1 ⟨x,H1,I1,r1,q1⟩=>?_)
 obtain ⟨c,rfl,q1⟩:=q1
 cases r1
 refine OI ?_
 cases c with
 | false=>exact hb pins s1 σ H1 Q I1 q1
 | true=>exact ⟨.bl true,H1,I1,rfl,q1⟩
theorem IU (ha:PE X a ta):PE X (.UnaryOp .Not a pos) (Lf ta):=by
 intro pins s σ H Q I h
 refine UnaryOp_ (thn (ha pins s σ H _ I h) λv s1 ⟨x,H1,I1,r1,q1⟩=>?_)
 obtain ⟨c,rfl,q1⟩:=q1
 cases r1
 exact not_of (OI ⟨.bl (!c),H1,I1,rfl,q1⟩)
def tIf (t:TT)(ta tb:TE):TE:=λσ H Q=>t σ H λc H1=>if c=true then ta σ H1 Q else tb σ H1 Q
theorem CN {c:NX}(hc:PT X c tA)(ha:PE X a ta)(hb:PE X b tb):PE X (.IfExp c a b pos) (tIf tA ta tb):=by
 intro pins s σ H Q I h
 refine wpAny_IfExp (thn (hc pins s σ H _ I h) λd s1 ⟨H1,I1,q1⟩=>?_)
 cases d with
 | true=>exact ha pins s1 σ H1 Q I1 q1
 | false=>exact hb pins s1 σ H1 Q I1 q1
end
end L2
namespace L2
open PySem PySem.Spec PyProof.Rows
def SqL (K:Nt)(H:Hp)(a:Addr)(xs:List V):Prop:=
 Rd H a (.lst xs)∨
  ∃ (o:Obj) (its:Array Nu) (n:Nat),K.lookup a=some o/\o.cls=.type "list" /\ o.dict=none/\o.data=.seq its n/\its.size<=sizeLine/\Vals xs its.toList
def SqT (K:Nt)(H:Hp)(a:Addr)(xs:List V):Prop:=
 Rd H a (.tup xs)∨
  ∃ (o:Obj) (its:Array Nu) (n:Nat),K.lookup a=some o/\o.cls=.type "tuple" /\ o.dict=none/\o.data=.seq its n/\its.size<=sizeLine/\Vals xs its.toList
def MG:Nu->Option V
 | .none=>some .non
 | .bool b=>some (.bl b)
 | .int i _=>some (.int i)
 | .str x _=>some (.str x)
 | .bytes b _=>some (.byt b)
 | .float b _=>some (.flt b)
 | .ref a=>some (.ref a)
 | .type n=>some (.ty n)
 | _=>none
theorem RelV.abs {x:V}{u:Nu}(r:RelV x u):MG u=some x:=by
 cases x with
 | non=>cases r;rfl
 | bl _=>cases r;rfl
 | int _=>obtain ⟨t,rfl⟩:=r;rfl
 | str _=>obtain ⟨t,rfl⟩:=r;rfl
 | byt _=>obtain ⟨t,rfl⟩:=r;rfl
 | flt _=>obtain ⟨t,rfl⟩:=r;rfl
 | ref _=>cases r;rfl
 | ty _=>cases r;rfl
theorem RelV.inj {x y:V}{u:Nu}(r:RelV x u)(q:RelV y u):x=y:=Oc (r.abs.symm.trans q.abs)
theorem Vals.inj:∀ {xs ys:List V} {us:List Nu},Vals xs us->Vals ys us->xs=ys
 | _,_,_,.nil,.nil=>rfl
 | _,_,_,.cons r t,.cons r' t'=>by rw[r.inj r',Vals.inj t t']
section
variable {X:Cx} {pins:List (Addr×Obj)} {σ:St} {H:Hp} {s:Nv} {a:Addr} {xs ys:List V}
theorem SqL.of {K:Nt}(h:H a=some (.lst xs)):SqL K H a xs:=.inl (.inl h)
theorem SqT.of {K:Nt}(h:H a=some (.tup xs)):SqT K H a xs:=.inl (.inl h)
theorem Inv.list (I:Inv X pins σ H s)(h:SqL X.K H a xs):∃ its:List Nu,Vals xs its/\PlainL s.heap a its.toArray/\xs.length<=sizeLine:=by
 rcases h with h | ⟨o,its,n,hk,hc,hd,hs,hz,r⟩
 ·obtain ⟨z,its,n,r,e⟩:=h.ok I.hok
  exact ⟨its,r,⟨_,n,e,rfl,rfl,rfl⟩,z⟩
 ·refine ⟨its.toList,r,⟨o,n,I.kIn a o hk,hc,hd,by simpa using hs⟩,?_⟩
  have e:=r.length
  simp only[Oa] at e
  omega
theorem Inv.tuple (I:Inv X pins σ H s)(h:SqT X.K H a xs):∃ its:List Nu,Vals xs its/\IsTup s.heap a its.toArray/\xs.length<=sizeLine:=by
 rcases h with h | ⟨o,its,n,hk,hc,hdn,hs,hz,r⟩
 ·obtain ⟨z,its,r,p⟩:=h.ok I.hok
  exact ⟨its,r,p.tup,z⟩
 ·refine ⟨its.toList,r,⟨o,I.kIn a o hk,hc,n,by simpa using hs⟩,?_⟩
  have e:=r.length
  simp only[Oa] at e
  omega
theorem Inv.DQ (I:Inv X pins σ H s)(h:SqL X.K H a xs)(h':SqL X.K H a ys):xs=ys:=by
 obtain ⟨its,r,⟨o,n,e,_,_,d⟩,_⟩:=I.list h
 obtain ⟨its',r',⟨o',n',e',_,_,d'⟩,_⟩:=I.list h'
 rw[e] at e';cases e'
 rw[d] at d'
 injection d' with d1 _
 have:its=its':=by simpa using congrArg Vy d1
 subst this
 exact r.inj r'
theorem Inv.zK (I:Inv X pins σ H s)(h:SqT X.K H a xs)(h':SqT X.K H a ys):xs=ys:=by
 obtain ⟨its,r,⟨o,e,_,n,d⟩,_⟩:=I.tuple h
 obtain ⟨its',r',⟨o',e',_,n',d'⟩,_⟩:=I.tuple h'
 rw[e] at e';cases e'
 rw[d] at d'
 injection d' with d1 _
 have:its=its':=by simpa using congrArg Vy d1
 subst this
 exact r.inj r'
end
abbrev Cx.lN (X:Cx)(E:Nu->Nv->Prop):Cx:={ X with xe:=E }
abbrev Cx.nox (X:Cx):Cx:=X.lN λ_ _=>False
theorem Cx.Ok.lN {X:Cx}(ok:X.Ok)(E:Nu->Nv->Prop):(X.lN E).Ok:=
 ⟨ok.mod,ok.kind,ok.glob,ok.blt,ok.above,ok.inj,ok.has,ok.cab,ok.hd,ok.frames,ok.stk,ok.exf,ok.bs,ok.bsz,ok.BZ,ok.Cp,ok.oM,ok.frf⟩
theorem Cx.Ok.fy {X:Cx}{E:Nu->Nv->Prop}(ok:(X.lN E).Ok):X.Ok:=
 ⟨ok.mod,ok.kind,ok.glob,ok.blt,ok.above,ok.inj,ok.has,ok.cab,ok.hd,ok.frames,ok.stk,ok.exf,ok.bs,ok.bsz,ok.BZ,ok.Cp,ok.oM,ok.frf⟩
section
variable {X:Cx} {pins:List (Addr×Obj)} {σ:St} {H:Hp} {s:Nv} {E:Nu->Nv->Prop}
theorem Inv.lN (I:Inv X pins σ H s)(E:Nu->Nv->Prop):Inv (X.lN E) pins σ H s:=⟨I.ok.lN E,I.os,I.bare,I.base,I.loc,I.cell,I.free,I.gR,I.pin,I.hok,I.len⟩
theorem Inv.fy (I:Inv (X.lN E) pins σ H s):Inv X pins σ H s:=⟨I.ok.fy,I.os,I.bare,I.base,I.loc,I.cell,I.free,I.gR,I.pin,I.hok,I.len⟩
theorem SP.fy {D:Ends}{f:Flow}{s':Nv}(h:SP (X.lN E) pins D f s'):SP X pins D f s':=by
 cases f with
 | next=>obtain ⟨σ',H',I,q⟩:=h;exact ⟨σ',H',I.fy,q⟩
 | brk=>obtain ⟨σ',H',I,q⟩:=h;exact ⟨σ',H',I.fy,q⟩
 | cont=>obtain ⟨σ',H',I,q⟩:=h;exact ⟨σ',H',I.fy,q⟩
 | ret u=>obtain ⟨v,σ',H',I,r,q⟩:=h;exact ⟨v,σ',H',I.fy,r,q⟩
theorem PE.nox {e:NX}{t:TE}(h:PE X.nox e t):PE X e t:=λpins s σ H Q I hw=>
 OQ (h pins s σ H Q (I.lN _) hw) (λ_ _ ⟨v,H',I',r,q⟩=>⟨v,H',I'.fy,r,q⟩) λ_ _ z=>Ny z
theorem PT.nox {e:NX}{t:TT}(h:PT X.nox e t):PT X e t:=λpins s σ H Q I hw=>
 OQ (h pins s σ H Q (I.lN _) hw) (λ_ _ ⟨H',I',q⟩=>⟨H',I'.fy,q⟩) λ_ _ z=>Ny z
theorem PSs.nox {st:List Stmt}{t:TS}(h:PSs X.nox st t):PSs X st t:=λpins s σ H D I hw=>
 OQ (h pins s σ H D (I.lN _) hw) (λ_ _ q=>q.fy) λ_ _ z=>Ny z
end
section
variable {X:Cx} {st:Stmt} {rest:List Stmt} {t u:TS} {e:NX} {te:TE} {pos:Pos}
def KC:TS:=λD σ H=>D.nx σ H
def Mz (t u:TS):TS:=λD σ H=>t { D with nx:=u D } σ H
theorem EC:PSs X [] KC:=λ_ _ σ H _ I h=>QX ⟨σ,H,I,h⟩
theorem Bw (h1:PS X st t)(h2:PSs X rest u):PSs X (st::rest) (Mz t u):=by
 intro pins s σ H D I h
 refine Us (thn (h1 pins s σ H { D with nx:=u D } I h) λf s1 q=>?_)
 cases f with
 | next=>
  obtain ⟨σ',H',I',q⟩:=q
  exact h2 pins s1 σ' H' D I' q
 | ret v=>exact q
 | brk=>exact q
 | cont=>exact q
theorem Gm (h1:PS X st t):PSs X [st] t:=by
 intro pins s σ H D I h
 refine Us (thn (h1 pins s σ H D I h) λf s1 q=>?_)
 cases f with
 | next=>exact QX q
 | ret v=>exact q
 | brk=>exact q
 | cont=>exact q
theorem Inv.quiet {pins:List (Addr×Obj)}{σ:St}{H:Hp}{s:Nv}(I:Inv X pins σ H s):interactive X.env=false:=by simp[interactive,I.ok.kind]
def L1 (te:TE):TS:=λD σ H=>te σ H λ_ H1=>D.nx σ H1
theorem FQ (he:PE X e te)(hs:Rg e none pos.line X.env=pure false:=by rfl):PS X (.Expr e pos) (L1 te):=by
 intro pins s σ H D I h
 exact wpAny_Expr_any (thn (he pins s σ H _ I h) λv s1 ⟨x,H1,I1,r1,q1⟩=>⟨σ,H1,I1,q1⟩) I.quiet hs
def MY (te:TE):TS:=λD σ H=>te σ H D.rt
theorem Ke (he:PE X e te):PS X (.Return (some e) pos) (MY te):=by
 intro pins s σ H D I h
 exact wpAny_Return_some (thn (he pins s σ H _ I h) λv s1 ⟨x,H1,I1,r1,q1⟩=>⟨x,σ,H1,I1,r1,q1⟩)
def My (c:TT)(t u:TS):TS:=λD σ H=>c σ H λb H1=>if b=true then t D σ H1 else u D σ H1
theorem KJ {c:NX}{a b:List Stmt}{tc:TT}(hc:PT X c tc)(ha:PSs X a t)(hb:PSs X b u):PS X (.If c a b pos) (My tc t u):=by
 intro pins s σ H D I h
 refine wpAny_If (thn (hc pins s σ H _ I h) λd s1 ⟨H1,I1,q1⟩=>?_)
 cases d with
 | true=>exact ha pins s1 σ H1 D I1 q1
 | false=>exact hb pins s1 σ H1 D I1 q1
end
abbrev TG:=V->St->Hp->(St->Hp->Prop)->Prop
abbrev TGs:=List V->St->Hp->(St->Hp->Prop)->Prop
def PG (X:Cx)(target:NX)(t:TG):Prop:=
 ∀ (pins:List (Addr×Obj)) (s:Nv) (σ:St) (H:Hp) (v:V) (u:Nu) (Q:St->Hp->Prop),Inv X pins σ H s->RelV v u->t v σ H Q->
  NL (NS X.prog X.w) X.A (RD target X.env u) (λ_ s'=>∃ σ' H',Inv X pins σ' H' s'/\Q σ' H') X.xe s
def PGs (X:Cx)(ts:List NX)(t:TGs):Prop:=
 ∀ (pins:List (Addr×Obj)) (s:Nv) (σ:St) (H:Hp) (vs:List V) (us:List Nu) (Q:St->Hp->Prop),Inv X pins σ H s->Vals vs us->t vs σ H Q->
  NL (NS X.prog X.w) X.A (Tj ((Ph ts X.env).map (·.2)) us) (λ_ s'=>∃ σ' H',Inv X pins σ' H' s'/\Q σ' H') X.xe s
abbrev HB:=V->V->V->Hp->(Hp->Prop)->Prop
def LL (X:Cx)(t:HB):Prop:=
 ∀ (pins:List (Addr×Obj)) (s:Nv) (σ:St) (H:Hp) (o i v:V) (ov iv u:Nu) (Q:Hp->Prop),Inv X pins σ H s->RelV o ov->RelV i iv->RelV v u->t o i v H Q->
  NL (NS X.prog X.w) X.A (setItem ov iv u) (λ_ s'=>∃ H',Inv X pins σ H' s'/\Q H') X.xe s
section
variable {X:Cx} {pos:Pos}
def nN (i:Nat):TG:=λv σ H Q=>Q (σ.set i (some v)) H
theorem mq {i:Nat}{x:Str}(hN:X.N.Nodup)(hi:X.N[i]? = some x)(hx:Loc X.env.scope x)(hf:X.fn x=true∨X.env.scope.names.lookup x=some .local:=by first | exact .inl rfl | exact .inr rfl | assumption):PG X (.Name x pos) (nN i):=by
 intro pins s σ H v u Q I r h
 exact wpAny_assign_Name (jT I hN hi hx r (λs' I'=>⟨_,H,I',h⟩) hf)
def Mv:TGs:=λvs σ H Q=>vs=[]/\Q σ H
def LU (t:TG)(u:TGs):TGs:=λvs σ H Q=>∃ v r,vs=v::r/\t v σ H λσ' H'=>u r σ' H' Q
theorem El:PGs X [] Mv:=by
 intro pins s σ H vs us Q I r h
 obtain ⟨e,h⟩:=h
 subst e
 cases r
 exact TX ⟨σ,H,I,h⟩
theorem Dl {e:NX}{es:List NX}{t:TG}{u:TGs}(h1:PG X e t)(h2:PGs X es u)
  (hs:(Ph (e::es) X.env).map (·.2)=RD e X.env::(Ph es X.env).map (·.2):=by rfl):PGs X (e::es) (LU t u):=by
 intro pins s σ H vs us Q I r h
 obtain ⟨v,vr,e1,h⟩:=h
 subst e1
 cases r with
 | cons r rr=>
  rw[hs]
  refine Ri (thn (h1 pins s σ H _ _ _ I r h) λ_ s1 ⟨σ1,H1,I1,q1⟩=>?_)
  exact h2 pins s1 σ1 H1 _ _ Q I1 rr q1
def Mt (K:Nt)(n:Nat)(t:TGs):TG:=λv σ H Q=>∃ a xs,v=.ref a/\SqT K H a xs/\xs.length=n/\t xs σ H Q
theorem JV {es:List NX}{k:Nat}{t:TGs}{n:Nat}(hc:X.calm=true)(h:PGs X es t)
  (hn:(Ph es X.env).length=n:=by rfl) (hst:(Ph es X.env).findIdx? (·.1)=none:=by rfl):PG X (.Tuple es k pos) (Mt X.K n t):=by
 intro pins s σ H v u Q I r hw
 obtain ⟨a,xs,e1,hq,hl,hw⟩:=hw
 subst e1
 cases r
 obtain ⟨its,rv,ht,hz⟩:=I.tuple hq
 refine assign_Tuple_tuple (I.ok.hd hc) ht (by simp[hn,← hl,rv.length]) hst λh' hx=>?_
 have I1:Inv X pins σ H { s with heap:=h' }:=I.kept (t':=s.toks) λb o e=>hx b o (NP (NG e)) e
 exact h pins _ σ H xs _ Q I1 (by simpa using rv) hw
def Na (to ti:TE)(t:HB):TG:=λv σ H Q=>to σ H λo H1=>ti σ H1 λi H2=>t o i v H2 λH3=>Q σ H3
theorem Kh {o i:NX}{to ti:TE}{t:HB}(ho:PE X o to)(hi:PE X i ti)(hs:LL X t)
  (ha:∀ v,RD (.Subscript o i pos) X.env v=(do
   let ov ← Ry [v] (OF o X.env)
   let iv ← Ry [v,ov] (OF i X.env)
   standAt pos
   Ry [v,ov,iv] (setItem ov iv v)
   release [v,ov,iv] []):=by intro _;rfl):PG X (.Subscript o i pos) (Na to ti t):=by
 intro pins s σ H v u Q I r h
 rw[ha]
 refine wpAny_bind (wpAny_holding (thn (ho pins s σ H _ I h) λov s1 ⟨x,H1,I1,r1,q1⟩=>?_))
 refine wpAny_bind (wpAny_holding (thn (hi pins s1 σ H1 _ I1 q1) λiv s2 ⟨y,H2,I2,r2,q2⟩=>?_))
 refine wpAny_bind (RE (wpAny_bind (wpAny_holding (thn (hs pins s2 σ H2 x y v ov iv u _ I2 r1 r2 r q2) λ_ s3 ⟨H3,I3,q3⟩=>?_))))
 exact wpAny_release ⟨σ,H3,I3,q3⟩
def EV (te:TE)(g:TG):TS:=λD σ H=>te σ H λx H1=>g x σ H1 D.nx
theorem D0 {tg e:NX}{te:TE}{g:TG}(he:PE X e te)(hg:PG X tg g)(hs:QL [tg] e pos.line X.env=pure false:=by rfl)(hw:QM [tg] e X.env=pure none:=by rfl)
  (h1:(Ph [tg] X.env).map (·.2)=[RD tg X.env]:=by rfl):PS X (.Assign [tg] e pos) (EV te g):=by
 intro pins s σ H D I h
 refine wpAny_Assign_stores (thn (he pins s σ H _ I h) λv s1 ⟨x,H1,I1,r1,q1⟩=>?_) hs hw
 rw[h1]
 exact thn (hg pins s1 σ H1 x v _ I1 r1 q1) λ_ s2 q=>q
theorem Ii {i:Nat}{x:Str}{e:NX}{te:TE}{pos':Pos}(hN:X.N.Nodup)(hi:X.N[i]? = some x)(hx:Loc X.env.scope x)(he:PE X e te)(hs:Rg e (some (.Name x pos')) pos.line X.env=pure false:=by rfl)(hf:X.fn x=true∨X.env.scope.names.lookup x=some .local:=by first | exact .inl rfl | exact .inr rfl | assumption) :
  PS X (.Assign [.Name x pos'] e pos) (EV te (nN i)):=by
 intro pins s σ H D I h
 refine wpAny_Assign_Name (thn (he pins s σ H _ I h) λv s1 ⟨y,H1,I1,r1,q1⟩=>?_) hs
 exact jT I1 hN hi hx r1 (λs2 I2=>⟨_,H1,I2,q1⟩) hf
def M8 (i j:Nat)(ta:TA):TS:=λD σ H=>ta σ H λvs H1=>∃ v w,vs=[v,w]/\D.nx ((σ.set i (some v)).set j (some w)) H1
theorem HK {i j:Nat}{x y:Str}{a b:NX}{ta:TA}{px py pt:Pos}{kt k2 pt2}(hc:X.calm=true)(hN:X.N.Nodup)(hi:X.N[i]? = some x)(hj:X.N[j]? = some y)(hij:i≠j)
  (hx:X.env.scope.names.lookup x=some .local) (hy:X.env.scope.names.lookup y=some .local) (ha:PA X [a,b] ta)
  (hw:QM [.Tuple [.Name x px,.Name y py] kt pt] (.Tuple [a,b] k2 pt2) X.env=pure (some [x,y]))
  (hs:QL [.Tuple [.Name x px,.Name y py] kt pt] (.Tuple [a,b] k2 pt2) pos.line X.env=pure false:=by rfl) :
  PS X (.Assign [.Tuple [.Name x px,.Name y py] kt pt] (.Tuple [a,b] k2 pt2) pos) (M8 i j ta):=by
 intro pins s σ H D I h
 rw[exec_Assign_arm]
 refine wpAny_bind (RE ?_)
 rw[hs]
 refine wpAny_bind (wpAny_pure ?_)
 rw[if_neg (by decide)]
 refine wpAny_bind (Tuple_ (thn (ha _ pins s σ H _ I h) λus s1 ⟨vs,H1,I1,r1,q1⟩=>?_))
 obtain ⟨v,w,e1,q1⟩:=q1
 subst e1
 obtain ⟨u1,u2,rfl,rv,rw'⟩:∃ u1 u2,us=[u1,u2]/\RelV v u1/\RelV w u2:=by
  cases r1 with
  | cons p q=>
   cases q with
   | cons p' q'=>
    cases q'
    exact ⟨_,_,rfl,p,p'⟩
 refine OA ?_ (by show 2<=sizeLine;decide)
 have I2:Inv X pins σ H1 { s1 with heap:=s1.heap.push { cls:=.type "tuple", data:=.seq [u1,u2].toArray } }:=I1.kept (t':=s1.toks) λb o e=>Nw _ e
 rw[hw]
 refine wpAny_bind (wpAny_pure ?_)
 show NL (NS X.prog X.w) X.A (do rule "assign.swapped-stores";let items ← unpackItems (.ref s1.heap.objs.size) 2 none;Tj [λv=>U2 X.env y v,λv=>U2 X.env x v] items.reverse;pure Flow.next) _ _ _
 refine wpAny_bind (wpAny_rule (wpAny_bind (unpackItems_tuple (items:=#[u1,u2]) (I.ok.hd hc) (IsTup.new s1.heap _) λh' hx'=>?_)))
 have I3:=I2.kept (h':=h') (t':=s1.toks) λb o e=>hx' b o (NP (NG e)) e
 show NL _ _ (Tj [λv=>U2 X.env y v,λv=>U2 X.env x v] [u2,u1] >>= λ_=>pure Flow.next) _ _ _
 refine wpAny_bind (Ri (wpAny_bindName (jT I3 hN hj (.inl hy) rw' (λs2 I4=>?_) (.inr hy))))
 refine Ri (wpAny_bindName (jT I4 hN hi (.inl hx) rv (λs3 I5=>TX (wpAny_pure ?_)) (.inr hx)))
 rw[List.set_comm _ _ (PC hij)] at I5
 exact ⟨_,H1,I5,q1⟩
end
section
variable {X:Cx} {pos:Pos}
def Ht (c:TT)(tb:TS):TS:=λD σ H=>∃ W:Nat->St->Hp->Prop,(∃ m,W m σ H)/\∀ m σ H,W m σ H->
 c σ H λb H1=>if b=true then ∃ N:St->Hp->Prop,(∀ σ' H',N σ' H'->∃ m',m' < m/\W m' σ' H')/\tb { D with nx:=N,ct:=N,bk:=D.nx } σ H1 else D.nx σ H1
theorem Be {c:NX}{body:List Stmt}{tc:TT}{tb:TS}(hp:Ut (NS X.prog X.w) X.A X.env X.xe)(hc:PT X c tc)(hb:PSs X body tb):PS X (.While c body [] pos) (Ht tc tb):=by
 intro pins s σ H D I h
 obtain ⟨W,⟨m0,w0⟩,turn⟩:=h
 refine wpAny_While (codeAny_whileLoop (λn s'=>∃ σ' H',Inv X pins σ' H' s'/\W n σ' H') ?_ m0 ⟨σ,H,I,w0⟩)
 rintro n s1 ⟨σ1,H1,I1,w1⟩
 refine Po hp (thn (hc pins s1 σ1 H1 _ I1 (turn n σ1 H1 w1)) λb s2 ⟨H2,I2,q2⟩=>?_)
 cases b with
 | true=>
  obtain ⟨N,hN,q2⟩:=q2
  rw[if_pos rfl]
  refine Po hp (thn (hb pins s2 σ1 H2 _ I2 q2) λf s3 q3=>?_)
  cases f with
  | next=>
   obtain ⟨σ3,H3,I3,n3⟩:=q3
   obtain ⟨m',hm,w3⟩:=hN σ3 H3 n3
   exact ⟨m',hm,σ3,H3,I3,w3⟩
  | cont=>
   obtain ⟨σ3,H3,I3,n3⟩:=q3
   obtain ⟨m',hm,w3⟩:=hN σ3 H3 n3
   exact ⟨m',hm,σ3,H3,I3,w3⟩
  | brk=>exact q3
  | ret v=>exact q3
 | false=>
  rw[if_neg Rj]
  exact QX ⟨σ1,H2,I2,q2⟩
end
structure It where
 go:Nat->Hp->Prop
 yld:Nat->Hp->V->Hp->Prop
 stop:Nat->Hp->Prop
def mH (X:Cx)(pins:List (Addr×Obj))(H:Hp)(b:Addr):Prop:=
 H b=none/\b≠X.env.locals/\b ∉ X.fs/\(b∈X.ex∨X.s₀.heap.objs.size<=b)/\(∀ x c,X.env.cells.lookup x=some c->c≠b)/\∀ p∈X.pn++pins,p.1≠b
theorem Inv.Gw {X:Cx}{pins:List (Addr×Obj)}{σ:St}{H H':Hp}{s:Nv}{b:Addr}(I:Inv X pins σ H s)(hb:s.heap.objs.size<=b)(hn:H' b=none):mH X pins H' b:=by
 refine ⟨hn,Qr (NV I.lt hb),I.MZ hb,.inr (OD I.sz hb),λx c e z=>?_,λp hp z=>?_⟩
 ·obtain ⟨v,q⟩:=I.cell x c e
  exact absurd (NV q.lt (by rw[z];exact hb)) (Px _)
 ·exact absurd (NV (NG (I.pin p hp).1) (by rw[z];exact hb)) (Px _)
structure Turn (P:NO) (w:N0) (K:Nt) (tg:NX) (J:It) (fp:List Addr) (it:Addr) (tn:Nat->Heap->Prop):Prop where
 mem:it∈fp
 obj:∀ i h,tn i h->∀ b∈fp,∃ o,h.get? b=some o/\∀ v,o.data≠.cell v
 keep:∀ i h h',tn i h->(∀ b∈fp,∀ o,h.get? b=some o->h'.get? b=some o)->tn i h'
 item:∀ (X:Cx),X.prog=P->X.w=w->X.K=K->X.calm=true->∀ (i:Nat) (pins:List (Addr×Obj)) (s:Nv) (σ:St) (H:Hp) (E:Nu->Nv->Prop),Inv X pins σ H s->(∀ b∈fp,mH X pins H b)->tn i s.heap->J.go i H->
  NL (NS P w) X.A (Qs (.ref it)) (λr s1=>∃ u,r=some u/\
   NL (NS P w) X.A (QY tg (.ref it) u) (λ_ s2=>∃ x H',Inv X pins σ H' s2/\RelV x u/\J.yld i H x H'/\tn (i+1) s2.heap/\∀ b∈fp,H' b=none) E s1) E s
 done:∀ (X:Cx),X.prog=P->X.w=w->X.K=K->X.calm=true->∀ (i:Nat) (pins:List (Addr×Obj)) (s:Nv) (σ:St) (H:Hp) (E:Nu->Nv->Prop),Inv X pins σ H s->(∀ b∈fp,mH X pins H b)->tn i s.heap->J.stop i H->
  NL (NS P w) X.A (Qs (.ref it)) (λr s1=>r=none/\Inv X pins σ H s1) E s
 self:∀ (A:NY) (i:Nat) (s:Nv) (Q:Nu->Nv->Prop) (E:Nu->Nv->Prop),tn i s.heap->Q (.ref it) s->NL (NS P w) A (Uu (.ref it)) Q E s
abbrev TI:=St->Hp->(It->Hp->Prop)->Prop
def PIE (X:Cx)(pins:List (Addr×Obj))(σ:St)(tg:NX)(R:It->Hp->Prop)(itv:Nu)(s2:Nv):Prop:=
 ∃ (it:Addr) (fp:List Addr) (tn:Nat->Heap->Prop) (J:It) (H':Hp),itv=.ref it/\Inv X pins σ H' s2/\Turn X.prog X.w X.K tg J fp it tn/\tn 0 s2.heap/\(∀ b∈fp,mH X pins H' b)/\R J H'
def PI (X:Cx)(tg iter:NX)(wi:TI):Prop:=
 ∀ (pins:List (Addr×Obj)) (s:Nv) (σ:St) (H:Hp) (R:It->Hp->Prop),Inv X pins σ H s->wi σ H R->
  NL (NS X.prog X.w) X.A (OF iter X.env) (λv s1=>NL (NS X.prog X.w) X.A (Uu v) (PIE X pins σ tg R) X.xe s1) X.xe s
theorem y8 {M:U0}{A:NY}{E:Nu->Nv->Prop}{s:Nv}{tg:NX}{it:Addr}{u:Nu}{o:Obj}{n:String}{vs:Array Nu}{Q:Unit->Nv->Prop}(ho:s.heap.get? it=some o)(hc:o.cls=.type n)(hd:o.data=.fields vs)
  (hn:["enumerate", "zip", "dict_itemiterator", "dict_reverseitemiterator", "odict_iterator", "itertools.zip_longest", "itertools.pairwise"].contains n=false) (hQ:Q () s):NL M A (QY tg (.ref it) u) Q E s:=by
 unfold QY
 cases tg<;>first
  | exact wpAny_pure hQ
  | (cases u<;>first
    | exact wpAny_pure hQ
    | (refine wpAny_bind (U3 ho ?_)
       rw[hc,hd]
       show NL M A (if (["enumerate", "zip", "dict_itemiterator", "dict_reverseitemiterator", "odict_iterator", "itertools.zip_longest", "itertools.pairwise"].contains n&&vs[0]? == some (P9 _))=true then _ else _) Q E s
       rw[if_neg (by intro h;rw[hn,NM] at h;cases h)]
       exact wpAny_pure hQ))
def Itl (K:Nt)(a:Addr):It:=
 ⟨λi H=>∃ xs x,SqL K H a xs/\xs[i]? = some x,λi H x H'=>H'=H/\∀ xs,SqL K H a xs->xs[i]? = some x,λi H=>∃ xs,SqL K H a xs/\xs.length<=i⟩
def Itt (K:Nt)(a:Addr):It:=
 ⟨λi H=>∃ xs x,SqT K H a xs/\xs[i]? = some x,λi H x H'=>H'=H/\∀ xs,SqT K H a xs->xs[i]? = some x,λi H=>∃ xs,SqT K H a xs/\xs.length<=i⟩
def Itr (lo:Int)(n:Nat):It:=⟨λi _=>i < n,λi H x H'=>H'=H/\x=.int (lo+i),λi _=>n<=i⟩
theorem z5 {P:NO}{w:N0}{K:Nt}{tg:NX}(a it:Addr):Turn P w K tg (Itl K a) [it] it (λi h=>h.IsListIter it a i) where
 mem:=by simp
 obj:=λi h st b hb=>by
  have e:b=it:=by simpa using hb
  subst e
  obtain ⟨o,e,c,d⟩:=st
  exact ⟨o,e,λv z=>by rw[d] at z;cases z⟩
 keep:=λi h h' st k=>st.at λo e=>k it (by simp) o e
 item:=by
  intro X hP hw hK hc i pins s σ H E I hf st hg
  subst hP hw hK
  obtain ⟨xs,x,hq,hx⟩:=hg
  obtain ⟨its,rv,p,hz⟩:=I.list hq
  obtain ⟨u,hu,ru⟩:=rv.get hx
  obtain ⟨f0,f1,f2,f3,f4,f5⟩:=hf it (by simp)
  refine R5 st p.isList (x:=u) (by simpa using hu) λh' st' sb=>?_
  have I1:Inv X pins σ H { s with heap:=h' }:=I.turned (t':=s.toks) (λb o hb e=>(sb.2 b hb).trans e) f0 f1 f3 f4 f5
  obtain ⟨o,e,c,d⟩:=id st'
  exact ⟨u,rfl,y8 (s:={ s with heap:=h' }) e c d (by decide) ⟨x,H,I1,ru,⟨rfl,λys hy=>by rw[I.DQ hy hq];exact hx⟩,st',λb hb=>(hf b hb).1⟩⟩
 done:=by
  intro X hP hw hK hc i pins s σ H E I hf st hg
  subst hP hw hK
  obtain ⟨xs,hq,hx⟩:=hg
  obtain ⟨its,rv,p,hz⟩:=I.list hq
  obtain ⟨f0,f1,f2,f3,f4,f5⟩:=hf it (by simp)
  have hl:=rv.length
  exact Sw (I.ok.hd hc) st p.isList (by simp;omega) λh' eb=>⟨rfl,I.turned (t':=s.toks) (λb o hb e=>eb b o hb e) f0 f1 f3 f4 f5⟩
 self:=λ_ _ _ _ _ st h=>wpAny_pyIter_listiter st h
theorem w8 {P:NO}{w:N0}{K:Nt}{tg:NX}(a it:Addr):Turn P w K tg (Itt K a) [it] it (λi h=>h.IsTupleIter it a i) where
 mem:=by simp
 obj:=λi h st b hb=>by
  have e:b=it:=by simpa using hb
  subst e
  obtain ⟨o,e,c,d⟩:=st
  exact ⟨o,e,λv z=>by rw[d] at z;cases z⟩
 keep:=λi h h' st k=>st.at λo e=>k it (by simp) o e
 item:=by
  intro X hP hw hK hc i pins s σ H E I hf st hg
  subst hP hw hK
  obtain ⟨xs,x,hq,hx⟩:=hg
  obtain ⟨its,rv,p,hz⟩:=I.tuple hq
  obtain ⟨u,hu,ru⟩:=rv.get hx
  obtain ⟨f0,f1,f2,f3,f4,f5⟩:=hf it (by simp)
  refine wpAny_pyNext_tuple_item st (show s.heap.IsTuple a its.toArray from p) (x:=u) (by simpa using hu) λh' st' sb=>?_
  have I1:Inv X pins σ H { s with heap:=h' }:=I.turned (t':=s.toks) (λb o hb e=>(sb.2 b hb).trans e) f0 f1 f3 f4 f5
  obtain ⟨o,e,c,d⟩:=id st'
  exact ⟨u,rfl,y8 (s:={ s with heap:=h' }) e c d (by decide) ⟨x,H,I1,ru,⟨rfl,λys hy=>by rw[I.zK hy hq];exact hx⟩,st',λb hb=>(hf b hb).1⟩⟩
 done:=by
  intro X hP hw hK hc i pins s σ H E I hf st hg
  subst hP hw hK
  obtain ⟨xs,hq,hx⟩:=hg
  obtain ⟨its,rv,p,hz⟩:=I.tuple hq
  obtain ⟨f0,f1,f2,f3,f4,f5⟩:=hf it (by simp)
  have hl:=rv.length
  exact wpAny_pyNext_tuple_end (I.ok.hd hc) st (show s.heap.IsTuple a its.toArray from p) (by simp;omega) λh' eb=>⟨rfl,I.turned (t':=s.toks) (λb o hb e=>eb b o hb e) f0 f1 f3 f4 f5⟩
 self:=λ_ _ _ _ _ st h=>wpAny_pyIter_tupleiter st h
theorem vW {P:NO}{w:N0}{K:Nt}{tg:NX}(it:Addr)(lo:Int)(n:Nat):Turn P w K tg (Itr lo n) [it] it (λi h=>IsRangeIter h it (lo+(i:Nat)*1) ((n:Int) - (i:Nat)) 1) where
 mem:=by simp
 obj:=λi h st b hb=>by
  have e:b=it:=by simpa using hb
  subst e
  exact ⟨_,st,λv z=>by
   have z':Data.fields _=Data.cell v:=z
   cases z'⟩
 keep:=λi h h' st k=>k it (by simp) _ st
 item:=by
  intro X hP hw hK hc i pins s σ H E I hf st hg
  subst hP hw hK
  obtain ⟨f0,f1,f2,f3,f4,f5⟩:=hf it (by simp)
  have W:=Walks.range (prog:=X.prog) (w:=X.w) (I.ok.hd hc) it lo 1 n
  refine W.item i s _ _ hg st λv h' tk hv st' kk=>?_
  obtain ⟨t,rfl⟩:=hv
  have I1:Inv X pins σ H { s with heap:=h',toks:=tk }:=I.turned (λb o hb e=>kk b o (by simpa using hb) e) f0 f1 f3 f4 f5
  refine ⟨_,rfl,y8 (s:={ s with heap:=h',toks:=tk }) (n := "range_iterator") st' rfl rfl (by decide) ⟨.int (lo+i),H,I1,⟨t,?_⟩,⟨rfl,rfl⟩,st',λb hb=>(hf b hb).1⟩⟩
  rw[Int.mul_one]
 done:=by
  intro X hP hw hK hc i pins s σ H E I hf st hg
  subst hP hw hK
  obtain ⟨f0,f1,f2,f3,f4,f5⟩:=hf it (by simp)
  exact wpAny_pyNext_range_end (I.ok.hd hc) st (by have:n<=i:=hg;omega) λh' eb=>⟨rfl,I.turned (t':=s.toks) (λb o hb e=>eb b o hb e) f0 f1 f3 f4 f5⟩
 self:=λ_ _ _ _ _ st h=>wpAny_pyIter_rangeiter st h
end L2
namespace L2
open PySem PySem.Spec PyProof.Rows
section
variable {X:Cx} {tg:NX}
theorem Dv {pins:List (Addr×Obj)}{σ:St}{H:Hp}{s:Nv}{R:It->Hp->Prop}{E:Nu->Nv->Prop}{lo hi:Int}{t u v:Tok}{tk:Nat}(I:Inv X pins σ H s)(h1:-(2 ^ 62)<=lo)(h2:lo < 2 ^ 62)(h3:-(2 ^ 62)<=hi)(h4:hi < 2 ^ 62)
  (q:R (Itr lo (hi - lo).toNat) H):NL (NS X.prog X.w) X.A (Uu (.ref s.heap.objs.size)) (PIE X pins σ tg R) E { s with heap:=s.heap.push { cls:=.type "range", data:=.fields #[.int lo t,.int hi u,.int 1 v] },toks:=tk }:=by
 refine wpAny_pyIter_range (IsRange.new ..) (small_one h1 h2 h3 h4) ?_
 have I1:Inv X pins σ H { s with heap:=s.heap.push { cls:=.type "range", data:=.fields #[.int lo t,.int hi u,.int 1 v] },toks:=tk }:=I.kept λb o e=>Nw _ e
 refine ⟨(s.heap.push { cls:=.type "range", data:=.fields #[.int lo t,.int hi u,.int 1 v] }).objs.size,[(s.heap.push { cls:=.type "range", data:=.fields #[.int lo t,.int hi u,.int 1 v] }).objs.size],_,_,H,rfl,
  I1.kept (t':=tk) λb o e=>Nw _ e,vW _ lo (hi - lo).toNat,?_,λb hb=>?_,q⟩
 ·have e1:lo+((0:Nat):Int)*1=lo:=by simp
  have e2:(((hi - lo).toNat:Nat):Int) - ((0:Nat):Int)=Vw lo hi 1:=by rw[rangeSize_one];split<;>omega
  show IsRangeIter _ _ (lo+((0:Nat):Int)*1) ((((hi - lo).toNat:Nat):Int) - ((0:Nat):Int)) 1
  rw[e1,e2]
  exact NH _ rfl
 ·have e:b=(s.heap.push { cls:=.type "range", data:=.fields #[.int lo t,.int hi u,.int 1 v] }).objs.size:=by simpa using hb
  subst e
  exact I1.Gw (NN _) (I1.hok.fresh (NN _))
def K0 (ta:TA):TI:=λσ H R=>ta σ H λvs H1=>∃ j:Int,vs=[.int j]/\-(2 ^ 62)<=j/\j < 2 ^ 62/\R (Itr 0 j.toNat) H1
theorem Ag {a:NX}{ta:TA}{p pos:Pos}(hg:Gl X "range")(hm:X.mg "range" = none)(ha:PA X [a] ta)(hs:Nx [a] X.env=[(false,OF a X.env)]:=by rfl):PI X tg (.Call (.Name "range" p) [a] [] pos) (K0 ta):=by
 intro pins s σ H R I h
 refine Call_ (gy I hg hm boot_range (OO (thn (ha pos pins s σ H _ I h) λus s1 ⟨vs,H1,I1,r1,q1⟩=>?_) hs rfl))
 obtain ⟨j,e,q1,q2,q⟩:=q1
 subst e
 cases r1 with
 | cons r rr=>
  cases rr
  obtain ⟨t,rfl⟩:=r
  exact call_range_1 (Dv I1 (by omega) (by omega) q1 q2 (by simpa using q))
def MF (wi:TI)(g:TG)(tb:TS):TS:=λD σ H=>wi σ H λJ H1=>∃ W:Nat->Nat->St->Hp->Prop,(∃ m,W 0 m σ H1)/\∀ i m σ H,W i m σ H->
 (J.stop i H/\D.nx σ H)∨(J.go i H/\∃ N:St->Hp->Prop,(∀ σ' H',N σ' H'->∃ m',m' < m/\W (i+1) m' σ' H')/\∀ x H',J.yld i H x H'->g x σ H' λσ2 H2=>tb { D with nx:=N,ct:=N,bk:=D.nx } σ2 H2)
def mE (fp:List Addr)(h:Heap):List (Addr×Obj):=fp.filterMap λb=>(h.get? b).map λo=>(b,o)
theorem e8 {fp:List Addr}{h:Heap}{b:Addr}{o:Obj}(hb:b∈fp)(e:h.get? b=some o):(b,o)∈mE fp h:=TL.mpr ⟨b,hb,by rw[e];rfl⟩
theorem Ap {fp:List Addr}{h:Heap}{p:Addr×Obj}(hp:p∈mE fp h):p.1∈fp/\h.get? p.1=some p.2:=by
 obtain ⟨b,hb,e⟩:=TL.mp hp
 cases q:h.get? b with
 | none=>rw[q] at e;cases e
 | some o=>
  rw[q] at e
  have e':(b,o)=p:=Oc e
  subst e'
  exact ⟨hb,q⟩
theorem Inv.pinned {pins:List (Addr×Obj)}{σ:St}{H:Hp}{s:Nv}{fp:List Addr}(I:Inv X pins σ H s)(hf:∀ b∈fp,mH X pins H b)(ho:∀ b∈fp,∃ o,s.heap.get? b=some o/\∀ v,o.data≠.cell v):Inv X (pins++mE fp s.heap) σ H s:=
 I.yM λp hp=>(N1.mp hp).elim (λz=>I.pin p (NR _ z)) λz=>by
  obtain ⟨hb,e⟩:=Ap z
  obtain ⟨f0,f1,f2,_⟩:=hf p.1 hb
  obtain ⟨o,e',d⟩:=ho p.1 hb
  rw[e] at e';cases e'
  exact ⟨e,f0,f1,f2,d⟩
theorem Inv.iD {pins pl:List (Addr×Obj)}{σ:St}{H:Hp}{s:Nv}(I:Inv X (pins++pl) σ H s):Inv X pins σ H s:=I.yM λp hp=>I.pin p (NR _ (SG _ hp))
theorem Kf {iter:NX}{body:List Stmt}{wi:TI}{g:TG}{tb:TS}{pos:Pos}(hp:Ut (NS X.prog X.w) X.A X.env X.xe)(hc:X.calm=true)(hi:PI X tg iter wi)(hg:PG X tg g)(hb:PSs X body tb)
  (hs:∀ x,OJ iter X.env x=pure x:=by intro _;rfl):PS X (.For tg iter body [] pos) (MF wi g tb):=by
 intro pins s σ H D I h
 refine wpAny_For (thn (hi pins s σ H _ I h) λv s1 h1=>thn h1 λitv s2 h2=>?_) hs
 obtain ⟨it,fp,tn,J,H2,e,I2,T,st2,f2,W,⟨m0,w0⟩,turn⟩:=h2
 subst e
 -- what stays true of the iterator's objects through the loop
 have wJ:∀ {H':Hp},(∀ b∈fp,H' b=none)->∀ b∈fp,mH X pins H' b:=λhn b hb=>⟨hn b hb,(f2 b hb).2⟩
 refine codeAny_forLoop_any (λn s'=>∃ i σ' H',Inv X pins σ' H' s'/\tn i s'.heap/\(∀ b∈fp,H' b=none)/\W i n σ' H') ?_ m0 ⟨0,σ,H2,I2,st2,λb hb=>(f2 b hb).1,w0⟩
 rintro n s3 ⟨i,σ3,H3,I3,st3,fr3,w3⟩
 rcases turn i n σ3 H3 w3 with ⟨stop,qn⟩ | ⟨go,N,hN,step⟩
 ·refine Po hp (thn (T.done X rfl rfl rfl hc i pins s3 σ3 H3 X.xe I3 (wJ fr3) st3 stop) λr s4 ⟨hr,I4⟩=>?_)
  subst hr
  exact QX ⟨σ3,H3,I4,qn⟩
 ·refine Po hp (thn (T.item X rfl rfl rfl hc i pins s3 σ3 H3 X.xe I3 (wJ fr3) st3 go) λr s4 ⟨u,hr,h4⟩=>?_)
  subst hr
  refine Po hp (thn h4 λ_ s5 ⟨x,H5,I5,r5,y5,st5,fr5⟩=>?_)
  have I5':=I5.pinned (wJ fr5) (T.obj _ _ st5)
  refine Po hp (thn (hg _ s5 σ3 H5 x u _ I5' r5 (step x H5 y5)) λ_ s6 ⟨σ6,H6,I6,q6⟩=>?_)
  refine Po hp (thn (hb _ s6 σ6 H6 _ I6 q6) λf s7 q7=>?_)
  have again:∀ {σ7:St} {H7:Hp},Inv X (pins++mE fp s5.heap) σ7 H7 s7->N σ7 H7->∃ m,m < n/\∃ i σ' H',Inv X pins σ' H' s7/\tn i s7.heap/\(∀ b∈fp,H' b=none)/\W i m σ' H':=λ{σ7 H7} I7 n7=>by
   obtain ⟨m',hm,w7⟩:=hN σ7 H7 n7
   refine ⟨m',hm,i+1,σ7,H7,I7.iD,T.keep _ _ _ st5 λb hb o e=>(I7.pin (b,o) (NR _ (NR _ (e8 hb e)))).1,λb hb=>?_,w7⟩
   obtain ⟨o,e,d⟩:=T.obj _ _ st5 b hb
   exact (I7.pin (b,o) (NR _ (NR _ (e8 hb e)))).2.1
  cases f with
  | next=>obtain ⟨σ7,H7,I7,n7⟩:=q7;exact again I7 n7
  | cont=>obtain ⟨σ7,H7,I7,n7⟩:=q7;exact again I7 n7
  | brk=>obtain ⟨σ7,H7,I7,q7⟩:=q7;exact ⟨σ7,H7,I7.iD,q7⟩
  | ret v=>obtain ⟨x7,σ7,H7,I7,r7,q7⟩:=q7;exact ⟨x7,σ7,H7,I7.iD,r7,q7⟩
end
end L2
namespace L2
open PySem PySem.Spec PyProof.Rows
abbrev R2:=V->V->Hp->VK->Prop
def OpR (X:Cx)(f:Nu->Nu->Sem Nu)(r:R2):Prop:=
 ∀ (pins:List (Addr×Obj)) (s:Nv) (σ:St) (H:Hp) (x y:V) (v u:Nu) (Q:VK),Inv X pins σ H s->RelV x v->RelV y u->r x y H Q->
  NL (NS X.prog X.w) X.A (f v u) (EP X pins σ Q) X.xe s
def UnR (X:Cx)(f:Nu->Sem Nu)(r:V->Hp->VK->Prop):Prop:=
 ∀ (pins:List (Addr×Obj)) (s:Nv) (σ:St) (H:Hp) (x:V) (v:Nu) (Q:VK),Inv X pins σ H s->RelV x v->r x H Q->
  NL (NS X.prog X.w) X.A (f v) (EP X pins σ Q) X.xe s
def b8 (X:Cx)(f:Nu)(r:List V->Hp->VK->Prop):Prop:=
 ∀ (pins:List (Addr×Obj)) (s:Nv) (σ:St) (H:Hp) (xs:List V) (us:List Nu) (Q:VK),Inv X pins σ H s->Vals xs us->r xs H Q->
  NL (NS X.prog X.w) X.A (call f us) (EP X pins σ Q) X.xe s
def tOp (r:R2)(ta tb:TE):TE:=λσ H Q=>ta σ H λx H1=>tb σ H1 λy H2=>r x y H2 Q
def tUn (r:V->Hp->VK->Prop)(ta:TE):TE:=λσ H Q=>ta σ H λx H1=>r x H1 Q
def rI (C:Int->Int->Prop)(g:Int->Int->V):R2:=λx y H Q=>∃ i j,x=.int i/\y=.int j/\C i j/\Q (g i j) H
def rI0 (g:Int->Int->V):R2:=λx y H Q=>∃ i j,x=.int i/\y=.int j/\Q (g i j) H
def rU (g:Int->V):V->Hp->VK->Prop:=λx H Q=>∃ i,x=.int i/\Q (g i) H
section
variable {X:Cx} {a b c:NX} {ta tb tc:TE} {pos:Pos}
theorem J3 (ha:PE X a ta)(hb:PE X b tb){pins:List (Addr×Obj)}{s:Nv}{σ:St}{H:Hp}{R:V->V->Hp->Prop}(I:Inv X pins σ H s)
  (h:ta σ H λx H1=>tb σ H1 λy H2=>R x y H2) {Q:Nu->Nv->Prop} {f:Nu->Nu->Sem Nu}
  (hf:∀ v u s2 x y H2,Inv X pins σ H2 s2->RelV x v->RelV y u->R x y H2->NL (NS X.prog X.w) X.A (f v u) Q X.xe s2) :
  NL (NS X.prog X.w) X.A (OF a X.env) (λv s₁=>NL (NS X.prog X.w) X.A (OF b X.env) (λu s₂=>NL (NS X.prog X.w) X.A (f v u) Q X.xe s₂) X.xe s₁) X.xe s:=by
 refine thn (ha pins s σ H _ I h) λv s1 ⟨x,H1,I1,r1,q1⟩=>?_
 refine thn (hb pins s1 σ H1 _ I1 q1) λu s2 ⟨y,H2,I2,r2,q2⟩=>?_
 exact hf v u s2 x y H2 I2 r1 r2 q2
theorem Hc {op:Operator}{r:R2}(ho:OpR X (Pq op) r)(ha:PE X a ta)(hb:PE X b tb):PE X (.BinOp a op b pos) (tOp r ta tb):=by
 intro pins s σ H Q I h
 exact wpAny_BinOp (J3 ha hb I h λv u s2 x y H2 I2 rx ry q=>ho pins s2 σ H2 x y v u Q I2 rx ry q)
theorem L7 {op:UnaryOp}{r:V->Hp->VK->Prop}(ho:UnR X (unaryOp op) r)(ha:PE X a ta):PE X (.UnaryOp op a pos) (tUn r ta):=by
 intro pins s σ H Q I h
 exact UnaryOp_ (thn (ha pins s σ H _ I h) λv s1 ⟨x,H1,I1,r1,q1⟩=>ho pins s1 σ H1 x v Q I1 r1 q1)
theorem opI {f:Nu->Nu->Sem Nu}{C:Int->Int->Prop}{g:Int->Int->Int}
  (rule:∀ (i j:Int) (t u:Tok) (s:Nv) (Q:Nu->Nv->Prop) (E:Nu->Nv->Prop),C i j->Q (.int (g i j) s.toks) { s with toks:=s.toks+1 }->NL (NS X.prog X.w) X.A (f (.int i t) (.int j u)) Q E s) :
  OpR X f (rI C λi j=>.int (g i j)):=by
 intro pins s σ H x y v u Q I rx ry h
 obtain ⟨i,j,rfl,rfl,hc,q⟩:=h
 obtain ⟨t,rfl⟩:=rx
 obtain ⟨t',rfl⟩:=ry
 exact rule i j t t' s _ _ hc ⟨.int (g i j),H,I.tok _,⟨_,rfl⟩,q⟩
theorem LK {f:Nu->Nu->Sem Nu}{g:Int->Int->Int}
  (rule:∀ (i j:Int) (t u:Tok) (s:Nv) (Q:Nu->Nv->Prop) (E:Nu->Nv->Prop),Q (.int (g i j) s.toks) { s with toks:=s.toks+1 }->NL (NS X.prog X.w) X.A (f (.int i t) (.int j u)) Q E s) :
  OpR X f (rI0 λi j=>.int (g i j)):=by
 intro pins s σ H x y v u Q I rx ry h
 obtain ⟨i,j,rfl,rfl,q⟩:=h
 obtain ⟨t,rfl⟩:=rx
 obtain ⟨t',rfl⟩:=ry
 exact rule i j t t' s _ _ ⟨.int (g i j),H,I.tok _,⟨_,rfl⟩,q⟩
theorem Gq {f:Nu->Nu->Sem Nu}{g:Int->Int->Bool}
  (rule:∀ (i j:Int) (t u:Tok) (s:Nv) (Q:Nu->Nv->Prop) (E:Nu->Nv->Prop),Q (.bool (g i j)) s->NL (NS X.prog X.w) X.A (f (.int i t) (.int j u)) Q E s) :
  OpR X f (rI0 λi j=>.bl (g i j)):=by
 intro pins s σ H x y v u Q I rx ry h
 obtain ⟨i,j,rfl,rfl,q⟩:=h
 obtain ⟨t,rfl⟩:=rx
 obtain ⟨t',rfl⟩:=ry
 exact rule i j t t' s _ _ ⟨.bl (g i j),H,I,rfl,q⟩
def ME (i j:Int):Prop:=0<=j/\j<=1000000/\i.natAbs < 2 ^ 64
def Md (i j:Int):Prop:=(-(2 ^ 64) < i/\i < 2 ^ 64)∨(-(2 ^ 64) < j/\j < 2 ^ 64)
theorem Md.ok {i j:Int}(h:Md i j):IntMulOk i j:=by
 rcases h with ⟨h1,h2⟩ | ⟨h1,h2⟩
 ·exact .of_left (RF h1 h2)
 ·exact .of_right (RF h1 h2)
theorem Ko:OpR X (Pq .Add) (rI0 λi j=>.int (i+j)):=LK λ_ _ _ _ _ _ _ q=>add_int q
theorem JP:OpR X (Pq .Sub) (rI0 λi j=>.int (i - j)):=LK λ_ _ _ _ _ _ _ q=>sub_int q
theorem Ey:OpR X (Pq .Mod) (rI (λ_ j=>j≠0) λi j=>.int (i.fmod j)):=opI λ_ _ _ _ _ _ _ hc q=>mod_int' hc q
theorem J1:OpR X (Pq .Pow) (rI ME λi j=>.int (i ^ j.toNat)):=opI λ_ _ _ _ _ _ _ hc q=>pow_int_small hc.1 hc.2.1 hc.2.2 q
theorem unI {f:Nu->Sem Nu}{g:Int->Int}
  (rule:∀ (i:Int) (t:Tok) (s:Nv) (Q:Nu->Nv->Prop) (E:Nu->Nv->Prop),Q (.int (g i) s.toks) { s with toks:=s.toks+1 }->NL (NS X.prog X.w) X.A (f (.int i t)) Q E s) :
  UnR X f (rU λi=>.int (g i)):=by
 intro pins s σ H x v Q I rx h
 obtain ⟨i,rfl,q⟩:=h
 obtain ⟨t,rfl⟩:=rx
 exact rule i t s _ _ ⟨.int (g i),H,I.tok _,⟨_,rfl⟩,q⟩
theorem Kc:UnR X (unaryOp .USub) (rU λi=>.int (-i)):=unI λ_ _ _ _ _ q=>neg_int q
end
def Ky:V->V->Bool
 | .non,.non=>true | .non,.int _=>true | .int _,.non=>true | .non,.bl _=>true | .bl _,.non=>true | .non,.str _=>true | .str _,.non=>true
 | .int _,.int _=>true | .bl _,.bl _=>true | .str _,.str _=>true | .byt _,.byt _=>true
 | .int _,.str _=>true | .str _,.int _=>true | .bl _,.str _=>true | .str _,.bl _=>true
 | _,_=>false
def rEq:R2:=λx y H Q=>Ky x y=true/\Q (.bl (decide (x=y))) H
def rNe:R2:=λx y H Q=>Ky x y=true/\Q (.bl (!decide (x=y))) H
section
variable {X:Cx} {a b c:NX} {ta tb tc:TE} {pos:Pos}
theorem Bp {pins:List (Addr×Obj)}{σ:St}{H:Hp}{s:Nv}{Q:VK}{k k':Bool}(I:Inv X pins σ H s)(q:Q (.bl k) H)(e:k=k'):EP X pins σ Q (.bool k') s:=by
 subst e
 exact ⟨.bl k,H,I,rfl,q⟩
theorem Hn:OpR X (Ou .Lt) (rI0 λi j=>.bl (decide (i < j))):=Gq λ_ _ _ _ _ _ _ q=>lt_int q
theorem qB:OpR X (Ou .LtE) (rI0 λi j=>.bl (decide (i<=j))):=Gq λ_ _ _ _ _ _ _ q=>le_int q
theorem Hl:OpR X (Ou .Gt) (rI0 λi j=>.bl (decide (j < i))):=Gq λ_ _ _ _ _ _ _ q=>gt_int q
theorem K9:OpR X (Ou .GtE) (rI0 λi j=>.bl (decide (j<=i))):=Gq λ_ _ _ _ _ _ _ q=>ge_int q
theorem An:OpR X (Ou .In) (λx y H Q=>∃ i j,x=.str i/\y=.str j/\Q (.bl (!(Qi j i 0 j.length 1).isEmpty)) H):=by
 intro pins s σ H x y v u Q I rx ry h
 obtain ⟨i,j,rfl,rfl,q⟩:=h
 obtain ⟨t,rfl⟩:=rx
 obtain ⟨t',rfl⟩:=ry
 exact in_str (Bp I q rfl)
theorem Iu:OpR X (Ou .Is) (λx y H Q=>y=.non/\Q (.bl (decide (x=.non))) H):=by
 intro pins s σ H x y v u Q I rx ry h
 obtain ⟨rfl,q⟩:=h
 cases ry
 refine is_none_gen (Bp I q ?_)
 cases x<;>first
  | (cases rx;rfl)
  | (obtain ⟨t,rfl⟩:=rx;rfl)
theorem gx (b:NX){op:TY}(h:op≠.In:=by decide)(h2:op≠.NotIn:=by decide):Pd op b=false:=by
 have e1:(op == CmpOp.In)=false:=by cases op<;>first | rfl | exact absurd rfl h
 have e2:(op == CmpOp.NotIn)=false:=by cases op<;>first | rfl | exact absurd rfl h2
 cases b<;>simp[Pd,e1,e2]
theorem EU {op:TY}{r:R2}(ho:OpR X (Ou op) r)(ha:PE X a ta)(hb:PE X b tb)(hm:Pd op b=false):PE X (.Compare a [op] [b] pos) (tOp r ta tb):=by
 intro pins s σ H Q I h
 exact wpAny_Compare1 (J3 ha hb I h λv u s2 x y H2 I2 rx ry q=>ho pins s2 σ H2 x y v u Q I2 rx ry q) hm
def Cj (t:TE):TT:=λσ H Q=>t σ H λx H'=>∃ k,x=.bl k/\Q k H'
theorem yY {op:TY}{r:R2}(ho:OpR X (Ou op) r)(ha:PE X a ta)(hb:PE X b tb)(hm:Pd op b=false):PT X (.Compare a [op] [b] pos) (Cj (tOp r ta tb)):=by
 intro pins s σ H Q I h
 refine wpAny_isTrue_Compare1 (thn (ha pins s σ H _ I h) λv s1 ⟨x,H1,I1,r1,q1⟩=>thn (hb pins s1 σ H1 _ I1 q1) λu s2 ⟨y,H2,I2,r2,q2⟩=>
  thn (ho pins s2 σ H2 x y v u _ I2 r1 r2 q2) λc s3 ⟨z,H3,I3,r3,k,e,q3⟩=>?_) hm
 subst e
 cases r3
 exact OI ⟨H3,I3,q3⟩
def wK (r r':R2)(ta tb tc:TE):TE:=λσ H Q=>ta σ H λx H1=>tb σ H1 λy H2=>r x y H2 λz H3=>∃ k,z=.bl k/\
 (if k=true then tc σ H3 λw' H4=>r' y w' H4 Q else Q (.bl false) H3)
theorem DY {op op':TY}{r r':R2}(ho:OpR X (Ou op) r)(ho':OpR X (Ou op') r')(ha:PE X a ta)(hb:PE X b tb)(hc:PE X c tc)
  (hm:S3 [op,op'] [b,c]=false:=by with_unfolding_all rfl):PE X (.Compare a [op,op'] [b,c] pos) (wK r r' ta tb tc):=by
 intro pins s σ H Q I h
 refine Compare_chain (thn (ha pins s σ H _ I h) λv s1 ⟨x,H1,I1,r1,q1⟩=>chain_link (thn (hb pins s1 σ H1 _ I1 q1) λu s2 ⟨y,H2,I2,r2,q2⟩=>
  thn (ho pins s2 σ H2 x y v u _ I2 r1 r2 q2) λd s3 ⟨z,H3,I3,r3,k,e,q3⟩=>?_)) hm
 subst e
 cases r3
 refine OI ?_
 cases k with
 | false=>exact ite_ff ⟨.bl false,H3,I3,rfl,q3⟩
 | true=>exact ite_tt (chain_last (thn (hc pins s3 σ H3 _ I3 q3) λw' s4 ⟨z',H4,I4,r4,q4⟩=>ho' pins s4 σ H4 y z' u w' Q I4 r2 r4 q4))
theorem C3 {op op':TY}{r r':R2}(ho:OpR X (Ou op) r)(ho':OpR X (Ou op') r')(ha:PE X a ta)(hb:PE X b tb)(hc:PE X c tc)
  (hm:S3 [op,op'] [b,c]=false:=by with_unfolding_all rfl):PT X (.Compare a [op,op'] [b,c] pos) (Cj (wK r r' ta tb tc)):=by
 intro pins s σ H Q I h
 refine isTrue_chain (thn (ha pins s σ H _ I h) λv s1 ⟨x,H1,I1,r1,q1⟩=>test_link (thn (hb pins s1 σ H1 _ I1 q1) λu s2 ⟨y,H2,I2,r2,q2⟩=>
  thn (ho pins s2 σ H2 x y v u _ I2 r1 r2 q2) λd s3 ⟨z,H3,I3,r3,k,e,q3⟩=>?_)) hm
 subst e
 cases r3
 refine OI ?_
 cases k with
 | false=>
  obtain ⟨k',e',q'⟩:=q3
  cases e'
  exact ite_ff ⟨H3,I3,q'⟩
 | true=>
  refine ite_tt (test_last (thn (hc pins s3 σ H3 _ I3 q3) λw' s4 ⟨z',H4,I4,r4,q4⟩=>thn (ho' pins s4 σ H4 y z' u w' _ I4 r2 r4 q4) λd' s5 ⟨z2,H5,I5,r5,k2,e2,q5⟩=>?_))
  subst e2
  cases r5
  exact OI ⟨H5,I5,q5⟩
theorem kD:(sizeLine:Nat) < 2 ^ 63:=by rw[Rz];decide
theorem wU:OpR X (Pq .Add) (λx y H Q=>∃ i j,x=.str i/\y=.str j/\i.length+j.length<=sizeLine/\Q (.str (i++j)) H):=by
 intro pins s σ H x y v u Q I rx ry h
 obtain ⟨i,j,rfl,rfl,hz,q⟩:=h
 obtain ⟨t,rfl⟩:=rx
 obtain ⟨t',rfl⟩:=ry
 exact add_str (λt' tk=>⟨.str (i++j),H,I.tok _,⟨_,rfl⟩,q⟩) hz
theorem vals1 {x:V}{us:List Nu}(r:Vals [x] us):∃ u,us=[u]/\RelV x u:=by
 cases r with
 | cons r1 r2=>cases r2;exact ⟨_,rfl,r1⟩
theorem h9:b8 X (.builtin "abs") (λxs H Q=>∃ i,xs=[.int i]/\Q (.int (if i < 0 then -i else i)) H):=by
 intro pins s σ H xs us Q I r h
 obtain ⟨i,rfl,q⟩:=h
 obtain ⟨u,rfl,t,rfl⟩:=vals1 r
 exact call_abs_int λu tk=>⟨.int (if i < 0 then -i else i),H,I.tok _,⟨_,rfl⟩,q⟩
theorem Ai:b8 X (.type "int") (λxs H Q=>(∃ i,xs=[.int i]/\Q (.int i) H)∨∃ k,xs=[.bl k]/\Q (.int (if k then 1 else 0)) H):=by
 intro pins s σ H xs us Q I r h
 rcases h with ⟨i,rfl,q⟩ | ⟨k,rfl,q⟩
 ·obtain ⟨u,rfl,t,rfl⟩:=vals1 r
  exact call_int_int ⟨.int i,H,I,⟨_,rfl⟩,q⟩
 ·obtain ⟨u,rfl,r1⟩:=vals1 r
  cases r1
  exact call_int_bool ⟨.int (if k then 1 else 0),H,I.tok _,⟨_,rfl⟩,q⟩
end
end L2
namespace L2
open PySem PySem.Spec PyProof.Rows
section
variable {prog:NO} {w:N0} {A:NY} {E:Nu->Nv->Prop} {s:Nv} {K:Nt} {x dx C f:Addr} {mA:Str->Option Nu} {name:Str} {v:Nu}
end
section
variable {P:NO} {w:N0} {H H':Hp} {h h':Heap} {a C dx:Addr} {fs fs':List (Str×V)}
end
structure Cls (K:Nt) (C:Addr):Prop where
 pg:Uv K C Uw=true
 hd:PySem.W.hasDictIn K C=true
 po:PySem.W.plainOver K C=true
 sa:PySem.W.findIn K (.ref C) "__setattr__" = some (some (.builtin "object.__setattr__"))
theorem Cls.get {K:Nt}{C:Addr}(c:Cls K C)(f:Str):Uv K C f=true:=c.pg
section
variable {X:Cx} {pins:List (Addr×Obj)} {σ:St} {H:Hp} {s:Nv} {a C dx:Addr} {fs:List (Str×V)} {f:Str} {v:V} {A:NY} {E:Nu->Nv->Prop}
end
section
variable {X:Cx} {o e value:NX} {f:Str} {pos pos' tpos:Pos} {ta tv:TE}
def rH:V->V->Hp->VK->Prop:=λx y H Q=>∃ i j,x=.int i/\y=.int j/\Q (.int (i - j)) H
end
section
variable {X:Cx} {pins:List (Addr×Obj)} {σ:St} {H:Hp} {s:Nv} {A:NY} {E:Nu->Nv->Prop} {Q:Nu->Nv->Prop} {c:Nu} {b:Bool}
end
end L2
namespace L2
open PySem PySem.Spec PyProof.Rows
structure fh (k:Nat) (A:NY):Prop where
 hd:A.handled=none
 dp:A.depth+3*k+5 < recursionLimit
 un:A.units+16*k+200 < cLine
theorem fh.mono {j k:Nat}{A:NY}(r:fh k A)(h:j<=k):fh j A:=⟨r.hd,by have:=r.dp;omega,by have:=r.un;omega⟩
theorem fh.deeper {k:Nat}{A:NY}(r:fh (k+1) A)(env:Env):fh k (A.deeper env):=
 ⟨r.hd,by have:=r.dp;show A.depth+1+3*k+5 < _;omega,by have:=r.un;show A.units+3+16*k+200 < _;omega⟩
theorem fh.depth {k:Nat}{A:NY}(r:fh k A):A.depth < recursionLimit:=by have:=r.dp;omega
theorem fh.units {k:Nat}{A:NY}(r:fh k A):A.units+64 < cLine:=by have:=r.un;omega
def MC:TA:=λ_ H Q=>Q [] H
def KS (ta:TE)(tr:TA):TA:=λσ H Q=>ta σ H λx H1=>tr σ H1 λxs H2=>Q (x::xs) H2
section
variable {X:Cx} {e:NX} {es:List NX} {te:TE} {t:TA} {pos:Pos}
theorem kK:PA X [] MC:=λ_ _ _ _ H Q I h=>Pr ⟨[],H,I,.nil,h⟩
theorem gv (ha:PE X e te)(hr:PA X es t)(hs:Nx (e::es) X.env=(false,OF e X.env)::Nx es X.env:=by rfl):PA X (e::es) (KS te t):=by
 intro pos pins s σ H Q I h
 rw[hs]
 show NL _ _ (S2 ((false,OF e X.env)::N8 pos (Nx es X.env))) _ _ s
 refine Pj (thn (ha pins s σ H _ I h) λu s1 ⟨x,H1,I1,r1,q1⟩=>?_)
 exact thn (hr pos pins s1 σ H1 _ I1 q1) λus s2 ⟨xs,H2,I2,r2,q2⟩=>⟨x::xs,H2,I2,.cons r1 r2,q2⟩
def Nm (t:TA):TE:=λσ H Q=>t σ H λxs H1=>xs.length<=sizeLine/\∀ p,H1 p=none->Q (.ref p) (upd H1 p (.tup xs))
def M6 (t:TA):TE:=λσ H Q=>t σ H λxs H1=>xs.length<=sizeLine/\∀ p,H1 p=none->Q (.ref p) (upd H1 p (.lst xs))
theorem JT {x1}(h:PA X es t):PE X (.Tuple es x1 pos) (Nm t):=by
 intro pins s σ H Q I hq
 refine wpAny_Tuple_spliced (thn (h pos pins s σ H _ I hq) λus s1 ⟨xs,H1,I1,r,z,q⟩=>⟨by rw[← r.length];exact z,?_⟩)
 have hf:H1 s1.heap.objs.size=none:=I1.hok.fresh (NN _)
 refine ⟨.ref s1.heap.objs.size,upd H1 s1.heap.objs.size (.tup xs),I1.laid (t':=s1.toks) (λb u e=>Nw _ e) (NN _) ?_,rfl,q _ hf⟩
 exact ⟨z,us,r,⟨_,NH _ rfl⟩⟩
theorem A2 (h:PA X es t):PE X (.List es pos) (M6 t):=by
 intro pins s σ H Q I hq
 refine wpAny_List_spliced (thn (h pos pins s σ H _ I hq) λus s1 ⟨xs,H1,I1,r,z,q⟩=>⟨by rw[← r.length];exact z,?_⟩)
 have hf:H1 s1.heap.objs.size=none:=I1.hok.fresh (NN _)
 refine ⟨.ref s1.heap.objs.size,upd H1 s1.heap.objs.size (.lst xs),I1.laid (t':=s1.toks) (λb u e=>Nw _ e) (NN _) ?_,rfl,q _ hf⟩
 exact ⟨z,us,0,r,NH _ rfl⟩
end
abbrev Sp:=List V->Hp->VK->XK->Prop
abbrev CXT:=List Env->Hp->Nv->XK->Nu->Nv->Prop
structure ET (P:NO) (w:N0) (K:Nt) (mg:Str->Option Nu) (base:Heap) (A:NY) (outer:List Env) (s:Nv) (H:Hp):Prop where
 frames:A.frames=some outer
 mod:Mod K mg base
 bs:∀ b o,base.get? b=some o->s.heap.get? b=some o/\H b=none
 bsz:base.objs.size<=s.heap.objs.size
 oM:s.heap.FunFrames base outer
 frf:∀ b∈frs outer,H b=none
 hok:HOk P w H s.heap
 bare:Rx s.gens
def CE (outer:List Env)(P:NO)(w:N0)(H:Hp)(s:Nv)(Q:VK)(u:Nu)(s':Nv):Prop:=
 ∃ v H',s'.os=s.os/\Rx s'.gens/\Un (frs outer) [] H H' s.heap s'.heap/\HOk P w H' s'.heap/\RelV v u/\Q v H'
def CR (CX:CXT)(outer:List Env)(P:NO)(w:N0)(H:Hp)(s:Nv)(Q:VK)(E:XK)(r:Ux)(s':Nv):Prop:=
 match r with
 | .ok (.ret u)=>CE outer P w H s Q u s'
 | .ok _=>False
 | .error e=>CX outer H s E e s'
structure jk (P:NO) (w:N0) (K:Nt) (mg:Str->Option Nu) (base:Heap) (CX:CXT) (k:Nat) (f:Addr) (fd:NU) (ps:List Str) (sp:Sp):Prop where
 len:∀ vs H Q E,sp vs H Q E->vs.length=ps.length
 run:∀ (A:NY) (outer:List Env) (s:Nv) (H:Hp) (args:Args) (us:List Nu) (vs:List V) (Q:VK) (E:XK),fh k A->ET P w K mg base A outer s H->TZ s fd args (ps.zip us)->Vals vs us->sp vs H Q E->
  Pt (NS P w) A (.call (.ref f) args) (CR CX outer P w H s Q E) s
theorem jk.mono {P:NO}{w:N0}{K:Nt}{mg:Str->Option Nu}{base:Heap}{CX:CXT}{j k:Nat}{f:Addr}{fd:NU}{ps:List Str}{sp:Sp}(F:jk P w K mg base CX j f fd ps sp)(h:j<=k) :
  jk P w K mg base CX k f fd ps sp:=⟨F.len,λA outer s H args us vs Q E hr=>F.run A outer s H args us vs Q E (hr.mono h)⟩
section
variable {X:Cx} {pins:List (Addr×Obj)} {σ:St} {H:Hp} {s s':Nv}
theorem Inv.MP (I:Inv X pins σ H s):ET X.prog X.w X.K X.mg X.base X.A X.stack s H:=
 ⟨I.ok.frames,I.ok.mod,I.bs,OD I.ok.bsz I.sz,I.stack,I.yX,I.hok,I.bare⟩
theorem Inv.after {Q:VK}{u:Nu}(I:Inv X pins σ H s)(h:CE X.stack X.prog X.w H s Q u s'):EP X pins σ Q u s':=by
 obtain ⟨v,H',os,bare,un,hok,r,q⟩:=h
 obtain ⟨hh,g,d,t,os'⟩:=s'
 obtain rfl:os'=s.os:=os
 exact ⟨v,H',I.call (h':=hh) (g':=g) (d':=d) (t':=t) (ch:=[]) un hok bare (λb z=>absurd z (by simp)),r,q⟩
end
def K3 (sp:Sp)(dvs:List V)(E:XK)(t:TA):TE:=λσ H Q=>t σ H λvs H1=>sp (vs++dvs) H1 Q E
def Binds (K:Nt)(fd:NU)(ps:List Str)(ds:List Nu):Prop:=
 ∀ (s:Nv) (us:List Nu),K.In s.heap->(us++ds).length=ps.length->TZ s fd ⟨us,[]⟩ (ps.zip (us++ds))
theorem Binds.all {K:Nt}{fd:NU}{ps:List Str}(h:∀ us:List Nu,us.length=ps.length->bindArgs fd ⟨us,[]⟩=pure (ps.zip us)):Binds K fd ps []:=λs us _ hl=>by
 rw[OC] at hl ⊢
 exact .of_eq (h us hl)
def Passes (CX:CXT)(X:Cx)(E:XK):Prop:=∀ (pins:List (Addr×Obj)) (σ:St) (H:Hp) (s:Nv) (e:Nu) (s':Nv),Inv X pins σ H s->CX X.stack H s E e s'->X.xe e s'
section
variable {X:Cx} {CX:CXT} {k:Nat} {f C:Addr} {fd:NU} {ps:List Str} {sp:Sp} {dvs:List V} {ds:List Nu} {E:XK} {x m:Str} {p pos apos:Pos} {e o:NX} {es:List NX} {ta:TE} {t:TA}
theorem HM {pins:List (Addr×Obj)}{σ:St}{H:Hp}{s:Nv}{Q:VK}{us:List Nu}{vs:List V}(F:jk X.prog X.w X.K X.mg X.base CX k f fd ps sp)(hr:fh k X.A)(hb:Binds X.K fd ps ds)(hd:Vals dvs ds)(hx:Passes CX X E)
  (I:Inv X pins σ H s) (r:Vals vs us) (h:sp (vs++dvs) H Q E):NL (NS X.prog X.w) X.A (call (.ref f) us) (EP X pins σ Q) X.xe s:=by
 have r2:Vals (vs++dvs) (us++ds):=r.append hd
 have hl:(us++ds).length=ps.length:=by rw[← r2.length];exact F.len _ _ _ _ h
 refine TM (Ra (F.run X.A X.stack s H ⟨us,[]⟩ (us++ds) (vs++dvs) Q E hr I.MP (hb s us I.kIn hl) r2 h) λr s' hq=>?_)
 cases r with
 | error e=>exact hx pins σ H s e s' I hq
 | ok fl=>
  cases fl with
  | ret u=>exact I.after hq
  | next=>exact Ny hq
  | brk=>exact Ny hq
  | cont=>exact Ny hq
theorem Ew (F:jk X.prog X.w X.K X.mg X.base CX k f fd ps sp)(hr:fh k X.A)(hg:Gl X x)(hm:X.mg x=some (.ref f))(hk:Qt X.K (.ref f)=true)(hb:Binds X.K fd ps ds)(hd:Vals dvs ds)(hx:Passes CX X E)
  (ha:PA X (e::es) t) (hdb:(x == ("__debug__" : Str))=false:=by decide) (he:Nx (e::es) X.env=(false,OF e X.env)::Nx es X.env:=by rfl) (hpl:(N8 pos (Nx es X.env)).any (·.1)=false:=by rfl) :
  PE X (.Call (.Name x p) (e::es) [] pos) (K3 sp dvs E t):=by
 intro pins s σ H Q I h
 refine OL (yE I hg hm ?_ hdb)
 refine PySem.W.callWith_K (h₀:=X.base) I.ok.mod.kin hk (thn (ha pos pins s σ H _ I h) λus s1 ⟨vs,H1,I1,r,q⟩=>⟨I1.kIn,?_⟩) he hpl
 exact HM F hr hb hd hx I1 r q
end
section
variable {X:Cx} {CX:CXT} {k:Nat} {f C:Addr} {fd:NU} {ps ks:List Str} {sp:Sp} {E:XK} {x m:Str} {p pos apos kpos:Pos} {e o:NX} {es:List NX} {kws:List QN} {te ta:TE} {t tk:TA} {nm:Option Str}
variable {g:List Nu->List Nu->List Nu} {gV:List V->List V->List V}
end
structure aM (N P:List Str) (sc:Scope):Prop where
 kind:sc.kind=.function
 co:sc.isCoroutine=false
 gen:sc.isGenerator=false
 nd:N.Nodup
 pre:N.take P.length=P
 par:∀ x∈P,sc.names.lookup x=some .local∨sc.names.lookup x=some .cell
 Jx:∀ y∈sc.names,y.2≠.free
theorem pV {QG:Str->Option QS}{x:Str}:∀ {binds:List (Str×Nu)} {m:Str->Option Nu},(∀ v,(x,v) ∉ binds)->U4 QG binds m x=m x
 | [],_,_=>rfl
 | (n,v)::r,m,h=>by
  unfold U4
  rw[pV λw hw=>h w (NF _ hw)]
  split
  ·have:x≠n:=by rintro rfl;exact h v NB
   simp[this]
  ·rfl
theorem qm {QG:Str->Option QS}{x:Str}:∀ {binds:List (Str×Nu)} {m:Str->Option Nu},(∀ v,(x,v) ∉ binds)->U5 QG binds m x=m x
 | [],_,_=>rfl
 | (n,v)::r,m,h=>by
  unfold U5
  rw[qm λw hw=>h w (NF _ hw)]
  split
  ·rfl
  ·have:x≠n:=by rintro rfl;exact h v NB
   simp[this]
theorem ql {QG:Str->Option QS}{x:Str}{v:Nu}:∀ {P:List Str} {vs:List Nu} {i:Nat} {m:Str->Option Nu},P.Nodup->P[i]? = some x->vs[i]? = some v->QG x=some .local->
  U4 QG (P.zip vs) m x=some v
 | [],_,_,_,_,h,_,_=>by simp at h
 | _::_,[],_,_,_,_,h,_=>by simp at h
 | p::P,w::vs,0,m,nd,h1,h2,hk=>by
  simp at h1 h2;subst h1;subst h2
  show U4 QG ((p,w)::P.zip vs) m p=_
  unfold U4
  rw[pV λv hv=>(Qe.mp nd).1 (Sk hv).1,if_pos hk]
  simp
 | p::P,w::vs,i+1,m,nd,h1,h2,hk=>by
  show U4 QG ((p,w)::P.zip vs) m x=_
  unfold U4
  exact ql (i:=i) (Qe.mp nd).2 (by simpa using h1) (by simpa using h2) hk
theorem qC {QG:Str->Option QS}{x:Str}{v:Nu}:∀ {P:List Str} {vs:List Nu} {i:Nat} {m:Str->Option Nu},P.Nodup->P[i]? = some x->vs[i]? = some v->QG x≠some .local->
  U5 QG (P.zip vs) m x=some v
 | [],_,_,_,_,h,_,_=>by simp at h
 | _::_,[],_,_,_,_,h,_=>by simp at h
 | p::P,w::vs,0,m,nd,h1,h2,hk=>by
  simp at h1 h2;subst h1;subst h2
  show U5 QG ((p,w)::P.zip vs) m p=_
  unfold U5
  rw[qm λv hv=>(Qe.mp nd).1 (Sk hv).1,if_neg hk]
  simp
 | p::P,w::vs,i+1,m,nd,h1,h2,hk=>by
  show U5 QG ((p,w)::P.zip vs) m x=_
  unfold U5
  exact qC (i:=i) (Qe.mp nd).2 (by simpa using h1) (by simpa using h2) hk
def start (N:List Str)(vs:List V):St:=vs.map some++NZ (N.length - vs.length) none
def ud (CX:CXT)(P:NO)(w:N0)(K:Nt)(mg:Str->Option Nu)(base:Heap)(N:List Str)(qual:Str)(scope:Scope)(f:Addr)(cd:Nu)(A:NY)(outer:List Env)(s:Nv)(H:Hp)(E:XK):Cx where
 prog:=P
 w:=w
 K:=K
 mg:=mg
 base:=base
 A:=A.deeper (Rk qual scope s.heap.objs.size f cd)
 N:=N
 s₀:=s
 H₀:=H
 env:=Rk qual scope s.heap.objs.size f cd
 outer:=outer
 stack:=Rk qual scope s.heap.objs.size f cd::outer
 ex:=[]
 calm:=true
 fn:=λ_=>true
 pn:=[]
 xe:=λe s'=>NL (NS P w) (A.deeper (Rk qual scope s.heap.objs.size f cd)) (leaving (Rk qual scope s.heap.objs.size f cd) e) (λ_ s''=>CX outer H s E e s'') (λe' s''=>CX outer H s E e' s'') s'
theorem tO {sc:Scope}{n:Nat}{x:Str}(h:sc.names.lookup x=some .cell):∃ c,(cellsFrom n sc.names []).lookup x=some c:=by
 have q:=R6 sc.names n [] (.inl h)
 exact Qc.mp q
theorem zo {CX:CXT}{P:NO}{w:N0}{K:Nt}{mg:Str->Option Nu}{base:Heap}{N ps:List Str}{qual:Str}{scope:Scope}{f:Addr}{cd:Nu}{A:NY}{outer:List Env}{s s1:Nv}{H:Hp}{E:XK}{us:List Nu}{vs:List V}
  (S:aM N ps scope) (hd:A.handled=none) (e0:ET P w K mg base A outer s H) (hl:vs.length=ps.length) (r:Vals vs us)
  (x:InCallC s s.heap.objs.size (U4 (Rk qual scope s.heap.objs.size f cd).kindOf (ps.zip us) λ_=>none) (cellsFrom (s.heap.objs.size+1) scope.names []) (U5 (Rk qual scope s.heap.objs.size f cd).kindOf (ps.zip us) λ_=>none) s1) :
  Inv (ud CX P w K mg base N qual scope f cd A outer s H E) [] (start N vs) H s1:=by
 have hpl:ps.length<=N.length:=by have:=congrArg PM S.pre;rw[PF] at this;omega
 obtain ⟨h1,tk,rfl,hk⟩:=x.done
 have noA:∀ b:Addr,b ∉ (ud CX P w K mg base N qual scope f cd A outer s H E).ex:=λb z=>absurd (show b∈([]:List Addr) from z) (by simp)
 refine ⟨⟨e0.mod,S.kind,rfl,rfl,NN _,λy z c h1 h2=>?_,λy hy=>?_,λy c _ h=>?_,λ_=>hd,Around.frames_deeper e0.frames,.inr ⟨rfl,rfl⟩,λb z=>absurd z (noA b),e0.bs,e0.bsz,λb _ _=>noA b,λb z=>absurd z (noA b),e0.oM,e0.frf⟩,
  rfl,e0.bare,Un.kept hk,⟨_,x.toInCall.ns,λi y v h1 h2 h3=>?_⟩,λy c h=>⟨_,x.cell y c h⟩,e0.hok.fresh (NN _),λy c h=>?_,λp hp=>absurd (show p∈([]:List (Addr×Obj)) from hp) (by simp),e0.hok.kept hk,?_⟩
 ·exact name_of_addr x.apart (OG h1) (OG h2)
 ·have hy:scope.names.lookup y=some .cell∨scope.names.lookup y=some .free:=hy
  rcases hy with hy | hy
  ·exact tO hy
  ·exact absurd rfl (S.Jx _ (OG hy))
 ·exact R4 (x.above y c (OG h))
 ·have hi:i < vs.length:=by
   unfold start at h2
   by_cases hi:i < vs.length
   ·exact hi
   ·rw[P1 (by simpa using hi)] at h2
    rw[RL] at h2
    split at h2<;>cases h2
  have ha:vs[i]? = some v:=by
   unfold start at h2
   rw[P6 (by simpa using hi),Of] at h2
   cases e:vs[i]? with
   | none=>rw[e] at h2;cases h2
   | some a=>rw[e] at h2;cases h2;rfl
  obtain ⟨u,hu,rv⟩:=r.get ha
  have hp:ps[i]? = some y:=by
   rw[← S.pre,List.getElem?_take_of_lt (by omega)];exact h1
  have ndP:ps.Nodup:=by rw[← S.pre];exact S.nd.sublist (List.take_sublist _ _)
  refine ⟨u,rv,?_⟩
  rcases S.par y (QT hp) with k | k
  ·exact .inl ⟨k,ql ndP hp hu k⟩
  ·obtain ⟨c,e⟩:=tO (n:=s.heap.objs.size+1) k
   refine .inr ⟨.inl k,c,e,?_⟩
   have q:=x.cell y c e
   rw[qC ndP hp hu (by show scope.names.lookup y≠_;rw[k];decide)] at q
   exact q
 ·exact e0.hok.fresh (R4 (x.above y c (OG h)))
 ·unfold start
  show _=N.length
  rw[NQ,NC,OY]
  omega
theorem Kt {CX:CXT}{P:NO}{w:N0}{K:Nt}{mg:Str->Option Nu}{base:Heap}{k:Nat}{f:Addr}{name qual:Str}{params:Arguments}{body:List Stmt}{scope:Scope}{dV kV doc pm cdv ct oc:Nu}{an od:Option Addr}
  {osl:Array (Option Nu)} {N ps:List Str} {sp:Sp} (lk:K.lookup f=some ⟨oc,od,.func (P4 name qual params body scope dV kV doc pm an cdv ct),osl⟩) (hcd:SH K cdv qual=true) (S:aM N ps scope)
  (len:∀ vs H Q E,sp vs H Q E->vs.length=ps.length)
  (hbody:∀ (A:NY) (outer:List Env) (s:Nv) (H:Hp) (vs:List V) (Q:VK) (E:XK),fh k (A.deeper (Rk qual scope s.heap.objs.size f cdv))->sp vs H Q E->
   ∃ t,PSs (ud CX P w K mg base N qual scope f cdv A outer s H E) body t/\t { nx:=λ_ H'=>Q .non H',rt:=Q } (start N vs) H) :
  jk P w K mg base CX (k+1) f (P4 name qual params body scope dV kV doc pm an cdv ct) ps sp:=by
 refine ⟨len,λA outer s H args us vs Q E hr e0 hb r hsp=>?_⟩
 have hl:=len _ _ _ _ hsp
 have KX:K.In s.heap:=e0.mod.kin.keeps λb o e=>(e0.bs b o e).1
 have lim:s.heap.NoLimit:=e0.mod.nolimit.keeps λb o e=>(e0.bs b o e).1
 have gb:∀ y∈ps.zip us,scope.names.lookup y.1=some .local∨(scope.names.lookup y.1=some .cell/\((cellsFrom (s.heap.objs.size+1) scope.names []).lookup y.1).isSome=true):=λ⟨n,v⟩ hy=>by
  rcases S.par n (Sk hy).1 with q | q
  ·exact .inl q
  ·exact .inr ⟨q,R6 _ _ _ (.inl q)⟩
 refine codeAny_call_function hr.depth (KX _ _ lk) rfl S.co S.gen rfl (PySem.W.codeRec_of KX hcd) (hb _ _ _ _ ?_)
 refine wpAny_newFunctionEnv_cells S.kind gb λenv he s1 x=>?_
 subst he
 refine ⟨lim.keeps x.toInCall.keep,codeAny_func ?_⟩
 obtain ⟨t,ht,hq⟩:=hbody A outer s H vs Q E (hr.deeper _) hsp
 have I:Inv (ud CX P w K mg base N qual scope f cdv A outer s H E) [] (start N vs) H s1:=zo S hr.hd e0 hl r x
 refine OQ (ht [] s1 (start N vs) H _ I hq) (λfl s' hs=>?_) λe s' hs=>hs
 have fin:∀ {σ':St} {H':Hp} {v:V} {u:Nu},Inv (ud CX P w K mg base N qual scope f cdv A outer s H E) [] σ' H' s'->RelV v u->Q v H'->CE outer P w H s Q u s':=
  λ{σ' H' v u} J rv q=>⟨v,H',J.os,J.bare,J.base,J.hok,rv,q⟩
 cases fl with
 | ret u=>
  obtain ⟨v,σ',H',J,rv,q⟩:=hs
  exact fin J rv q
 | next=>
  obtain ⟨σ',H',J,q⟩:=hs
  exact fin (v:=V.non) (u:=Pg) J rfl q
 | brk=>
  obtain ⟨_,_,_,q⟩:=hs
  exact Ny q
 | cont=>
  obtain ⟨_,_,_,q⟩:=hs
  exact Ny q
end L2
namespace L2
open PySem PySem.Spec PyProof.Rows
section
variable {X:Cx} {x:Str} {p pos:Pos} {e:NX} {es:List NX} {t:TA} {id T:String} {r:List V->Hp->VK->Prop}
def tCB (r:List V->Hp->VK->Prop)(t:TA):TE:=λσ H Q=>t σ H λvs H1=>r vs H1 Q
theorem nV (hc:b8 X (.builtin id) r)(hg:Gl X x)(hm:X.mg x=none)(hv:N4 x=some (.builtin id))(ha:PA X (e::es) t)(hn:x ≠ "__name__" := by decide)(hdb:(x == ("__debug__" : Str))=false:=by decide)
  (he:Nx (e::es) X.env=(false,OF e X.env)::Nx es X.env:=by rfl) (hpl:(N8 pos (Nx es X.env)).any (·.1)=false:=by rfl):PE X (.Call (.Name x p) (e::es) [] pos) (tCB r t):=by
 intro pins s σ H Q I h
 refine OL (gy I hg hm hv ?_ hn hdb)
 exact PH (thn (ha pos pins s σ H _ I h) λus s1 ⟨vs,H1,I1,r1,q1⟩=>hc pins s1 σ H1 vs us Q I1 r1 q1) he hpl
theorem qA (hc:b8 X (.type T) r)(hg:Gl X x)(hm:X.mg x=none)(hv:N4 x=some (.type T))(ha:PA X (e::es) t)(hn:x ≠ "__name__" := by decide)(hdb:(x == ("__debug__" : Str))=false:=by decide)
  (he:Nx (e::es) X.env=(false,OF e X.env)::Nx es X.env:=by rfl) (hpl:(N8 pos (Nx es X.env)).any (·.1)=false:=by rfl):PE X (.Call (.Name x p) (e::es) [] pos) (tCB r t):=by
 intro pins s σ H Q I h
 refine OL (gy I hg hm hv ?_ hn hdb)
 exact OO (thn (ha pos pins s σ H _ I h) λus s1 ⟨vs,H1,I1,r1,q1⟩=>hc pins s1 σ H1 vs us Q I1 r1 q1) he hpl
end
end L2
namespace HT
open PySem PyProof.Rows
section
open PySem.SeqAt
open PySem.AutoSeq1 (wpAny_loadPart')
open PySem.MeetsSeq PySem.MeetsSeq2 PySem.MeetsSeq3
end
section
variable {prog:NO} {w:N0} {A:NY} {E:Nu->Nv->Prop} {s:Nv}
theorem Ek {t b:Addr}{vs ws:List Nu}{Q:Nu->Nv->Prop}(ht:IsTup s.heap t vs.toArray)(hb:IsTup s.heap b ws.toArray)(hv:vs≠[])
  (h1:ws=[]->Q (.ref t) s) (h2:ws≠[]->Q (.ref s.heap.objs.size) { s with heap:=s.heap.push { cls:=.type "tuple", data:=.seq (vs++ws).toArray } })
  (hsz:vs.length+ws.length<=sizeLine):NL (NS prog w) A (Pq .Add (.ref t) (.ref b)) Q E s:=by
 obtain ⟨⟨cls,dd,data,sl⟩,ho,hc,n,hd⟩:=id ht
 obtain ⟨⟨cls2,dd2,data2,sl2⟩,ho2,hc2,n2,hd2⟩:=id hb
 simp only at hc hd hc2 hd2
 subst hc hd hc2 hd2
 have e:vs.toArray++ws.toArray=(vs++ws).toArray:=by simp
 by_cases hw:ws=[]
 ·exact R7 ⟨_,ho,rfl⟩ ⟨_,ho2,rfl⟩ RM Tn Qu Qj (Qd _ _)
   (tuple_addW1 t b vs.toArray ws.toArray n n2 dd dd2 sl sl2 (by simpa using hv) (by simp[hw])) ⟨ho,ho2,h1 hw⟩
 ·refine R7 ⟨_,ho,rfl⟩ ⟨_,ho2,rfl⟩ RM Tn Qu Qj (Qd _ _)
   (tuple_addW2 t b vs.toArray ws.toArray n n2 dd dd2 sl sl2 (by simpa using hv) (by simpa using hw) (by rw[NJ,NJ];exact hsz)) ⟨ho,ho2,?_⟩
  rw[e]
  exact h2 hw
def sIx (n d:Nat):Option Int->Nat
 | none=>d
 | some v=>if v < 0 then (v+(n:Int)).toNat else min v.toNat n
theorem uN (n d:Nat):sIx n d none=d:=rfl
theorem zc (n d k:Nat):sIx n d (some (k:Int))=min k n:=by
 show (if (k:Int) < 0 then ((k:Int)+(n:Int)).toNat else min (k:Int).toNat n)=min k n
 rw[if_neg (by omega),Oo]
theorem Kg (n d:Nat)(hd:d<=n)(o:Option Int):sIx n d o<=n:=by
 cases o with
 | none=>exact hd
 | some v=>
  show (if v < 0 then (v+(n:Int)).toNat else min v.toNat n)<=n
  by_cases hv:v < 0
  ·rw[if_pos hv];omega
  ·rw[if_neg hv];exact Nat.min_le_right _ _
theorem y9 (v:Int)(n d:Nat):(if v < 0 then max (v+(n:Int)) 0 else min v (n:Int))=((sIx n d (some v):Nat):Int):=by
 show (if v < 0 then max (v+(n:Int)) 0 else min v (n:Int))=(((if v < 0 then (v+(n:Int)).toNat else min v.toNat n):Nat):Int)
 by_cases hv:v < 0
 ·simp only[if_pos hv];omega
 ·simp only[if_neg hv];omega
theorem vX (lo hi:Option Int)(n:Nat):P7 lo hi 1 (n:Int)=(((sIx n 0 lo:Nat):Int),((sIx n n hi:Nat):Int)):=by
 have h1:¬ ((1:Int) < 0):=by omega
 unfold P7
 simp only[h1,if_false]
 refine Prod.ext ?_ ?_
 ·cases lo with
  | none=>rfl
  | some v=>exact y9 v n 0
 ·cases hi with
  | none=>rfl
  | some v=>exact y9 v n n
theorem vU (i j:Nat):Pn (i:Int) (j:Int) 1=j - i:=by
 unfold Pn
 have h1:(1:Int) > 0:=by omega
 simp only[h1,if_true,Int.ediv_one]
 split<;>omega
theorem mZ {v:Nu}{o:Option Int}{Q:Option Int->Nv->Prop}(p:IsPart v o)(h:Q o s):NL (NS prog w) A (UJ v) Q E s:=by
 cases p with
 | none=>exact slicePart_none h
 | int i t=>exact slicePart_int h
theorem fR {sl:Addr}{vl vu:Nu}{lo hi:Option Int}{n:Nat}{Q:Int×Int×Nat->Nv->Prop}(hs:s.heap.IsSliceOf sl vl vu .none)(pl:IsPart vl lo)(pu:IsPart vu hi)
  (h:Q (((sIx n 0 lo:Nat):Int),1,sIx n n hi - sIx n 0 lo) s):NL (NS prog w) A (Rm (.ref sl) (pure (n:Int))) Q E s:=by
 obtain ⟨os,hos,hcs,hds⟩:=id hs
 unfold Rm Vm
 refine wpAny_bind (wpAny_bind (UE hos hds (x:=vl) rfl (wpAny_bind (UE hos hds (x:=vu) rfl (wpAny_bind (UE hos hds (x:=.none) rfl (wpAny_pure ?_)))))))
 refine wpAny_bind (slicePart_none ?_)
 show NL _ _ (if ((1:Int) == 0)=true then _ else _) _ _ s
 rw[if_neg (by decide)]
 refine wpAny_bind (mZ pl (wpAny_bind (mZ pu (wpAny_bind (wpAny_pure ?_)))))
 show NL _ _ (match P7 lo hi 1 (n:Int) with | (lo,hi)=>pure (lo,(1:Int),Pn lo hi 1)) _ _ s
 rw[vX lo hi n]
 show NL _ _ (pure (((sIx n 0 lo:Nat):Int),(1:Int),Pn ((sIx n 0 lo:Nat):Int) ((sIx n n hi:Nat):Int) 1)) _ _ s
 rw[vU]
 exact wpAny_pure h
theorem Ej (xs:Array Nu)(i k:Nat):((O6 k).filterMap λ(m:Nat)=>xs[((i:Int)+(m:Int)*1).toNat]?).toArray=((xs.toList.drop i).take k).toArray:=by
 have e:(λ(m:Nat)=>xs[((i:Int)+(m:Int)*1).toNat]?)=λm=>xs[i+m]?:=by
  funext m
  have:((i:Int)+(m:Int)*1).toNat=i+m:=by omega
  rw[this]
 rw[e]
 have:=pick_run xs i k
 rw[List.filterMap_map] at this
 have e2:((λx=>xs[x]?) ∘ λx=>i+x)=λm=>xs[i+m]?:=rfl
 rw[e2] at this
 rw[this]
theorem jM {t sl:Addr}{items:Array Nu}{vl vu:Nu}{lo hi:Option Int}{Q:Nu->Nv->Prop}(ht:IsTup s.heap t items)(hs:s.heap.IsSliceOf sl vl vu .none)(pl:IsPart vl lo)(pu:IsPart vu hi)
  (hw:¬ (sIx items.size 0 lo=0/\sIx items.size items.size hi=items.size))
  (h:Q (.ref s.heap.objs.size) { s with heap:=s.heap.push { cls:=.type "tuple", data:=.seq ((items.toList.drop (sIx items.size 0 lo)).take (sIx items.size items.size hi - sIx items.size 0 lo)).toArray } })
  (hsz:items.size<=sizeLine):NL (NS prog w) A (S4 (.ref t) (.ref sl)) Q E s:=by
 have yy:sizeOk (.seq ((items.toList.drop (sIx items.size 0 lo)).take (sIx items.size items.size hi - sIx items.size 0 lo)).toArray):=by
  show ((items.toList.drop (sIx items.size 0 lo)).take (sIx items.size items.size hi - sIx items.size 0 lo)).toArray.size<=sizeLine
  rw[NJ,PF,PJ,Oa]
  omega
 have hj:sIx items.size items.size hi<=items.size:=Kg _ _ (NN _) hi
 obtain ⟨os,hos,hcs,hds⟩:=id hs
 have hTs:s.TypeIs (.ref sl) "slice" := ⟨os,hos,hcs⟩
 unfold S4
 try with_reducible refine wpAny_holding ?_
 first | refine wpAny_bind (wpAny_pure ?_) | skip
 refine wpAny_bind (T3 ht.typeIs (by decide) ?_)
 refine wpAny_bind (OB (name:=Nr "__getitem__") ht.typeIs Oi
  (OE Oi ht.typeIs S7 ?_ (TN _ _)))
 show NL _ _ (Rn (.ref t) >>= _) _ _ s
 refine wpAny_bind (tupleItemsOf_ ht ?_)
 refine wpAny_bind (wpAny_typeOf hTs ?_)
 rw[if_pos (by decide)]
 refine wpAny_bind (fR hs pl pu ?_)
 have hno:¬ ((((sIx items.size 0 lo:Nat):Int) == 0&&(1:Int) == 1&&(sIx items.size items.size hi - sIx items.size 0 lo) == items.size)=true):=by
  intro q
  rw[Nz,Nz] at q
  have q1:((sIx items.size 0 lo:Nat):Int)=0:=eq_of_beq q.1.1
  have q2:sIx items.size items.size hi - sIx items.size 0 lo=items.size:=eq_of_beq q.2
  exact hw ⟨by omega,by omega⟩
 show NL _ _ (if (((sIx items.size 0 lo:Nat):Int) == 0&&(1:Int) == 1&&(sIx items.size items.size hi - sIx items.size 0 lo) == items.size)=true then _ else _) _ _ s
 rw[if_neg hno,Ej]
 first
  | exact wpAny_bind (m:=Ox _) (OA (wpAny_pure ⟨_,rfl,wpAny_pure h⟩) yy)
  | exact wpAny_bind (m:=Ox _) (OA (wpAny_bind (wpAny_pure (wpAny_pure ⟨_,rfl,wpAny_pure h⟩))) yy)
  | exact wpAny_bind (wpAny_bind (m:=Ox _) (OA (wpAny_pure (wpAny_pure ⟨_,rfl,wpAny_pure h⟩)) yy))
  | exact wpAny_bind (wpAny_bind (m:=Ox _) (OA (wpAny_pure ⟨_,rfl,wpAny_pure h⟩) yy))
end
end HT
namespace L2
open PySem PySem.Spec PyProof.Rows
abbrev TO:=St->Hp->(Option Int->Hp->Prop)->Prop
def PO (X:Cx)(e:Option NX)(t:TO):Prop:=
 ∀ (pins:List (Addr×Obj)) (s:Nv) (σ:St) (H:Hp) (Q:Option Int->Hp->Prop),Inv X pins σ H s->t σ H Q->
  NL (NS X.prog X.w) X.A (evalPart e X.env) (λu s'=>∃ o H',Inv X pins σ H' s'/\IsPart u o/\Q o H') X.xe s
def E5:TO:=λ_ H Q=>Q none H
def KD (t:TE):TO:=λσ H Q=>t σ H λx H1=>∃ i,x=.int i/\Q (some i) H1
section
variable {X:Cx} {e:NX} {te:TE} {lo hi:Option NX} {tl th:TO} {pos p2:Pos}
theorem Em:PO X none E5:=by
 intro pins s σ H Q I h
 rw[evalPart_none]
 exact wpAny_pure ⟨none,H,I,.none,h⟩
theorem FZ (h:PE X e te):PO X (some e) (KD te):=by
 intro pins s σ H Q I hw
 rw[evalPart_some]
 refine thn (h pins s σ H _ I hw) λu s1 ⟨x,H1,I1,r1,q1⟩=>?_
 obtain ⟨i,rfl,q⟩:=q1
 obtain ⟨t,rfl⟩:=r1
 exact ⟨some i,H1,I1,.int i t,q⟩
def SlR (X:Cx)(r:V->Option Int->Option Int->Hp->VK->Prop):Prop:=
 ∀ (pins:List (Addr×Obj)) (s:Nv) (σ:St) (H:Hp) (x:V) (v vl vu:Nu) (lo hi:Option Int) (sl:Addr) (Q:VK),Inv X pins σ H s->RelV x v->s.heap.IsSliceOf sl vl vu .none->IsPart vl lo->IsPart vu hi->r x lo hi H Q->
  ∃ T id,U6 (.type T) "__getitem__" = pure (some (.builtin id))/\s.TypeIs v T/\NL (NS X.prog X.w) X.A (S4 v (.ref sl)) (EP X pins σ Q) X.xe s
theorem SlR.or {r r':V->Option Int->Option Int->Hp->VK->Prop}(h:SlR X r)(h':SlR X r'):SlR X (λx lo hi H Q=>r x lo hi H Q∨r' x lo hi H Q):=by
 intro pins s σ H x v vl vu lo hi sl Q I rx hs pl pu q
 rcases q with q | q
 ·exact h pins s σ H x v vl vu lo hi sl Q I rx hs pl pu q
 ·exact h' pins s σ H x v vl vu lo hi sl Q I rx hs pl pu q
def tSl (r:V->Option Int->Option Int->Hp->VK->Prop)(te:TE)(tl th:TO):TE:=λσ H Q=>te σ H λx H1=>tl σ H1 λl H2=>th σ H2 λu H3=>r x l u H3 Q
theorem Dd {r:V->Option Int->Option Int->Hp->VK->Prop}(hr:SlR X r)(he:PE X e te)(hl:PO X lo tl)(hu:PO X hi th):PE X (.Subscript e (.Slice lo hi none p2) pos) (tSl r te tl th):=by
 intro pins s σ H Q I h
 refine Subscript_ (thn (he pins s σ H _ I h) λv s1 ⟨x,H1,I1,r1,q1⟩=>?_)
 refine wpAny_Slice (thn (hl pins s1 σ H1 _ I1 q1) λvl s2 ⟨l,H2,I2,pl,q2⟩=>thn (hu pins s2 σ H2 _ I2 q2) λvu s3 ⟨u,H3,I3,pu,q3⟩=>?_)
 rw[evalPart_none]
 refine wpAny_pure ?_
 have I4:Inv X pins σ H3 { s3 with heap:=s3.heap.push { cls:=.type "slice", data:=.fields #[vl,vu,.none] } }:=I3.kept (t':=s3.toks) λb ob q=>Nw _ q
 obtain ⟨T,id,hT,ht,hg⟩:=hr pins { s3 with heap:=s3.heap.push { cls:=.type "slice", data:=.fields #[vl,vu,.none] } } σ H3 x v vl vu l u s3.heap.objs.size Q I4 r1 (VN ..) pl pu q3
 show NL (NS X.prog X.w) X.A (subscriptTail e (.Slice lo hi none p2) v (.ref s3.heap.objs.size)) (EP X pins σ Q) X.xe { s3 with heap:=s3.heap.push { cls:=.type "slice", data:=.fields #[vl,vu,.none] } }
 exact tail_any (ops:=[.ref s3.heap.objs.size,v]) ht hT hg (by with_unfolding_all rfl)
def tV (xs:List V)(lo hi:Option Int):List V:=(xs.drop (HT.sIx xs.length 0 lo)).take (HT.sIx xs.length xs.length hi - HT.sIx xs.length 0 lo)
theorem lG (xs:List V)(lo hi:Option Int):(tV xs lo hi).length<=xs.length:=by
 unfold tV
 rw[PF,PJ]
 omega
def M4 (K:Nt):V->Option Int->Option Int->Hp->VK->Prop:=λx lo hi H Q=>∃ a xs,x=.ref a/\SqT K H a xs/\
 ¬ (HT.sIx xs.length 0 lo=0/\HT.sIx xs.length xs.length hi=xs.length)/\∀ p,H p=none->Q (.ref p) (upd H p (.tup (tV xs lo hi)))
theorem IB:SlR X (M4 X.K):=by
 intro pins s σ H x v vl vu lo hi sl Q I rx hs pl pu h
 obtain ⟨a,xs,rfl,hx,hw,q⟩:=h
 cases rx
 obtain ⟨its,r,ht,hz⟩:=I.tuple hx
 have hlen:its.toArray.size=xs.length:=by rw[NJ];exact r.length.symm
 refine ⟨"tuple", _,Oi.lookup,ht.typeIs,?_⟩
 refine HT.jM ht hs pl pu (by rw[hlen];exact hw) ?_ (by rw[hlen];exact hz)
 rw[hlen]
 refine ⟨.ref s.heap.objs.size,_,I.laid (t':=s.toks) (o:=.tup (tV xs lo hi)) (λb ob q=>Nw _ q) (NN _) ?_,rfl,q _ (I.hok.fresh (NN _))⟩
 exact ⟨OD (lG xs lo hi) hz,_,(r.drop (HT.sIx xs.length 0 lo)).take (HT.sIx xs.length xs.length hi - HT.sIx xs.length 0 lo),qS.new _ _⟩
def GQ (K:Nt):R2:=λx y H Q=>∃ a b xs ys,x=.ref a/\y=.ref b/\SqT K H a xs/\SqT K H b ys/\xs≠[]/\xs.length+ys.length<=sizeLine/\
 (ys=[]->Q (.ref a) H)/\(ys≠[]->∀ p,H p=none->Q (.ref p) (upd H p (.tup (xs++ys))))
theorem Vals.sk {xs:List V}{us:List Nu}(r:Vals xs us):us=[]↔xs=[]:=by
 cases r with
 | nil=>simp
 | cons _ _=>simp
theorem Fs:OpR X (Pq .Add) (GQ X.K):=by
 intro pins s σ H x y v u Q I rx ry h
 obtain ⟨a,b,xs,ys,rfl,rfl,ha,hb,hx,hz,q1,q2⟩:=h
 cases rx
 cases ry
 obtain ⟨its,r1,p1,_⟩:=I.tuple ha
 obtain ⟨its2,r2,p2,_⟩:=I.tuple hb
 refine HT.Ek p1 p2 (λz=>hx (r1.sk.mp z)) (λz=>⟨.ref a,H,I,rfl,q1 (r2.sk.mp z)⟩) (λz=>?_) (by rw[← r1.length,← r2.length];exact hz)
 refine ⟨.ref s.heap.objs.size,_,I.laid (t':=s.toks) (o:=.tup (xs++ys)) (λb ob q=>Nw _ q) (NN _) ?_,rfl,q2 (λw=>z (r2.sk.mpr w)) _ (I.hok.fresh (NN _))⟩
 exact ⟨by rw[NQ];exact hz,_,r1.append r2,qS.new _ _⟩
end
end L2
namespace L2
open PySem PySem.Spec PyProof.Rows
def ixN (n:Nat)(i:Int):Option Nat:=if 0<=i then (if i < n then some i.toNat else none) else if -(n:Int)<=i then some (i+n).toNat else none
def atI {α:Type}(xs:List α)(i:Int):Option α:=(ixN xs.length i).bind λj=>xs[j]?
theorem yC {n:Nat}{i:Int}{j:Nat}(h:ixN n i=some j):seqIndex? i n=some j/\j < n/\-(n:Int)<=i/\i < n:=by
 unfold ixN at h
 by_cases h0:0<=i
 ·rw[if_pos h0] at h
  by_cases h1:i < n
  ·rw[if_pos h1] at h
   have e:i.toNat=j:=Oc h
   exact ⟨by rw[UG h0 h1,e],by omega,by omega,h1⟩
  ·rw[if_neg h1] at h;cases h
 ·rw[if_neg h0] at h
  by_cases h1:-(n:Int)<=i
  ·rw[if_pos h1] at h
   have e:(i+n).toNat=j:=Oc h
   exact ⟨by rw[T4 (by omega) h1,e],by omega,h1,by omega⟩
  ·rw[if_neg h1] at h;cases h
theorem sD {α:Type}{xs:List α}{i:Int}{v:α}(h:atI xs i=some v):∃ j,seqIndex? i xs.length=some j/\xs[j]? = some v/\j < xs.length/\-(xs.length:Int)<=i/\i < xs.length:=by
 unfold atI at h
 cases e:ixN xs.length i with
 | none=>rw[e] at h;cases h
 | some j=>
  rw[e] at h
  obtain ⟨h1,h2,h3,h4⟩:=yC e
  exact ⟨j,h1,h,h2,h3,h4⟩
def ml (b:NX):Prop:=∀ o i,subscripted b false o i=operate [o,i] (S4 o i)
def IxR (X:Cx)(r:R2):Prop:=
 ∀ (value slice:NX) (pins:List (Addr×Obj)) (s:Nv) (σ:St) (H:Hp) (x y:V) (v u:Nu) (Q:VK),Inv X pins σ H s->RelV x v->RelV y u->r x y H Q->
  subscripted slice false v u=operate [v,u] (S4 v u)->NL (NS X.prog X.w) X.A (subscriptTail value slice v u) (EP X pins σ Q) X.xe s
def MtR (X:Cx)(id:String)(r:V->List V->Hp->VK->Prop):Prop:=
 ∀ (pins:List (Addr×Obj)) (s:Nv) (σ:St) (H:Hp) (x:V) (xs:List V) (v:Nu) (us:List Nu) (Q:VK),Inv X pins σ H s->RelV x v->Vals xs us->r x xs H Q->
  NL (NS X.prog X.w) X.A (call (.builtin id) (v::us)) (EP X pins σ Q) X.xe s
section
variable {X:Cx} {a b:NX} {ta tb:TE} {pos:Pos}
theorem IxR.or {r r':R2}(h:IxR X r)(h':IxR X r'):IxR X (λx y H Q=>r x y H Q∨r' x y H Q):=by
 intro value slice pins s σ H x y v u Q I rx ry q hs
 rcases q with q | q
 ·exact h value slice pins s σ H x y v u Q I rx ry q hs
 ·exact h' value slice pins s σ H x y v u Q I rx ry q hs
theorem CO {r:R2}(hr:IxR X r)(ha:PE X a ta)(hb:PE X b tb)(hs:ml b):PE X (.Subscript a b pos) (tOp r ta tb):=by
 intro pins s σ H Q I h
 exact Subscript_ (J3 ha hb I h λv u s2 x y H2 I2 rx ry q=>hr a b pins s2 σ H2 x y v u Q I2 rx ry q (hs _ _))
def LP (K:Nt):R2:=λx y H Q=>∃ p xs i v,x=.ref p/\y=.int i/\SqL K H p xs/\atI xs i=some v/\Q v H
def LC (K:Nt):R2:=λx y H Q=>∃ p xs i v,x=.ref p/\y=.int i/\SqT K H p xs/\atI xs i=some v/\Q v H
def Iz:R2:=λx y H Q=>∃ z i c,x=.str z/\y=.int i/\z.length<=sizeLine/\atI z.cps.toList i=some c/\Q (.str ⟨#[c]⟩) H
theorem FL:IxR X (LP X.K):=by
 intro value slice pins s σ H x y v u Q I rx ry h hs
 obtain ⟨p,xs,i,z,rfl,rfl,hq,he,q⟩:=h
 cases rx
 obtain ⟨t,rfl⟩:=ry
 obtain ⟨its,r,pl,hz⟩:=I.list hq
 obtain ⟨j,h1,h2,h3,h4,h5⟩:=sD he
 obtain ⟨w,ew,rw'⟩:=r.get h2
 have hl:=r.length
 have hn:=kD
 have fin:EP X pins σ Q w s:=⟨z,H,I,rw',q⟩
 by_cases h0:0<=i
 ·have hj:i.toNat=j:=by
   rw[UG h0 h5] at h1
   exact Oc h1
  exact item_listR pl.isList h0 (by omega) (by rw[hj];simpa using ew) fin hs
 ·have hj:(i+(its.toArray.size:Int)).toNat=j:=by
   rw[T4 (by omega) h4] at h1
   rw[NJ,← hl]
   exact Oc h1
  exact R8 (x:=w) pl.isList.typeIs T5.lookup
   (wpAny_getItem_list_neg (Q:=λr s'=>r=w/\EP X pins σ Q r s') pl.isList (by omega) (by rw[NJ]<;>omega) (by omega) (by rw[hj];simpa using ew) ⟨rfl,fin⟩) hs
theorem IY:IxR X (LC X.K):=by
 intro value slice pins s σ H x y v u Q I rx ry h hs
 obtain ⟨p,xs,i,z,rfl,rfl,hq,he,q⟩:=h
 cases rx
 obtain ⟨t,rfl⟩:=ry
 obtain ⟨its,r,pl,hz⟩:=I.tuple hq
 obtain ⟨j,h1,h2,h3,h4,h5⟩:=sD he
 obtain ⟨w,ew,rw'⟩:=r.get h2
 have hl:=r.length
 have hn:=kD
 have fin:EP X pins σ Q w s:=⟨z,H,I,rw',q⟩
 exact R8 (x:=w) pl.typeIs slot_tuple_getitem.lookup
  (getItem_tuple (j:=j) (Q:=λr s'=>r=w/\EP X pins σ Q r s') pl (by omega) (by omega) (by rw[NJ,← hl];exact h1) (by simpa using ew) ⟨rfl,fin⟩) hs
theorem DI:IxR X Iz:=by
 intro value slice pins s σ H x y v u Q I rx ry h hs
 obtain ⟨z,i,c,rfl,rfl,hz,he,q⟩:=h
 obtain ⟨t,rfl⟩:=rx
 obtain ⟨t',rfl⟩:=ry
 obtain ⟨j,h1,h2,h3,h4,h5⟩:=sD he
 have hl:z.cps.toList.length=z.length:=by simp[Str.length]
 rw[hl] at h1 h4 h5
 have hn:=kD
 exact tail_any (U7 s z t) slot_str_getitem.lookup (getItem_str (c:=c) (by
  have e1:decide (i < -(2 ^ 63:Int))=false:=decide_eq_false (by omega)
  have e2:decide (i ≥ 2 ^ 63)=false:=decide_eq_false (by omega)
  rw[e1,e2,Tp]) (by rw[h1];simpa using h2) ⟨.str ⟨#[c]⟩,H,I.tok _,⟨_,rfl⟩,q⟩) hs
def rIx (K:Nt):R2:=λx y H Q=>LP K x y H Q∨LC K x y H Q∨Iz x y H Q
theorem JB:IxR X (rIx X.K):=FL.or (IY.or DI)
theorem vV (its:List Nu)(n j:Nat)(u:Nu):PU (·.setIfInBounds j u) { cls:=.type "list", data:=.seq its.toArray n }={ cls:=.type "list", data:=.seq (its.set j u).toArray n }:=by
 simp[PU]
theorem Inv.lst {pins:List (Addr×Obj)}{σ:St}{H:Hp}{s:Nv}{p:Addr}{xs:List V}(I:Inv X pins σ H s)(h:H p=some (.lst xs)) :
  ∃ (its:List Nu) (n:Nat),Vals xs its/\s.heap.get? p=some { cls:=.type "list", data:=.seq its.toArray n }/\xs.length<=sizeLine:=by
 obtain ⟨z,its,n,r,e⟩:=I.hok p _ h
 exact ⟨its,n,r,e,z⟩
theorem Inv.IM {pins:List (Addr×Obj)}{σ:St}{H:Hp}{s:Nv}{p:Addr}{xs ys:List V}{its its':List Nu}{n n':Nat}{f:Obj->Obj}(I:Inv X pins σ H s)(h:H p=some (.lst xs))
  (ho:s.heap.get? p=some { cls:=.type "list", data:=.seq its.toArray n }) (hf:f { cls:=.type "list", data:=.seq its.toArray n }={ cls:=.type "list", data:=.seq its'.toArray n' }) (r:Vals ys its') (hz:ys.length<=sizeLine) (t:Nat) :
  Inv X pins σ (upd H p (.lst ys)) { s with heap:=s.heap.update p f,toks:=t }:=by
 have e:(s.heap.update p f).get? p=some { cls:=.type "list", data:=.seq its'.toArray n' }:=by
  rw[Oj f ho (by rw[hf]<;>rfl),hf]
 refine I.write (x:=p) (e:=p) (by rw[h];trivial) (.inl rfl) (λb u hb q=>(Og _ _ (PC hb)).trans q) ⟨_,e⟩ ?_
 exact ⟨hz,its',n',r,e⟩
def LN:V->V->V->Hp->(Hp->Prop)->Prop:=λo i v H Q=>∃ p xs k j,o=.ref p/\i=.int k/\H p=some (.lst xs)/\ixN xs.length k=some j/\Q (upd H p (.lst (xs.set j v)))
theorem set_list:LL X LN:=by
 intro pins s σ H o i v ov iv u Q I ro ri rv h
 obtain ⟨p,xs,k,j,rfl,rfl,hp,hj,q⟩:=h
 cases ro
 obtain ⟨t,rfl⟩:=ri
 obtain ⟨its,n,r,ho,hz⟩:=I.lst hp
 obtain ⟨h1,h2,h3,h4⟩:=yC hj
 have hl:=r.length
 have hn:=kD
 have I':Inv X pins σ (upd H p (.lst (xs.set j v))) { s with heap:=s.heap.update p (PU (·.setIfInBounds j u)) }:=
  I.IM hp ho (vV its n j u) (r.set rv j) (by rw[List.length_set];exact hz) s.toks
 by_cases h0:0<=k
 ·have hk:k.toNat=j:=by
   rw[UG h0 h4] at h1
   exact Oc h1
  exact PySem.W.ki_setAt ho h0 (by omega) (by rw[NJ,← hl];exact h4) (by rw[hk];exact ⟨_,I',q⟩)
 ·have hk:(k+(its.toArray.size:Int)).toNat=j:=by
   rw[T4 (by omega) h3] at h1
   rw[NJ,← hl]
   exact Oc h1
  exact PySem.W.ki_setBack ho (by omega) (by rw[NJ,← hl];exact h3) (by omega) (by rw[hk];exact ⟨_,I',q⟩)
theorem qR (lo hi:Option Int)(n:Nat):(Qk lo hi none n).1=((HT.sIx n 0 lo:Nat):Int)/\(Qk lo hi none n).2.1=((HT.sIx n n hi:Nat):Int)/\(Qk lo hi none n).2.2=1:=by
 refine ⟨?_,?_,rfl⟩
 ·cases lo with
  | none=>simp[Qk,HT.sIx]
  | some i=>
   simp only[Qk,HT.sIx,Uy,show (1:Int) > 0 by decide,if_true]
   by_cases h:i < 0
   ·simp only[h,if_true]<;>omega
   ·simp only[h,if_false]<;>omega
 ·cases hi with
  | none=>simp[Qk,HT.sIx]
  | some i=>
   simp only[Qk,HT.sIx,Uy,show (1:Int) > 0 by decide,if_true]
   by_cases h:i < 0
   ·simp only[h,if_true]<;>omega
   ·simp only[h,if_false]<;>omega
theorem o7 (its:List Nu)(lo hi:Option Int):slicePick its.toArray lo hi none=((its.drop (HT.sIx its.length 0 lo)).take (HT.sIx its.length its.length hi - HT.sIx its.length 0 lo)).toArray:=by
 obtain ⟨h1,h2,h3⟩:=qR lo hi its.toArray.size
 unfold slicePick
 rw[h1,h2,h3]
 simp only[sliceRange_one,pick_run,NJ]<;>rfl
def MR (K:Nt):V->Option Int->Option Int->Hp->VK->Prop:=λx lo hi H Q=>∃ a xs,x=.ref a/\SqL K H a xs/\∀ p,H p=none->Q (.ref p) (upd H p (.lst (tV xs lo hi)))
theorem GL:SlR X (MR X.K):=by
 intro pins s σ H x v vl vu lo hi sl Q I rx hs pl pu h
 obtain ⟨a,xs,rfl,hx,q⟩:=h
 cases rx
 obtain ⟨its,r,ht,hz⟩:=I.list hx
 have hlen:=r.length
 refine ⟨"list", _,T5.lookup,ht.isList.typeIs,?_⟩
 refine wpAny_getItem_list_slice ht.isList hs pl pu .none (by simp) ?_ (by rw[NJ]<;>omega)
 rw[o7,← hlen]
 refine ⟨.ref s.heap.objs.size,_,I.laid (t':=s.toks) (o:=.lst (tV xs lo hi)) (λb ob q=>Nw _ q) (NN _) ?_,rfl,q _ (I.hok.fresh (NN _))⟩
 exact ⟨OD (lG xs lo hi) hz,_,0,(r.drop (HT.sIx xs.length 0 lo)).take (HT.sIx xs.length xs.length hi - HT.sIx xs.length 0 lo),NH _ rfl⟩
def GZ:V->Bool
 | .non=>true
 | .bl _=>true
 | .int _=>true
 | .str _=>true
 | _=>false
def eqV:V->V->Bool
 | .non,.non=>true
 | .bl a,.bl b=>a == b
 | .bl a,.int b=>(if a then 1 else 0) == b
 | .int a,.bl b=>a == (if b then 1 else 0)
 | .int a,.int b=>a == b
 | .str a,.str b=>a == b
 | _,_=>false
def inV (x:V)(xs:List V):Bool:=xs.any λy=>eqV y x
def rIn (K:Nt)(neg:Bool):R2:=λx y H Q=>∃ p xs,y=.ref p/\(SqL K H p xs∨SqT K H p xs)/\GZ x=true/\xs.all GZ=true/\Q (.bl (if neg then !inV x xs else inV x xs)) H
theorem sV:b8 X (.builtin "len") (λxs H Q=>∃ p ys,xs=[.ref p]/\(SqL X.K H p ys∨SqT X.K H p ys)/\Q (.int ys.length) H):=by
 intro pins s σ H xs us Q I r h
 obtain ⟨p,ys,rfl,hq,q⟩:=h
 obtain ⟨u,rfl,rx⟩:=vals1 r
 cases rx
 have hn:=kD
 rcases hq with hq | hq
 ·obtain ⟨its,r',pl,hz⟩:=I.list hq
  have hlen:=r'.length
  exact Calls.call_len_list pl.isList (by simp only[NJ]<;>omega) ⟨.int ys.length,H,I.tok _,⟨s.toks+1,by rw[NJ,hlen]⟩,q⟩
 ·obtain ⟨its,r',pl,hz⟩:=I.tuple hq
  have hlen:=r'.length
  exact len_tuple pl (by simp only[NJ]<;>omega) ⟨.int ys.length,H,I.tok _,⟨s.toks+1,by rw[NJ,hlen]⟩,q⟩
theorem r9:b8 X (.builtin "len") (λxs H Q=>∃ z,xs=[.str z]/\z.length<=sizeLine/\Q (.int z.length) H):=by
 intro pins s σ H xs us Q I r h
 obtain ⟨z,rfl,hz,q⟩:=h
 obtain ⟨u,rfl,t,rfl⟩:=vals1 r
 have hn:=kD
 exact len_str (by omega) ⟨.int z.length,H,I.tok _,⟨_,rfl⟩,q⟩
theorem b8.or {f:Nu}{r r':List V->Hp->VK->Prop}(h:b8 X f r)(h':b8 X f r'):b8 X f (λxs H Q=>r xs H Q∨r' xs H Q):=by
 intro pins s σ H xs us Q I rs q
 rcases q with q | q
 ·exact h pins s σ H xs us Q I rs q
 ·exact h' pins s σ H xs us Q I rs q
theorem sT:b8 X (.type "list") (λxs H Q=>∃ p ys,xs=[.ref p]/\(SqL X.K H p ys∨SqT X.K H p ys)/\∀ l,H l=none->Q (.ref l) (upd H l (.lst ys))):=by
 intro pins s σ H xs us Q I r h
 obtain ⟨p,ys,rfl,hq,q⟩:=h
 obtain ⟨u,rfl,rx⟩:=vals1 r
 cases rx
 have fin:∀ (its:List Nu),Vals ys its->ys.length<=sizeLine->∀ (h':Heap) (c':Nat),(∀ b o',s.heap.get? b=some o'->h'.get? b=some o')->
   h'.get? s.heap.objs.size=some { cls:=.type "list", dict:=none,data:=.seq its.toArray c',slots:=#[] }->EP X pins σ Q (.ref s.heap.objs.size) { s with heap:=h' }:=λits r' hz h' c' kp e=>
  ⟨.ref s.heap.objs.size,_,I.laid (t':=s.toks) kp (NN _) (show dW X.prog X.w _ h' _ (.lst ys) from ⟨hz,its,c',r',e⟩),rfl,q _ (I.hok.fresh (NN _))⟩
 rcases hq with hq | hq
 ·obtain ⟨its,r',pl,hz⟩:=I.list hq
  have hlen:=r'.length
  obtain ⟨o,ho,hc,n,hd⟩:=pl.isList
  exact call_list_seq p (.inl rfl) ho hc hd (λh' c' kp e=>fin its r' hz h' c' kp e) (by simp only[NJ]<;>omega)
 ·obtain ⟨its,r',pl,hz⟩:=I.tuple hq
  have hlen:=r'.length
  obtain ⟨o,ho,hc,n,hd⟩:=pl
  exact call_list_seq p (.inr rfl) ho hc hd (λh' c' kp e=>fin its r' hz h' c' kp e) (by simp only[NJ]<;>omega)
theorem cB:b8 X (.type "tuple") (λxs H Q=>∃ p ys,xs=[.ref p]/\((SqL X.K H p ys/\∀ l,H l=none->Q (.ref l) (upd H l (.tup ys)))∨(SqT X.K H p ys/\Q (.ref p) H))):=by
 intro pins s σ H xs us Q I r h
 obtain ⟨p,ys,rfl,h⟩:=h
 obtain ⟨u,rfl,rx⟩:=vals1 r
 cases rx
 rcases h with ⟨hq,q⟩ | ⟨hq,q⟩
 ·obtain ⟨its,r',pl,hz⟩:=I.list hq
  have hlen:=r'.length
  refine call_tuple_list pl.isList (λh' kp=>?_) (by simp only[NJ]<;>omega)
  have I1:Inv X pins σ H { s with heap:=h' }:=I.kept (t':=s.toks) kp
  have I2:Inv X pins σ (upd H h'.objs.size (.tup ys)) { s with heap:=h'.push { cls:=.type "tuple", data:=.seq its.toArray } }:=
   I1.laid (t':=s.toks) (λb o e=>Nw _ e) (NN _) (show dW X.prog X.w _ _ _ (.tup ys) from ⟨hz,its,r',qS.new _ _⟩)
  exact ⟨.ref h'.objs.size,_,I2,rfl,q _ (I1.hok.fresh (NN _))⟩
 ·obtain ⟨its,r',pl,hz⟩:=I.tuple hq
  exact call_tuple_same pl ⟨.ref p,H,I,rfl,q⟩
def tyV (K:Nt)(T:String)(x:V)(H:Hp):Prop:=match x with
 | .str _=>T = "str"
 | .int _=>T = "int"
 | .ref p=>(T = "list" /\ ∃ xs,SqL K H p xs)∨(T = "tuple" /\ ∃ o,K.lookup p=some o/\o.cls=.type "tuple" /\ o.dict=none)∨
   (T = "dict" /\ ((∃ kvs,H p=some (.dK kvs))∨∃ kvs,H p=some (.dT kvs)))∨(T = "set" /\ ∃ S n,H p=some (.set S n))
 | _=>False
theorem IK {pins:List (Addr×Obj)}{σ:St}{H:Hp}{s:Nv}{T:String}{x:V}{v:Nu}(I:Inv X pins σ H s)(r:RelV x v)(ty:tyV X.K T x H) :
  s.TypeIs v T/\∀ a,v=.ref a->∃ ob,s.heap.get? a=some ob/\ob.dict=none:=by
 cases x with
 | str z=>
  obtain ⟨t,rfl⟩:=r
  cases (show T = "str" from ty)
  exact ⟨U7 s z t,λ_ e=>nomatch e⟩
 | int i=>
  obtain ⟨t,rfl⟩:=r
  cases (show T = "int" from ty)
  exact ⟨typeIs_int s i t,λ_ e=>nomatch e⟩
 | ref p=>
  cases r
  rcases ty with ⟨rfl,xs,hq⟩ | ⟨rfl,o,hk,hc,hd⟩ | ⟨rfl,hk⟩ | ⟨rfl,S,n,hk⟩
  ·obtain ⟨its,_,pl,_⟩:=I.list hq
   refine ⟨pl.isList.typeIs,λa e=>?_⟩
   cases e
   obtain ⟨o,n,e,c,hd,_⟩:=pl
   exact ⟨o,e,hd⟩
  ·refine ⟨⟨o,I.kIn p o hk,hc⟩,λa e=>?_⟩
   cases e
   exact ⟨o,I.kIn _ o hk,hd⟩
  ·have z:∃ o,s.heap.get? p=some o/\o.ExactDict:=by
    rcases hk with ⟨kvs,hk⟩ | ⟨kvs,hk⟩
    ·obtain ⟨_,_,_,_,o,_,_,e,ex,_⟩:=I.hok p _ hk
     exact ⟨o,e,ex⟩
    ·obtain ⟨_,_,_,_,o,_,_,e,ex,_⟩:=I.hok p _ hk
     exact ⟨o,e,ex⟩
   obtain ⟨o,e,ex⟩:=z
   refine ⟨⟨o,e,ex.1⟩,λa e2=>?_⟩
   cases e2
   exact ⟨o,e,ex.2.1⟩
  ·obtain ⟨o,_,_,_,e,ex,_⟩:=I.hok p _ hk
   refine ⟨⟨o,e,ex.1⟩,λa e2=>?_⟩
   cases e2
   exact ⟨o,e,ex.2.1⟩
 | _=>exact Ny ty
def tBM (K:Nt)(T:String)(r:V->List V->Hp->VK->Prop)(to:TE)(t:TA):TE:=λσ H Q=>to σ H λx H1=>tyV K T x H1/\t σ H1 λxs H2=>r x xs H2 Q
variable {o e:NX} {es:List NX} {to:TE} {t:TA} {name:Str} {apos cpos:Pos} {T id:String} {r:V->List V->Hp->VK->Prop}
theorem G5 (pa:PlainAttrs T)(slot:Slot T name id)(hty:typeOf (.builtin id)=pure (.type "method_descriptor"))(hm:MtR X id r)(ho:PE X o to)(ha:PA X (e::es) t)
  (hbase:QO o name X.env (OF o X.env)=OF o X.env:=by rfl)
  (hfew:((N8 cpos (Nx (e::es) X.env)).all (λx=>!x.1)&&(T6 cpos (RA [] X.env)).all (λx=>x.1.isSome)
   && decide ((e::es).length+([]:List QN).length+(if ([]:List QN).isEmpty then 0 else 1) < 30))=true:=by rfl)
  (hline:(apos.endLine == cpos.line)=true:=by rfl) (hs:Nx (e::es) X.env=(false,OF e X.env)::Nx es X.env:=by rfl) (hplain:(N8 cpos (Nx es X.env)).any (·.1)=false:=by rfl) :
  PE X (.Call (.Attribute o name apos) (e::es) [] cpos) (tBM X.K T r to t):=by
 intro pins s σ H Q I h
 refine R9 hbase hfew hline rfl (thn (ho pins s σ H _ I h) λv s1 ⟨x,H1,I1,r1,ty,q1⟩=>?_)
 obtain ⟨h1,h2⟩:=IK I1 r1 ty
 refine ⟨T,id,pa,slot,hty,h1,h2,?_⟩
 have hA:=ha cpos pins s1 σ H1 _ I1 q1
 rw[hs] at hA ⊢
 refine Sa (by show (false || (N8 cpos (Nx es X.env)).any (·.1))=false;rw[hplain]<;>rfl) (SI ?_)
 exact thn hA λus s2 ⟨vs,H2,I2,r2,q2⟩=>hm pins s2 σ H2 x vs v us Q I2 r1 r2 q2
end
end L2
namespace L2
open PySem PySem.Spec PyProof.Rows
def MtM (X:Cx)(id:String)(r:V->List V->Hp->VK->Prop):Prop:=
 ∀ (pins:List (Addr×Obj)) (s:Nv) (σ:St) (H:Hp) (x:V) (xs:List V) (v:Nu) (us:List Nu) (Q:VK),Inv X pins σ H s->RelV x v->Vals xs us->r x xs H Q->
  NL (NS X.prog X.w) X.A (call (.builtin id) (v::us)) (EP X pins σ Q) X.xe s
theorem Vals.one:∀ {x:V} {us:List Nu},Vals [x] us->∃ u,us=[u]/\RelV x u
 | _,_,.cons r .nil=>⟨_,rfl,r⟩
theorem Vals.zero:∀ {us:List Nu},Vals [] us->us=[]
 | _,.nil=>rfl
theorem Vals.reverse {xs:List V}{us:List Nu}(h:Vals xs us):Vals xs.reverse us.reverse:=by
 induction h with
 | nil=>exact .nil
 | cons r t ih=>rw[Pu,Pu];exact Vals.append ih (.cons r .nil)
section
variable {X:Cx} {pins:List (Addr×Obj)} {σ:St} {H:Hp} {s:Nv} {l b:Addr} {xs ys zs:List V}
theorem Inv.M9 {its its':List Nu}{n:Nat}{f:Array Nu->Array Nu}{t':Nat}(I:Inv X pins σ H s)(hH:H l=some (.lst xs))
  (e:s.heap.get? l=some { cls:=.type "list", data:=.seq its.toArray n }) (hf:f its.toArray=its'.toArray) (hv:Vals ys its') (hz:ys.length<=sizeLine) :
  Inv X pins σ (upd H l (.lst ys)) { s with heap:=s.heap.update l (PU f),toks:=t' }:=by
 have q:=PySem.IsL.update e f
 rw[hf] at q
 refine I.write (x:=l) (e:=l) (by rw[hH];exact trivial) (.inl rfl) (λb' u hb hu=>(Og s.heap (PU f) (PC hb)).trans hu) ⟨_,q⟩ ?_
 exact ⟨hz,its',_,hv,q⟩
theorem Inv.MT {its:List Nu}{t':Nat}(I:Inv X pins σ H s)(hv:Vals ys its)(hz:ys.length<=sizeLine) :
  Inv X pins σ (upd H s.heap.objs.size (.lst ys)) { s with heap:=s.heap.push { cls:=.type "list", data:=.seq its.toArray },toks:=t' }:=
 I.laid (λ_ _ q=>Nw _ q) (NN _) ⟨hz,its,0,hv,NH _ rfl⟩
theorem Inv.fresh (I:Inv X pins σ H s):H s.heap.objs.size=none:=I.hok.fresh (NN _)
theorem Inv.LY (I:Inv X pins σ H s)(hH:H l=some (.lst xs)):xs.length<=sizeLine/\∃ (its:List Nu) (n:Nat),Vals xs its/\xs.length=its.length/\s.heap.get? l=some { cls:=.type "list", data:=.seq its.toArray n }:=by
 obtain ⟨z,its,n,r,e⟩:=I.hok l _ hH
 exact ⟨z,its,n,r,r.length,e⟩
end
section
variable {X:Cx}
def Fj:V->List V->Hp->VK->Prop:=λx vs H Q=>∃ l xs y,x=.ref l/\vs=[y]/\H l=some (.lst xs)/\xs.length < sizeLine/\Q .non (upd H l (.lst (xs++[y])))
theorem qe:MtM X "list.append" Fj:=by
 intro pins s σ H x vs v us Q I rx rv h
 obtain ⟨l,xs,y,rfl,rfl,hH,hz,q⟩:=h
 cases rx
 obtain ⟨u,rfl,ru⟩:=rv.one
 obtain ⟨z,its,n,r,hl,e⟩:=I.LY hH
 refine call_meets F.slot_list_append ⟨_,e,rfl⟩ F.entry_list_append (F.args_list_append_2 _ _) (PySem.list_append l its.toArray n u (by rw[NJ];omega)) ⟨e,?_⟩
 refine ⟨.non,_,I.M9 (its':=its++[u]) hH e (by simp) (r.append (.cons ru .nil)) ?_,rfl,q⟩
 rw[NQ,Pl]
 omega
end
section
variable {prog:NO} {w:N0} {A:NY} {E:Nu->Nv->Prop} {s:Nv}
end
section
variable {X:Cx}
end
end L2
namespace Att
open PySem PySem.W PySem.Calls PyProof.Rows
theorem l7 {P:U8}{h:Heap}:∀ (ns:List Int) (vs:List Nu),WellAll P h vs (ns.map WData.int)->UW vs ns:=by
 intro ns
 induction ns with
 | nil=>
  intro vs w
  rw[Sd] at w
  cases w
  exact .nil
 | cons n ns ih=>
  intro vs w
  rw[N7] at w
  cases w with
  | cons a b=>
   cases a
   exact .cons _ _ (ih _ b)
theorem zj {l:OpenLaw}{n:Nat}(hn:l.most=some n){P:U8}{h:Heap}{args:List WData}{vals:List Nu}
  (hpre:l.row.toRowW.claim.pre args=true) (hwl:WellAll P h vals args) :
  ∃ a vs ns,vals=[OK a]/\args=[WData.list (ns.map WData.int)]/\h.get? a=some { cls:=.type "list", data:=.seq vs.toArray }/\UW vs ns/\ns.length<=n:=by
 have hsh:WShape.hasAll [] args [.list .int]=true:=(pre_splitW hpre).1
 have hc:l.pre.holds [] { args:=args }=true:=(pre_splitW hpre).2
 obtain ⟨d,r,rfl,h1,h2⟩:=hasAllW_cons hsh
 obtain rfl:=hasAllW_nil h2
 obtain ⟨xs,rfl,h3⟩:=hasW_list h1
 obtain ⟨ns,rfl⟩:=items_int h3
 have hlen:ns.length<=n:=by
  unfold OpenLaw.pre at hc
  have h4:(WTm.not (.lt (.lit (.int (n:Int))) (.len (.arg 0)))).holds [] { args:=[.list (ns.map .int)] }=true:=by
   have h4:=(holds_andW hc).1
   rw[hn] at h4
   exact h4
  have h5:=condW_of h4 (w_not (w_lt w_lit (w_len_list (w_arg rfl))))
  rw[NC] at h5
  refine Nat.le_of_not_lt λq=>?_
  have q':(n:Int) < ((ns.length:Nat):Int):=by omega
  first
   | (rw[decide_eq_true q'] at h5;exact absurd h5 (by decide))
   | (simp at h5;omega)
 cases hwl with
 | cons w1 w2=>
  cases w2
  cases w1 with
  | list ho hall=>exact ⟨_,_,ns,rfl,rfl,ho,l7 ns _ hall,hlen⟩
theorem Ak (l:OpenLaw)(args:List WData):l.row.toRowW.claim.post args (.bool true) args=true:=
 postW_of (r:=l.row.toRowW) (X:=(true == true))
  (show VO [] (.bool true) .bool=true by first | rfl | decide | simp[VO,WShape.arms,WShape.armsAll])
  (show (WTm.eq .res (.lit (.bool true))).value [] { args:=args,res:=some (.bool true),after:=args }=some (.bool (true == true)) from w_eq_bool (w_res rfl) w_lit) rfl
theorem vI {l:OpenLaw}{n:Nat}{q:NO}{loose:List Str}{XP:(Str->Option Nu)->Heap->Prop}{YP:N0->Heap->Prop}{d:DefRec}
  (hn:l.most=some n) (hdf:d.params.defaults=[])
  (call:∀ (w:N0) (s₀ s₁:Nv) (mg mb:Str->Option Nu) (fa:Addr) (o:Obj) (pm cd doc:Nu) (a:Addr) (vs:List Nu) (ns:List Int),
   Ground q loose [] XP w s₀ mg mb s₁.heap->YP w s₁.heap->
   s₁.heap.get? fa=some o->o.data=.func (docDef d.name d.params d.body d.scope pm cd doc)->s₁.heap.CodeRec cd d.name->mg d.name=some (.ref fa)->
   s₁.heap.get? a=some { cls:=.type "list", data:=.seq vs.toArray }->UW vs ns->ns.length<=n->s₁.gens = #[]->
   Pt (NS l.prog w) Se (.call (.ref fa) ⟨[.ref a],[]⟩) (λr s'=>r=.ok (.ret (.bool true))/\OldK s₁.heap s'.heap/\s'.os=s₁.os/\Rx s'.gens) s₁) :
  WalkO q loose XP YP l.row.toRowW d [] (λf vs=>Ro f vs):=by
 intro w s₀ s₁ mg mb G Y fa o pm cd doc dV kV ho hd hcd hD hmg hg args vals as hpre hlay hrd hwl hlo
 obtain rfl:dV=.none:=Dflts.none hD hdf
 obtain rfl:kV=.none:=Dflts.noKw hD
 obtain ⟨a,vs,ns,rfl,rfl,hobj,hints,hlen⟩:=zj hn hpre hwl
 refine enter_call (Ra (call w s₀ s₁ mg mb fa o pm cd doc a vs ns G Y ho (fd_plain hd) hcd hmg hobj hints hlen hg) λr s' hq=>?_)
 obtain ⟨rfl,h2,h3,h4⟩:=hq
 exact ⟨.inl ⟨.bool true,.bool true,[],rfl,λ_=>rfl,.bool true,Ak l _,λ_=>⟨VP,λ_ hm=>(nomatch hm)⟩⟩,h2,h3,h4⟩
section
variable {prog:NO} {w:N0} {A:NY} {E:Nu->Nv->Prop} {s:Nv} {K:Frag}
end
end Att
namespace L2
open PySem PySem.Spec PyProof.Rows
theorem qf:∀ {vs:List Nu} {ns:List Int},UW vs ns->Vals (ns.map V.int) vs
 | _,_,.nil=>.nil
 | _,_,.cons n t h=>.cons ⟨t,rfl⟩ (qf h)
def EZ (H:Hp):Prop:=∀ b,H b=none∨∃ o xs,H b=some (.frz o (.lst xs))
theorem Ba {P:NO}{w:N0}{K:Nt}{mg mb:Str->Option Nu}{CX:CXT}{k:Nat}{fa a:Addr}{fd:NU}{x:Str}{sp:Sp}{s₁:Nv}{vs:List Nu}{ns:List Int}
  (KX:K.In s₁.heap) (hns:s₁.heap.Ns Oq mg) (hb:s₁.heap.Ns UZ mb) (hbb:∀ x:Str,x ≠ "__name__" -> mb x=N4 x) (hlim:s₁.heap.NoLimit) (hg:s₁.gens = #[])
  (ha:s₁.heap.get? a=some { cls:=.type "list", data:=.seq vs.toArray }) (hi:UW vs ns) (hl:ns.length<=sizeLine) (hr:fh k Se)
  (F:∀ base:Heap,K.In base->base.Ns Oq mg->jk P w K mg base CX k fa fd [x] sp) (hbind:∀ (s:Nv) (u:Nu),TZ s fd ⟨[u],[]⟩ [(x,u)])
  (hsp:∀ H:Hp,EZ H->SqL K H a (ns.map V.int)->sp [.ref a] H (λv _=>v=.bl true) λ_ _ _=>False)
  (hCX:∀ H e s',CX [] H s₁ (λ_ _ _=>False) e s'->False) :
  Pt (NS P w) Se (.call (.ref fa) ⟨[.ref a],[]⟩) (λr s'=>r=.ok (.ret (.bool true))/\OldK s₁.heap s'.heap/\s'.os=s₁.os/\Rx s'.gens) s₁:=by
 have rv:=qf hi
 have Nd:=hi.length
 -- from an abstract heap in which nothing but the script may be tracked
 have core:∀ H:Hp,EZ H->SqL K H a (ns.map V.int)->HOk P w H s₁.heap->(∀ b,H b≠none->b=a)->(H a≠none->K.lookup a=none)->
   Pt (NS P w) Se (.call (.ref fa) ⟨[.ref a],[]⟩) (λr s'=>r=.ok (.ret (.bool true))/\OldK s₁.heap s'.heap/\s'.os=s₁.os/\Rx s'.gens) s₁:=by
  intro H hO hS hok hA hK
  have base_of:∀ {b:Addr} {o:Obj},s₁.heap.get? b=some o->H b=none->(sX s₁.heap H).get? b=some o:=λe n=>De e n
  have noA:∀ {b:Addr} {o:Obj} {es:Array Pf} {ep:Nat},s₁.heap.get? b=some o->o.data=.dict es ep->H b=none:=λ{b o es ep} e d=>by
   cases q:H b with
   | none=>rfl
   | some u=>
    have e':b=a:=hA b (by rw[q];simp)
    subst e'
    rw[ha] at e;cases e
    have d':Data.seq vs.toArray _=Data.dict es ep:=d
    cases d'
  have nsK:∀ {b:Addr} {m:Str->Option Nu},s₁.heap.Ns b m->(sX s₁.heap H).Ns b m:=λ{b m} ⟨o,es,ep,e,d,r⟩=>⟨o,es,ep,base_of e (noA e d),d,r⟩
  have hKb:K.In (sX s₁.heap H):=λb o e=>base_of (KX b o e) (by
   cases q:H b with
   | none=>rfl
   | some u=>
    have e':b=a:=hA b (by rw[q];simp)
    subst e'
    rw[hK (by rw[q];simp)] at e;cases e)
  have hM:Mod K mg (sX s₁.heap H):=⟨hKb,nsK hns,⟨mb,nsK hb,hbb⟩,let ⟨mc,h1,h2⟩:=hlim;⟨mc,nsK h1,h2⟩⟩
  have e0:ET P w K mg (sX s₁.heap H) Se [] s₁ H:=⟨rfl,hM,λb o e=>Gk e,Nat.le_of_eq (AL _ _),trivial,λb hb=>absurd (show b∈([]:List Addr) from hb) (by simp),hok,.of_eq hg⟩
  refine Ra ((F _ hKb (nsK hns)).run Se [] s₁ H ⟨[.ref a],[]⟩ [.ref a] [.ref a] _ _ hr e0 (hbind s₁ (.ref a)) (.cons rfl .nil) (hsp H hO hS)) λr s' h=>?_
  cases r with
  | error e=>exact (hCX H e s' h).elim
  | ok fl=>
   cases fl with
   | next=>exact Ny h
   | brk=>exact Ny h
   | cont=>exact Ny h
   | ret u=>
    obtain ⟨v,H',os,bare,un,hok',r',q⟩:=h
    have q':v=.bl true:=q
    subst q'
    obtain rfl:u=RY true:=r'
    refine ⟨rfl,OldK.of_keep λb o e=>?_,os,bare⟩
    cases q:H b with
    | none=>exact un.keep b o e q (by intro z;exact absurd (show b∈([]:List Addr) from z) (by simp)) (by simp)
    | some u=>
     rcases hO b with z | ⟨ob,xs,z⟩
     ·rw[q] at z;cases z
     ·have z2:=un.kr b ob _ z
      obtain ⟨e1,_⟩:=hok b _ z
      obtain ⟨e2,_⟩:=hok' b _ z2
      rw[e] at e1;cases e1
      exact e2
 cases hk:K.lookup a with
 | some o=>
  -- the script is one of the module's own objects
  have e:=KX a o hk
  rw[ha] at e
  cases e
  refine core (λ_=>none) (λ_=>.inl rfl) (.inr ⟨_,vs.toArray,_,hk,rfl,rfl,rfl,by rw[NJ,Nd];exact hl,by simpa using rv⟩) (λb u z=>by have z':(none:Option HO)=some u:=z;cases z') (λb z=>absurd rfl z) λz=>absurd rfl z
 | none=>
  refine core (λb=>if b=a then some (.frz { cls:=.type "list", data:=.seq vs.toArray } (.lst (ns.map V.int))) else none) (λb=>?_) (.inl (.inr ⟨{ cls:=.type "list", data:=.seq vs.toArray },if_pos rfl⟩)) (λb u z=>?_) (λb z=>?_) λ_=>hk
  ·by_cases hb:b=a
   ·exact .inr ⟨_,_,if_pos hb⟩
   ·exact .inl (if_neg hb)
  ·by_cases hb:b=a
   ·have z':=(if_pos hb).symm.trans z
    cases z'
    subst hb
    exact ⟨ha,by rw[NC];exact hl,vs,_,rv,ha⟩
   ·have z':=(if_neg hb).symm.trans z
    cases z'
  ·by_cases hb:b=a
   ·exact hb
   ·exact absurd (if_neg hb) z
end L2
namespace L2
open PySem PySem.Spec PyProof.Rows
theorem Ex {l:Sl}{n k:Nat}{q:NO}{loose:List Str}{XP:(Str->Option Nu)->Heap->Prop}{YP:N0->Heap->Prop}{d:DefRec}{K:U8->Nt}{CX:N0->CXT}{sp:N0->Sp}{x:Str}
  (hn:l.most=some n) (hn2:n<=sizeLine) (hdf:d.params.defaults=[]) (hr:fh k Se)
  (hY:∀ (w:N0) (h:Heap),YP w h->(K w.params).In h)
  (F:∀ (w:N0) (mg:Str->Option Nu) (fa:Addr) (h:Heap),(K w.params).In h->h.Ns Oq mg->mg d.name=some (.ref fa)->
   ∃ fd:NU,(∀ (s:Nv) (u:Nu),TZ s fd ⟨[u],[]⟩ [(x,u)])/\
    ∀ base:Heap,(K w.params).In base->base.Ns Oq mg->jk l.prog w (K w.params) mg base (CX w) k fa fd [x] (sp w))
  (hsp:∀ (w:N0) (H:Hp) (a:Addr) (ns:List Int),ns.length<=n->EZ H->SqL (K w.params) H a (ns.map V.int)->sp w [.ref a] H (λv _=>v=.bl true) λ_ _ _=>False)
  (hCX:∀ (w:N0) (H:Hp) (s:Nv) (e:Nu) (s':Nv),CX w [] H s (λ_ _ _=>False) e s'->False) :
  Vo q loose XP YP l.row.toRowW d [] (λf vs=>Ro f vs):=by
 refine Att.vI hn hdf λw s₀ s₁ mg mb fa o pm cd doc a vs ns G Y ho hd hcd hmg hobj hints hlen hg=>?_
 have KX:=hY w _ Y
 obtain ⟨fd,hb,hF⟩:=F w mg fa _ KX G.T.g hmg
 exact Ba KX G.T.g G.T.b G.T.builtins G.T.nolimit hg hobj hints (OD hlen hn2) hr hF hb (λH hO hS=>hsp w H a ns hlen hO hS) λH e s'=>hCX w H s₁ e s'
end L2
namespace L2
open PySem PySem.Spec PyProof.Rows
def jD (s:Stmt):Arguments:=match s with
 | .FunctionDef _ a _ _ _ _ _ _ _ _=>a
 | _=>{ posonlyargs:=[],args:=[],vararg:=none,kwonlyargs:=[],kw_defaults:=[],kwarg:=none,defaults:=[] }
def fx (s:Stmt):List Stmt:=match s with
 | .FunctionDef _ _ b _ _ _ _ _ _ _=>b
 | _=>[]
def ay (s:Stmt):Scope:=match s with
 | .FunctionDef _ _ _ _ _ _ sc _ _ _=>sc
 | _=>{ kind:=.function,names:=[],isGenerator:=false,isCoroutine:=false }
abbrev CX0:CXT:=λ_ _ _ _ _ _=>False
abbrev E0:XK:=λ_ _ _=>False
theorem Lq {X:Cx}:Passes CX0 X E0:=λ_ _ _ _ _ _ _ h=>h.elim
structure Fun (K:Nt) (x qual:Str) (st:Stmt) (f:Addr) (fd:NU):Prop where
 ex:∃ (oc:Nu) (od:Option Addr) (kV doc pm:Nu) (an:Option Addr) (cdv ct:Nu) (osl:Array (Option Nu)),
  fd=P4 x qual (jD st) (fx st) (ay st) .none kV doc pm an cdv ct/\K.lookup f=some ⟨oc,od,.func fd,osl⟩/\SH K cdv qual=true
 kp:Qt K (.ref f)=true
section
variable {P:NO} {w:N0} {K:Nt} {mg:Str->Option Nu} {base:Heap}
theorem Fun.ok {x qual:Str}{st:Stmt}{f:Addr}{fd:NU}{N ps:List Str}{k:Nat}{sp:Sp}(F:Fun K x qual st f fd)(S:aM N ps (ay st))(len:∀ vs H Q E,sp vs H Q E->vs.length=ps.length)
  (hbody:∀ (cdv:Nu) (A:NY) (outer:List Env) (s:Nv) (H:Hp) (vs:List V) (Q:VK) (E:XK),fh k (A.deeper (Rk qual (ay st) s.heap.objs.size f cdv))->sp vs H Q E->
   ∃ t,PSs (ud CX0 P w K mg base N qual (ay st) f cdv A outer s H E).nox (fx st) t/\t { nx:=λ_ H'=>Q .non H',rt:=Q } (start N vs) H):jk P w K mg base CX0 (k+1) f fd ps sp:=by
 obtain ⟨oc,od,kV,doc,pm,an,cdv,ct,osl,rfl,lk,hcd⟩:=F.ex
 refine Kt lk hcd S len λA outer s H vs Q E hr hsp=>?_
 obtain ⟨t,h,q⟩:=hbody cdv A outer s H vs Q E hr hsp
 exact ⟨t,h.nox,q⟩
theorem Fun.binds {x qual:Str}{st:Stmt}{f:Addr}{fd:NU}{ps:List Str}(F:Fun K x qual st f fd)
  (h:∀ (kV doc pm:Nu) (an:Option Addr) (cdv ct:Nu) (us:List Nu),us.length=ps.length->bindArgs (P4 x qual (jD st) (fx st) (ay st) .none kV doc pm an cdv ct) ⟨us,[]⟩=pure (ps.zip us)):Binds K fd ps []:=by
 obtain ⟨oc,od,kV,doc,pm,an,cdv,ct,osl,rfl,lk,hcd⟩:=F.ex
 exact .all (h kV doc pm an cdv ct)
theorem aY {x qual:Str}{st:Stmt}{f:Addr}{oc:Nu}{od an:Option Addr}{osl:Array (Option Nu)}{kV doc pm cdv ct:Nu}(l:K.lookup f=some ⟨oc,od,.func (P4 x qual (jD st) (fx st) (ay st) .none kV doc pm an cdv ct),osl⟩)
  (c:SH K cdv qual=true) (k:Qt K (.ref f)=true):Fun K x qual st f (P4 x qual (jD st) (fx st) (ay st) .none kV doc pm an cdv ct):=⟨⟨oc,od,kV,doc,pm,an,cdv,ct,osl,rfl,l,c⟩,k⟩
end
section
variable {X:Cx}
theorem pv (i:Nat){x:Str}{pos:Pos}(hN:X.N[i]? = some x:=by rfl)(hv:Vis X.env.scope x:=by first | exact SJ rfl | exact RG (SJ rfl) | exact RG (RG rfl))(hd:(x == ("__debug__" : Str))=false:=by decide)
  (hcd:(x == ("__classdict__" : Str))=false:=by decide):PE X (.Name x pos) (K4 i):=Cg hN hv hd hcd
end
theorem rQ {A B:Prop}(h:B):if false=true then A else B:=by
 rw[if_neg Rj]
 exact h
theorem sN {A B:Prop}(h:A):if true=true then A else B:=by
 rw[if_pos rfl]
 exact h
def vE (H H':Hp):Prop:=∀ b o,H b=some o->H' b=some o
theorem vE.trans {H H1 H2:Hp}(a:vE H H1)(b:vE H1 H2):vE H H2:=λc o h=>b c o (a c o h)
theorem vE.free {H H':Hp}(e:vE H H'){l:Addr}(h:H' l=VH):H l=VH:=by
 cases q:H l with
 | none=>rfl
 | some o=>
  rw[e l o q] at h
  cases h
theorem vE.seq {K:Nt}{H H':Hp}{a:Addr}{xs:List V}(e:vE H H')(h:SqL K H a xs):SqL K H' a xs:=by
 rcases h with (h | ⟨o,h⟩) | h
 ·exact .inl (.inl (e _ _ h))
 ·exact .inl (.inr ⟨o,e _ _ h⟩)
 ·exact .inr h
end L2
namespace L2
open PySem PySem.Spec PyProof.Rows
section
variable {κ:Type} [DecidableEq κ]
def nH (kvs:List (κ×V))(k:κ):Option V:=(kvs.find? λkv=>decide (kv.1=k)).map (·.2)
def putK (kvs:List (κ×V))(k:κ)(v:V):List (κ×V):=
 if (kvs.any λkv=>decide (kv.1=k))=true then kvs.map (λkv=>if kv.1=k then (kv.1,v) else kv) else kvs++[(k,v)]
def GX (kvs:List (κ×V))(k:κ):List (κ×V):=kvs.filter λkv=>decide (kv.1≠k)
theorem uv {p:κ×V}{r:List (κ×V)}{k:κ}(e:p.1=k):nH (p::r) k=some p.2:=by simp[nH,Ov,e]
theorem tM {p:κ×V}{r:List (κ×V)}{k:κ}(e:¬ p.1=k):nH (p::r) k=nH r k:=by simp[nH,Ov,e]
theorem zE.getD {o:Option V}{u:Option Nu}{d:V}{d':Nu}(r:zE o u)(rd:RelV d d'):RelV (o.getD d) (u.getD d'):=by
 cases o with
 | none=>cases u with
  | none=>exact rd
  | some _=>exact (show False from r).elim
 | some _=>cases u with
  | none=>exact (show False from r).elim
  | some _=>exact r
theorem KV.val {kvs:List (κ×V)}{vs:List (κ×Nu)}(r:KV kvs vs)(k:κ):zE (nH kvs k) (T7 vs k):=by
 unfold KV at r
 induction r with
 | nil=>exact Qg
 | @cons p q ps qs h t ih=>
  obtain ⟨h1,h2⟩:=h
  by_cases e:p.1=k
  ·have e':q.1=k:=h1.symm.trans e
   have b:T7 (q::qs) k=some q.2:=by simp[T7,Ov,e']
   rw[uv e,b];exact h2
  ·have e':¬ q.1=k:=λz=>e (h1.trans z)
   have b:T7 (q::qs) k=T7 qs k:=by simp[T7,Ov,e']
   rw[tM e,b];exact ih
theorem KV.any {kvs:List (κ×V)}{vs:List (κ×Nu)}(r:KV kvs vs)(k:κ):(kvs.any λkv=>decide (kv.1=k))=vs.any λkv=>decide (kv.1=k):=by
 unfold KV at r
 induction r with
 | nil=>rfl
 | cons h t ih=>rw[QP,QP,ih,h.1]
theorem KV.drop {kvs:List (κ×V)}{vs:List (κ×Nu)}(r:KV kvs vs)(k:κ):KV (GX kvs k) (without vs k):=by
 unfold KV at r ⊢
 unfold GX without
 induction r with
 | nil=>exact .nil
 | @cons p q ps qs h t ih=>
  obtain ⟨h1,h2⟩:=h
  rw[Uz,Uz]
  by_cases e:p.1=k
  ·have a:¬ decide (p.1≠k)=true:=by simp[e]
   have b:¬ decide (q.1≠k)=true:=by simp[h1.symm.trans e]
   rw[if_neg a,if_neg b];exact ih
  ·have e':¬ q.1=k:=λz=>e (h1.trans z)
   have a:decide (p.1≠k)=true:=by simp[e]
   have b:decide (q.1≠k)=true:=by simp[e']
   rw[if_pos a,if_pos b];exact .cons ⟨h1,h2⟩ ih
theorem KV.length {kvs:List (κ×V)}{vs:List (κ×Nu)}(r:KV kvs vs):kvs.length=vs.length:=Vn r
end
theorem GW {P:NO}{w:N0}{k:Key}{u:Nu}(r:RelV (kV k) u):(dB P w).is k u=true:=by
 cases k with
 | inl i=>obtain ⟨t,e⟩:=(show ∃ t,u=S1 i t from r);subst e;exact uZ P w i t
 | inr x=>obtain ⟨t,e⟩:=(show ∃ t,u=QE x t from r);subst e;exact uc P w x t
theorem qh {P:NO}{w:N0}:∀ {ks:List Key} {us:List Nu},Vals (ks.map kV) us->U9 (dB P w) ks us
 | [],_,r=>by rw[Sd] at r;cases r;exact .nil
 | k::ks,_,r=>by
  rw[N7] at r
  cases r with
  | cons h t=>exact .cons (GW h) (qh t)
abbrev KT (H:Hp):List (List Key×V)->List (List Key×Addr×Nu)->Prop:=R0 λp q=>p.1=q.1/\H q.2.1=some (.tup (p.1.map kV))/\RelV p.2 q.2.2
theorem KT.val {H:Hp}{kvs:List (List Key×V)}{xs:List (List Key×Addr×Nu)}(r:KT H kvs xs)(k:List Key):zE (nH kvs k) ((atKey xs k).map (·.2)):=by
 induction r with
 | nil=>exact Qg
 | @cons p q ps qs h t ih=>
  obtain ⟨h1,_,h2⟩:=h
  by_cases e:p.1=k
  ·have e':q.1=k:=h1.symm.trans e
   have b:atKey (q::qs) k=some q.2:=by simp[atKey,Ov,e']
   rw[uv e,b];exact h2
  ·have e':¬ q.1=k:=λz=>e (h1.trans z)
   have b:atKey (q::qs) k=atKey qs k:=by simp[atKey,Ov,e']
   rw[tM e,b];exact ih
theorem KT.keeps {H H':Hp}{kvs:List (List Key×V)}{xs:List (List Key×Addr×Nu)}(r:KT H kvs xs)(ht:∀ b ys,H b=some (.tup ys)->H' b=some (.tup ys)):KT H' kvs xs:=
 R0.Kp r λ_ _ z=>⟨z.1,ht _ _ z.2.1,z.2.2⟩
section
variable {P:NO} {w:N0} {H:Hp} {h:Heap} {a:Addr}
end
def EI (H:Hp)(a:Addr)(y:V)(r:Option V):Prop:=
 (∃ kvs k,Rd H a (.dK kvs)/\y=kV k/\r=nH kvs k)∨∃ kvs k b,Rd H a (.dT kvs)/\y=.ref b/\H b=some (.tup (k.map kV))/\r=nH kvs k
def Fu (H:Hp)(a:Addr)(y v:V)(H':Hp):Prop:=
 (∃ kvs k,H a=some (.dK kvs)/\y=kV k/\kvs.length < sizeLine/\H'=upd H a (.dK (putK kvs k v)))∨
 ∃ kvs k b,H a=some (.dT kvs)/\y=.ref b/\H b=some (.tup (k.map kV))/\kvs.length < sizeLine/\H'=upd H a (.dT (putK kvs k v))
theorem EI.k {H:Hp}{a:Addr}{kvs:List (Key×V)}{k:Key}(e:H a=some (.dK kvs)):EI H a (kV k) (nH kvs k):=.inl ⟨kvs,k,.inl e,rfl,rfl⟩
theorem EI.t {H:Hp}{a b:Addr}{kvs:List (List Key×V)}{k:List Key}(e:H a=some (.dT kvs))(eb:H b=some (.tup (k.map kV))):EI H a (.ref b) (nH kvs k):=.inr ⟨kvs,k,b,.inl e,rfl,eb,rfl⟩
theorem Fu.k {H:Hp}{a:Addr}{kvs:List (Key×V)}{k:Key}{v:V}(e:H a=some (.dK kvs))(hl:kvs.length < sizeLine):Fu H a (kV k) v (upd H a (.dK (putK kvs k v))):=.inl ⟨kvs,k,e,rfl,hl,rfl⟩
theorem Fu.t {H:Hp}{a b:Addr}{kvs:List (List Key×V)}{k:List Key}{v:V}(e:H a=some (.dT kvs))(eb:H b=some (.tup (k.map kV)))(hl:kvs.length < sizeLine) :
  Fu H a (.ref b) v (upd H a (.dT (putK kvs k v))):=.inr ⟨kvs,k,b,e,rfl,eb,hl,rfl⟩
section
variable {X:Cx} {pins:List (Addr×Obj)} {σ:St} {H:Hp} {s:Nv} {a:Addr} {y v:V} {u r:Nu} {o:Option V} {A:NY} {E:Nu->Nv->Prop}
theorem Inv.big (I:Inv X pins σ H s):QF < s.heap.objs.size:=by
 have h:Oq < s.heap.objs.size:=(I.mod.glob.keeps I.bk).lt
 exact Qw (by decide) h
end
section
variable {X:Cx} {pins:List (Addr×Obj)} {σ:St} {H:Hp} {s:Nv} {a:Addr} {kvs:List (Key×V)} {k:Key} {u:Nu} {A:NY} {E:Nu->Nv->Prop}
end
section
variable {X:Cx} {o i e value:NX} {pos pos' tpos:Pos} {td ty tv:TE}
end
theorem BV {P:NO}{w:N0}{H:Hp}(h:Heap)(hb:QF < h.objs.size):dW P w H (h.push { cls:=.type "dict", data:=.dict #[] }) h.objs.size (.dK []):=
 ⟨OM _,beq_eq_false_iff_ne.mpr (PC (NP hb)),[],.nil,Heap.DictOf.new h⟩
def JI:TE:=λ_ H Q=>∀ p,H p=none->Q (.ref p) (upd H p (.dK []))
section
variable {X:Cx} {pos:Pos}
theorem BS:PE X (.Dict [] [] pos) JI:=λpins s σ H Q I h=>
 wpAny_Dict_empty ⟨.ref s.heap.objs.size,_,I.laid (a:=s.heap.objs.size) (o:=.dK []) (t':=s.toks) (λ_ _ q=>Nw _ q) (NN _) (BV s.heap I.big),rfl,h _ (I.hok.fresh (NN _))⟩
end
section
variable {X:Cx} {pins:List (Addr×Obj)} {σ:St} {H:Hp} {s:Nv} {a:Addr} {y d:V} {u r:Nu} {o:Option V} {A:NY} {E:Nu->Nv->Prop}
end
section
variable {X:Cx} {o e f:NX} {apos cpos:Pos} {td ty tx:TE}
end
section
variable {X:Cx} {pins:List (Addr×Obj)} {σ:St} {H:Hp} {s:Nv} {a:Addr} {kvs:List (Key×V)} {A:NY} {E:Nu->Nv->Prop}
end
section
variable {X:Cx} {pins:List (Addr×Obj)} {σ:St} {H:Hp} {s:Nv} {a:Addr} {y:V} {u:Nu} {A:NY} {E:Nu->Nv->Prop}
end
end L2
namespace L3
open PySem
local macro_rules | `(tactic| walk_at "ln")=>`(tactic| (intro ds μ Q h;split at h;rfl;exact h.elim))
theorem Jn {p q:Prop}(a:p)(b:q):p/\q:=⟨a,b⟩
inductive D where
 | non | bl (b:Bool) | int (i:Int) | str (x:Str) | ty (n:String) | tup (ds:List D) | ls (ds:List D) | obj (a:Addr)
inductive MO where
 | lst (ds:List D)
 | dct (kvs:List (L2.Key×D))
 | dcT (kvs:List (List L2.Key×D))
 | dcF (kvs:List (L2.Key×D))
abbrev Mu:=Addr->Option MO
def up (μ:Mu)(a:Addr)(o:MO):Mu:=λb=>if b=a then some o else μ b
theorem bp {μ:Mu}{a:Addr}{o:MO}:up μ a o a=some o:=by unfold up;rw[if_pos rfl]
theorem cW {μ:Mu}{a b:Addr}{o:MO}(h:b≠a):up μ a o b=μ b:=by unfold up;rw[if_neg h]
theorem nt {μ:Mu}{a:Addr}{o u:MO}:up (up μ a o) a u=up μ a u:=by
 funext b;unfold up;split<;>rfl
abbrev ST:=List (Option D)
abbrev DK:=D->Mu->Prop
abbrev ETr:=ST->Mu->DK->Prop
abbrev TTr:=ST->Mu->(Bool->Mu->Prop)->Prop
abbrev ATr:=ST->Mu->(List D->Mu->Prop)->Prop
abbrev DR:=D->Mu->DK->Prop
abbrev DR2:=D->D->Mu->DK->Prop
abbrev FSp:=List D->Mu->DK->Prop
def kcI (ds:List D)(f:Int->List D->Prop):Prop:=match ds with
 | .int i::r=>f i r
 | _=>False
theorem ecI {ds:List D}{f:Int->List D->Prop}(h:kcI ds f):∃ i r,ds=.int i::r/\f i r:=by
 cases ds with
 | nil=>exact Ny h
 | cons d r=>cases d<;>first | exact ⟨_,_,rfl,h⟩ | exact Ny h
theorem lcI {ds:List D}{f:Int->List D->Prop}{n:Nat}(h:kcI ds f)(k:∀ i r,f i r->r.length=n):ds.length=n+1:=by
 obtain ⟨i,r,e,h⟩:=ecI h
 rw[e,ND,k i r h]
def kcS (ds:List D)(f:Str->List D->Prop):Prop:=match ds with
 | .str i::r=>f i r
 | _=>False
theorem ecS {ds:List D}{f:Str->List D->Prop}(h:kcS ds f):∃ i r,ds=.str i::r/\f i r:=by
 cases ds with
 | nil=>exact Ny h
 | cons d r=>cases d<;>first | exact ⟨_,_,rfl,h⟩ | exact Ny h
theorem lcS {ds:List D}{f:Str->List D->Prop}{n:Nat}(h:kcS ds f)(k:∀ i r,f i r->r.length=n):ds.length=n+1:=by
 obtain ⟨i,r,e,h⟩:=ecS h
 rw[e,ND,k i r h]
def kcT (ds:List D)(f:List D->List D->Prop):Prop:=match ds with
 | .tup i::r=>f i r
 | _=>False
theorem ecT {ds:List D}{f:List D->List D->Prop}(h:kcT ds f):∃ i r,ds=.tup i::r/\f i r:=by
 cases ds with
 | nil=>exact Ny h
 | cons d r=>cases d<;>first | exact ⟨_,_,rfl,h⟩ | exact Ny h
theorem lcT {ds:List D}{f:List D->List D->Prop}{n:Nat}(h:kcT ds f)(k:∀ i r,f i r->r.length=n):ds.length=n+1:=by
 obtain ⟨i,r,e,h⟩:=ecT h
 rw[e,ND,k i r h]
def kcL (ds:List D)(f:List D->List D->Prop):Prop:=match ds with
 | .ls i::r=>f i r
 | _=>False
theorem ecL {ds:List D}{f:List D->List D->Prop}(h:kcL ds f):∃ i r,ds=.ls i::r/\f i r:=by
 cases ds with
 | nil=>exact Ny h
 | cons d r=>cases d<;>first | exact ⟨_,_,rfl,h⟩ | exact Ny h
theorem lcL {ds:List D}{f:List D->List D->Prop}{n:Nat}(h:kcL ds f)(k:∀ i r,f i r->r.length=n):ds.length=n+1:=by
 obtain ⟨i,r,e,h⟩:=ecL h
 rw[e,ND,k i r h]
def kcO (ds:List D)(f:Addr->List D->Prop):Prop:=match ds with
 | .obj i::r=>f i r
 | _=>False
theorem ecO {ds:List D}{f:Addr->List D->Prop}(h:kcO ds f):∃ i r,ds=.obj i::r/\f i r:=by
 cases ds with
 | nil=>exact Ny h
 | cons d r=>cases d<;>first | exact ⟨_,_,rfl,h⟩ | exact Ny h
theorem lcO {ds:List D}{f:Addr->List D->Prop}{n:Nat}(h:kcO ds f)(k:∀ i r,f i r->r.length=n):ds.length=n+1:=by
 obtain ⟨i,r,e,h⟩:=ecO h
 rw[e,ND,k i r h]
def kcA (ds:List D)(f:D->List D->Prop):Prop:=match ds with
 | i::r=>f i r
 | _=>False
theorem ecA {ds:List D}{f:D->List D->Prop}(h:kcA ds f):∃ i r,ds=i::r/\f i r:=by
 cases ds with
 | nil=>exact Ny h
 | cons d r=>exact ⟨_,_,rfl,h⟩
theorem lcA {ds:List D}{f:D->List D->Prop}{n:Nat}(h:kcA ds f)(k:∀ i r,f i r->r.length=n):ds.length=n+1:=by
 obtain ⟨i,r,e,h⟩:=ecA h
 rw[e,ND,k i r h]
def kcN (ds:List D)(P:Prop):Prop:=match ds with
 | []=>P
 | _=>False
theorem ecN {ds:List D}{P:Prop}(h:kcN ds P):ds=[]/\P:=by
 cases ds with
 | nil=>exact ⟨rfl,h⟩
 | cons d r=>exact Ny h
structure En where
 nx:ST->Mu->Prop
 rt:DK
 bk:ST->Mu->Prop:=λ_ _=>False
 ct:ST->Mu->Prop:=λ_ _=>False
abbrev STr:=En->ST->Mu->Prop
abbrev GTr:=D->ST->Mu->(ST->Mu->Prop)->Prop
def kIf (c:Bool)(A B:Prop):Prop:=match c with
 | true=>A
 | false=>B
def kB (x:D)(f:Bool->Prop):Prop:=match x with
 | .bl c=>f c
 | _=>False
def kI (x:D)(f:Int->Prop):Prop:=match x with
 | .int c=>f c
 | _=>False
def kO (x:Option D)(f:D->Prop):Prop:=match x with
 | some d=>f d
 | none=>False
def kS (x:D)(f:List D->Prop):Prop:=match x with
 | .tup ds=>f ds
 | .ls ds=>f ds
 | _=>False
def k2 (ds:List D)(f:D->D->Prop):Prop:=match ds with
 | [v,w]=>f v w
 | _=>False
def kL (μ:Mu)(a:Addr)(f:List D->Prop):Prop:=match μ a with
 | some (.lst ds)=>f ds
 | _=>False
def kN (x:Option Nat)(f:Nat->Prop):Prop:=match x with
 | some d=>f d
 | none=>False
def lk:ST->Nat->Option D
 | [],_=>none
 | o::_,0=>o
 | _::r,n+1=>lk r n
def ah (i:Nat):ETr:=λρ μ Q=>kO (lk ρ i) λd=>Q d μ
def TC (d:D):ETr:=λ_ μ Q=>Q d μ
def ao (r:DR2)(a b:ETr):ETr:=λρ μ Q=>a ρ μ λx μ1=>b ρ μ1 λy μ2=>r x y μ2 Q
def TUn (r:DR)(a:ETr):ETr:=λρ μ Q=>a ρ μ λx μ1=>r x μ1 Q
def S64 (i:Int):Prop:=-18446744073709551616 < i/\i < 18446744073709551616
def bz (i:Int):Prop:=-115792089237316195423570985008687907853269984665640564039457584007913129639936 < i/\i < 115792089237316195423570985008687907853269984665640564039457584007913129639936
def MulOk (i j:Int):Prop:=(S64 i∨S64 j)∨(bz i/\bz j)
def ie (j:Int):Prop:=j≠0/\bz j
def oJ (i j:Int):Prop:=0<=j/\j<=1000000/\i.natAbs < 18446744073709551616
def rH:DR2:=λx y μ Q=>match x,y with
 | .int i,.int j=>Q (.int (i - j)) μ
 | _,_=>False
def gG:DR2:=λx y μ Q=>match x,y with
 | .int i,.int j=>MulOk i j/\Q (.int (i*j)) μ
 | _,_=>False
def g5:DR2:=λx y μ Q=>match x,y with
 | .int i,.int j=>ie j/\Q (.int (i.fdiv j)) μ
 | _,_=>False
def gj:DR2:=λx y μ Q=>match x,y with
 | .int i,.int j=>j≠0/\Q (.int (i.fmod j)) μ
 | _,_=>False
def ny:DR2:=λx y μ Q=>match x,y with
 | .int i,.int j=>oJ i j/\Q (.int (i ^ j.toNat)) μ
 | _,_=>False
def z6:DR:=λx μ Q=>match x with
 | .int i=>Q (.int (-i)) μ
 | _=>False
def A1 (p:Int->Int->Bool):DR2:=λx y μ Q=>match x,y with
 | .int i,.int j=>Q (.bl (p i j)) μ
 | _,_=>False
def rLt:DR2:=A1 λi j=>decide (i < j)
def rLe:DR2:=A1 λi j=>decide (i<=j)
def rGt:DR2:=A1 λi j=>decide (j < i)
def rGe:DR2:=A1 λi j=>decide (j<=i)
mutual
def eqD:D->D->Bool
 | .non,.non=>true
 | .bl a,.bl b=>a == b
 | .int a,.int b=>decide (a=b)
 | .bl a,.int b=>decide ((if a then 1 else 0:Int)=b)
 | .int a,.bl b=>decide (a=(if b then 1 else 0:Int))
 | .str a,.str b=>decide (a=b)
 | .tup a,.tup b=>fX a b
 | .ls a,.ls b=>fX a b
 | _,_=>false
def fX:List D->List D->Bool
 | [],[]=>true
 | a::r,b::s=>eqD a b&&fX r s
 | _,_=>false
end
mutual
def okD:Nat->D->Bool
 | _,.non=>true
 | _,.bl _=>true
 | _,.int _=>true
 | _,.str x=>N6 x
 | n+1,.tup ds=>bB n ds
 | n+1,.ls ds=>bB n ds
 | _,_=>false
def bB:Nat->List D->Bool
 | _,[]=>true
 | n,d::ds=>okD n d&&bB n ds
end
def rEq:DR2:=λx y μ Q=>(okD 40 x=true/\okD 40 y=true)/\Q (.bl (eqD x y)) μ
def rNe:DR2:=λx y μ Q=>(okD 40 x=true/\okD 40 y=true)/\Q (.bl (!eqD x y)) μ
def rIs:DR2:=λx y μ Q=>match y with
 | .non=>(match x with
  | .non=>Q (.bl true) μ
  | _=>Q (.bl false) μ)
 | _=>False
def xM:DR2:=λx y μ Q=>match y with
 | .non=>(match x with
  | .non=>Q (.bl false) μ
  | _=>Q (.bl true) μ)
 | _=>False
def cK (a b:ETr):ETr:=λρ μ Q=>a ρ μ λx μ1=>kB x λc=>kIf c (b ρ μ1 Q) (Q (.bl false) μ1)
def Ac (a b:ETr):ETr:=λρ μ Q=>a ρ μ λx μ1=>kB x λc=>kIf c (Q (.bl true) μ1) (b ρ μ1 Q)
def kZ (a:ETr):ETr:=λρ μ Q=>a ρ μ λx μ1=>kB x λc=>Q (.bl (!c)) μ1
def TB (t:ETr):TTr:=λρ μ Q=>t ρ μ λx μ1=>kB x λc=>Q c μ1
def IT (t u:TTr):TTr:=λρ μ Q=>t ρ μ λc μ1=>kIf c (u ρ μ1 Q) (Q false μ1)
def TOr (t u:TTr):TTr:=λρ μ Q=>t ρ μ λc μ1=>kIf c (Q true μ1) (u ρ μ1 Q)
def cb (t:TTr):TTr:=λρ μ Q=>t ρ μ λc μ1=>Q (!c) μ1
def zm (c:TTr)(a b:ETr):ETr:=λρ μ Q=>c ρ μ λk μ1=>kIf k (a ρ μ1 Q) (b ρ μ1 Q)
def fJ (r r':DR2)(a b c:ETr):ETr:=λρ μ Q=>a ρ μ λx μ1=>b ρ μ1 λy μ2=>r x y μ2 λz μ3=>kB z λk=>kIf k (c ρ μ3 λy' μ4=>r' y y' μ4 Q) (Q (.bl false) μ3)
def ak:ATr:=λ_ μ Q=>Q [] μ
def ae (a:ETr)(r:ATr):ATr:=λρ μ Q=>a ρ μ λx μ1=>r ρ μ1 λxs μ2=>Q (x::xs) μ2
def aG (t:ATr):ETr:=λρ μ Q=>t ρ μ λds μ1=>ds.length<=1000000/\Q (.tup ds) μ1
def bR (t:ATr):ETr:=λρ μ Q=>t ρ μ λds μ1=>ds.length<=1000000/\Q (.ls ds) μ1
def xC (t:ATr):ETr:=λρ μ Q=>t ρ μ λds μ1=>ds.length<=1000000/\∀ p,μ1 p=none->Q (.obj p) (up μ1 p (.lst ds))
def ar (sp:FSp)(t:ATr):ETr:=λρ μ Q=>t ρ μ λds μ1=>sp ds μ1 Q
def atD (ds:List D)(i:Int):Option D:=L2.atI ds i
def rIx:DR2:=λx y μ Q=>match x,y with
 | .tup ds,.int i=>kO (atD ds i) λd=>Q d μ
 | .ls ds,.int i=>kO (atD ds i) λd=>Q d μ
 | .obj a,.int i=>kL μ a λds=>kO (atD ds i) λd=>Q d μ
 | _,_=>False
def rn:FSp:=λds μ Q=>match ds with
 | [.int i]=>Q (.int (if i < 0 then -i else i)) μ
 | _=>False
def Mo:FSp:=λds μ Q=>match ds with
 | [.int i,.int j]=>Q (.int (if j > i then j else i)) μ
 | _=>False
def KQ:FSp:=λds μ Q=>match ds with
 | [.int i,.int j]=>Q (.int (if j < i then j else i)) μ
 | _=>False
def z9:FSp:=λds μ Q=>match ds with
 | [.int i]=>Q (.int i) μ
 | [.bl k]=>Q (.int (if k then 1 else 0)) μ
 | _=>False
def cX:FSp:=λds μ Q=>match ds with
 | [.tup xs]=>Q (.int xs.length) μ
 | [.ls xs]=>Q (.int xs.length) μ
 | [.str x]=>x.length<=1000000/\Q (.int x.length) μ
 | [.obj a]=>kL μ a λxs=>Q (.int xs.length) μ
 | _=>False
def tyD:D->Option String
 | .non=>some "NoneType"
 | .bl _=>some "bool"
 | .int _=>some "int"
 | .str _=>some "str"
 | .tup _=>some "tuple"
 | .ls _=>some "list"
 | _=>none
def bw (t c:String):Bool:=t == c || (t == "bool" && c == "int")
def zC (c:String):DR:=λx μ Q=>match tyD x with
 | some t=>Q (.bl (bw t c)) μ
 | none=>False
def aU:STr:=λE ρ μ=>E.nx ρ μ
def aE (t u:STr):STr:=λE ρ μ=>t { E with nx:=u E } ρ μ
def w4:STr:=λE ρ μ=>E.bk ρ μ
def BD:STr:=λE ρ μ=>E.ct ρ μ
def lb (e:ETr):STr:=λE ρ μ=>e ρ μ λ_ μ1=>E.nx ρ μ1
def aR (e:ETr):STr:=λE ρ μ=>e ρ μ E.rt
def Dx:STr:=λE _ μ=>E.rt .non μ
def bF (c:TTr)(t u:STr):STr:=λE ρ μ=>c ρ μ λb μ1=>kIf b (t E ρ μ1) (u E ρ μ1)
def az (i:Nat):GTr:=λd ρ μ k=>k (ρ.set i (some d)) μ
def aQ (e:ETr)(g:GTr):STr:=λE ρ μ=>e ρ μ λd μ1=>g d ρ μ1 E.nx
def xF (i j:Nat)(a:ATr):STr:=λE ρ μ=>a ρ μ λds μ1=>k2 ds λv w=>E.nx ((ρ.set i (some v)).set j (some w)) μ1
def EE (x z y:D)(μ:Mu)(f:Mu->Prop):Prop:=match x,z with
 | .obj a,.int n=>kL μ a λds=>kN (L2.ixN ds.length n) λj=>f (up μ a (.lst (ds.set j y)))
 | _,_=>False
def fb (o k e:ETr):STr:=λE ρ μ=>e ρ μ λy μ1=>o ρ μ1 λx μ2=>k ρ μ2 λz μ3=>EE x z y μ3 λμ4=>E.nx ρ μ4
def xA (c:TTr)(b:STr):STr:=λE ρ μ=>∃ (P:ST->Mu->Prop) (m:ST->Mu->Nat),P ρ μ/\∀ ρ μ,P ρ μ->
 c ρ μ λk μ1=>kIf k (b { E with nx:=λρ' μ'=>P ρ' μ'/\m ρ' μ' < m ρ μ,ct:=λρ' μ'=>P ρ' μ'/\m ρ' μ' < m ρ μ,bk:=E.nx } ρ μ1) (E.nx ρ μ1)
def forR (g:GTr)(b:STr)(E:En):List D->ST->Mu->Prop
 | [],ρ,μ=>E.nx ρ μ
 | d::r,ρ,μ=>g d ρ μ λρ1 μ1=>b { E with nx:=forR g b E r,ct:=forR g b E r,bk:=E.nx } ρ1 μ1
def tF (it:ATr)(g:GTr)(b:STr):STr:=λE ρ μ=>it ρ μ λds μ1=>forR g b E ds ρ μ1
def d8 (lo:Int)(n:Nat):List D:=(O6 n).map λi=>.int (lo+(i:Nat))
def gw (a:ETr):ATr:=λρ μ Q=>a ρ μ λx μ1=>kI x λj=>(-4611686018427387904<=j/\j < 4611686018427387904)/\Q (d8 0 j.toNat) μ1
def iT (a:ETr):ATr:=λρ μ Q=>a ρ μ λx μ1=>kS x λds=>Q ds μ1
def dn (μ:Mu)(a:Addr):Mu:=λb=>if b=a then none else μ b
theorem DE {μ:Mu}{a:Addr}{o:MO}(h:μ a=none):dn (up μ a o) a=μ:=by
 funext b
 unfold dn up
 by_cases hb:b=a
 ·subst hb;simp[h]
 ·simp[hb]
def kc (ρ:ST)(n:Nat)(caps:List Nat):ST:=NZ n none++caps.map (lk ρ)
def ix (p:Addr)(G:GTr)(tt:TTr)(te:ETr)(ρc:ST)(K:Mu->Prop):List D->Mu->Prop
 | [],μ=>K μ
 | d::r,μ=>G d ρc μ λρ1 μ1=>tt ρ1 μ1 λb μ2=>kIf b (te ρ1 μ2 λy μ3=>kL μ3 p λzs=>zs.length < 1000000/\ix p G tt te ρc K r (up μ3 p (.lst (zs++[y])))) (ix p G tt te ρc K r μ2)
def df (it:ATr)(G:GTr)(tt:TTr)(te:ETr)(n:Nat)(caps:List Nat):ETr:=λρ μ Q=>it ρ μ λds μ1=>∀ p,μ1 p=none->
 ix p G tt te (kc ρ n caps) (λμ'=>kL μ' p λzs=>Q (.ls zs) (dn μ' p)) ds (up μ1 p (.lst []))
def jq:TTr:=λ_ μ Q=>Q true μ
def Cv:FSp:=λds μ Q=>match ds with
 | [.ls xs]=>∃ bs:List Bool,xs=bs.map .bl/\Q (.bl (bs.all id)) μ
 | _=>False
theorem jx {g:GTr}{b:STr}{E:En}(P:List D->ST->Mu->Prop)(hnil:∀ ρ μ,P [] ρ μ->E.nx ρ μ)
  (hcons:∀ d r ρ μ (N:ST->Mu->Prop),P (d::r) ρ μ->(∀ ρ' μ',P r ρ' μ'->N ρ' μ')->g d ρ μ λρ1 μ1=>b { E with nx:=N,ct:=N,bk:=E.nx } ρ1 μ1) :
  ∀ (ds:List D) (ρ:ST) (μ:Mu),P ds ρ μ->forR g b E ds ρ μ
 | [],ρ,μ,h=>hnil ρ μ h
 | d::r,ρ,μ,h=>hcons d r ρ μ _ h λρ' μ' q=>jx P hnil hcons r ρ' μ' q
section
open PySem PySem.Spec PyProof.Rows L2
def SqF (K:Nt)(H:Hp)(a:Addr)(xs:List V):Prop:=
 (∃ o,H a=some (.frz o (.lst xs)))∨
  ∃ (o:Obj) (its:Array Nu) (n:Nat),K.lookup a=some o/\o.cls=.type "list" /\ o.dict=none/\o.data=.seq its n/\its.size<=sizeLine/\Vals xs its.toList
theorem SqF.sq {K:Nt}{H:Hp}{a:Addr}{xs:List V}(h:SqF K H a xs):SqL K H a xs:=by
 rcases h with h | h
 ·exact .inl (.inr h)
 ·exact .inr h
mutual
inductive Dp (K:Nt) (H:Hp):V->D->Prop
 | non:Dp K H .non .non
 | bl (b:Bool):Dp K H (.bl b) (.bl b)
 | int (n:Int):Dp K H (.int n) (.int n)
 | str (z:Str):Dp K H (.str z) (.str z)
 | ty (n:String):Dp K H (.ty n) (.ty n)
 | tup {a:Addr} {xs:List V} {ds:List D}:SqT K H a xs->DpL K H xs ds->Dp K H (.ref a) (.tup ds)
 | ls {a:Addr} {xs:List V} {ds:List D}:SqF K H a xs->DpL K H xs ds->Dp K H (.ref a) (.ls ds)
 | obj (a:Addr):Dp K H (.ref a) (.obj a)
inductive DpL (K:Nt) (H:Hp):List V->List D->Prop
 | nil:DpL K H [] []
 | cons {v:V} {d:D} {vs:List V} {ds:List D}:Dp K H v d->DpL K H vs ds->DpL K H (v::vs) (d::ds)
end
structure Tk (H H':Hp):Prop where
 tup:∀ a xs,H a=some (.tup xs)->H' a=some (.tup xs)
 frz:∀ a o u,H a=some (.frz o u)->H' a=some (.frz o u)
theorem Tk.refl (H:Hp):Tk H H:=⟨λ_ _ h=>h,λ_ _ _ h=>h⟩
theorem Tk.trans {H H1 H2:Hp}(a:Tk H H1)(b:Tk H1 H2):Tk H H2:=⟨λc xs h=>b.tup c xs (a.tup c xs h),λc o u h=>b.frz c o u (a.frz c o u h)⟩
theorem Tk.upd {H:Hp}{a:Addr}{o:HO}(h1:∀ xs,H a≠some (.tup xs))(h2:∀ o u,H a≠some (.frz o u)):Tk H (L2.upd H a o):=
 ⟨λb xs h=>by rw[aS (λz=>by subst z;exact h1 _ h)];exact h,λb o u h=>by rw[aS (λz=>by subst z;exact h2 _ _ h)];exact h⟩
theorem Tk.new {H:Hp}{a:Addr}{o:HO}(h:H a=none):Tk H (L2.upd H a o):=.upd (λ_ e=>by rw[h] at e;cases e) λ_ _ e=>by rw[h] at e;cases e
theorem Tk.sqT {K:Nt}{H H':Hp}{a:Addr}{xs:List V}(t:Tk H H')(h:SqT K H a xs):SqT K H' a xs:=by
 rcases h with (h | ⟨o,h⟩) | h
 ·exact .inl (.inl (t.tup _ _ h))
 ·exact .inl (.inr ⟨o,t.frz _ _ _ h⟩)
 ·exact .inr h
theorem Tk.sqF {K:Nt}{H H':Hp}{a:Addr}{xs:List V}(t:Tk H H')(h:SqF K H a xs):SqF K H' a xs:=by
 rcases h with ⟨o,h⟩ | h
 ·exact .inl ⟨o,t.frz _ _ _ h⟩
 ·exact .inr h
mutual
theorem Dp.mono {K:Nt}{H H':Hp}(t:Tk H H'):∀ {v:V} {d:D},Dp K H v d->Dp K H' v d
 | _,_,.non=>.non
 | _,_,.bl b=>.bl b
 | _,_,.int i=>.int i
 | _,_,.str x=>.str x
 | _,_,.ty n=>.ty n
 | _,_,.tup h l=>.tup (t.sqT h) (DpL.mono t l)
 | _,_,.ls h l=>.ls (t.sqF h) (DpL.mono t l)
 | _,_,.obj a=>.obj a
theorem DpL.mono {K:Nt}{H H':Hp}(t:Tk H H'):∀ {vs:List V} {ds:List D},DpL K H vs ds->DpL K H' vs ds
 | _,_,.nil=>.nil
 | _,_,.cons h l=>.cons (Dp.mono t h) (DpL.mono t l)
end
theorem DpL.length {K:Nt}{H:Hp}:∀ {vs:List V} {ds:List D},DpL K H vs ds->vs.length=ds.length
 | _,_,.nil=>rfl
 | _,_,.cons _ l=>by rw[ND,ND,DpL.length l]
theorem DpL.get {K:Nt}{H:Hp}:∀ {vs:List V} {ds:List D} {i:Nat} {d:D},DpL K H vs ds->ds[i]? = some d->∃ v,vs[i]? = some v/\Dp K H v d
 | _,_,_,_,.nil,e=>by simp at e
 | _,_,0,_,.cons h _,e=>by simp at e;subst e;exact ⟨_,rfl,h⟩
 | _,_,i+1,d,.cons _ l,e=>by
  obtain ⟨v,e1,h⟩:=DpL.get (i:=i) (d:=d) l (by simpa using e)
  exact ⟨v,by simpa using e1,h⟩
theorem DpL.get' {K:Nt}{H:Hp}:∀ {vs:List V} {ds:List D} {i:Nat} {v:V},DpL K H vs ds->vs[i]? = some v->∃ d,ds[i]? = some d/\Dp K H v d
 | _,_,_,_,.nil,e=>by simp at e
 | _,_,0,_,.cons h _,e=>by simp at e;subst e;exact ⟨_,rfl,h⟩
 | _,_,i+1,d,.cons _ l,e=>by
  obtain ⟨v,e1,h⟩:=DpL.get' (i:=i) (v:=d) l (by simpa using e)
  exact ⟨v,by simpa using e1,h⟩
theorem DpL.set {K:Nt}{H:Hp}{v:V}{d:D}(h:Dp K H v d):∀ {vs:List V} {ds:List D} (i:Nat),DpL K H vs ds->DpL K H (vs.set i v) (ds.set i d)
 | _,_,_,.nil=>.nil
 | _,_,0,.cons _ l=>.cons h l
 | _,_,i+1,.cons q l=>.cons q (DpL.set h i l)
theorem DpL.append {K:Nt}{H:Hp}:∀ {vs ws:List V} {ds es:List D},DpL K H vs ds->DpL K H ws es->DpL K H (vs++ws) (ds++es)
 | _,_,_,_,.nil,s=>s
 | _,_,_,_,.cons h l,s=>.cons h (DpL.append l s)
theorem DpL.at {K:Nt}{H:Hp}{vs:List V}{ds:List D}{i:Int}{d:D}(l:DpL K H vs ds)(e:atD ds i=some d):∃ v,atI vs i=some v/\Dp K H v d:=by
 unfold atD atI at e
 unfold atI
 rw[l.length]
 cases q:ixN ds.length i with
 | none=>rw[q] at e;cases e
 | some j=>
  rw[q] at e
  exact l.get e
def DpK {κ:Type}(K:Nt)(H:Hp)(xs:List (κ×V))(kvs:List (κ×D)):Prop:=xs.map (·.1)=kvs.map (·.1)/\DpL K H (xs.map (·.2)) (kvs.map (·.2))
theorem DpK.mono {κ:Type}{K:Nt}{H H':Hp}(t:Tk H H'){xs:List (κ×V)}{kvs:List (κ×D)}(h:DpK K H xs kvs):DpK K H' xs kvs:=⟨h.1,h.2.mono t⟩
def xE (K:Nt)(H:Hp)(a:Addr):MO->Prop
 | .lst ds=>∃ xs,H a=some (.lst xs)/\DpL K H xs ds
 | .dct kvs=>∃ xs,H a=some (.dK xs)/\DpK K H xs kvs
 | .dcT kvs=>∃ xs,H a=some (.dT xs)/\DpK K H xs kvs
 | .dcF kvs=>∃ xs,(∃ o,H a=some (.frz o (.dK xs)))/\DpK K H xs kvs
theorem xE.go {K:Nt}{H H':Hp}{a:Addr}{o:MO}(h:xE K H a o)(t:Tk H H')(k:∀ u,H a=some u->H' a=some u):xE K H' a o:=by
 cases o<;>(obtain ⟨xs,z,l⟩:=h;first | exact ⟨xs,k _ z,l.mono t⟩ | (obtain ⟨o,z⟩:=z;exact ⟨xs,⟨o,k _ z⟩,l.mono t⟩))
theorem xE.ne {K:Nt}{H:Hp}{a q:Addr}{o:MO}{u:HO}(h:xE K H a o)(t:Tk H (L2.upd H q u))(k:a≠q):xE K (L2.upd H q u) a o:=h.go t λ_ e=>by rw[aS k];exact e
def bW (K:Nt)(H:Hp)(μ:Mu):Prop:=∀ a o,μ a=some o->xE K H a o
theorem bW.free {K:Nt}{H:Hp}{μ:Mu}(h:bW K H μ){a:Addr}(e:H a=none):μ a=none:=by
 cases q:μ a with
 | none=>rfl
 | some o=>
  cases o<;>(obtain ⟨xs,z,_⟩:=h a _ q;first | (rw[e] at z;cases z;done) | (obtain ⟨o,z⟩:=z;rw[e] at z;cases z))
theorem bW.keep {K:Nt}{H H':Hp}{μ:Mu}(h:bW K H μ)(t:Tk H H')(k:∀ a u,μ a≠none->H a=some u->H' a=some u):bW K H' μ:=λa o e=>by
 exact (h a _ e).go t λu z=>k a u (by rw[e];simp) z
def Sub (μ μ':Mu):Prop:=∀ a o,μ a=some o->μ' a=some o
theorem Sub.refl (μ:Mu):Sub μ μ:=λ_ _ h=>h
theorem Sub.new {μ:Mu}{p:Addr}{o:MO}(h:μ p=none):Sub μ (up μ p o):=λa u e=>by
 rw[cW (λz=>by subst z;rw[h] at e;cases e)];exact e
theorem Sub.trans {μ μ1 μ2:Mu}(a:Sub μ μ1)(b:Sub μ1 μ2):Sub μ μ2:=λc o h=>b c o (a c o h)
theorem bW.sub {K:Nt}{H:Hp}{μ μ':Mu}(h:bW K H μ')(s:Sub μ μ'):bW K H μ:=λa o e=>h a o (s a o e)
structure Rl (K:Nt) (σ:L2.St) (H:Hp) (ρ:ST) (μ:Mu):Prop where
 len:ρ.length=σ.length
 loc:∀ i d,lk ρ i=some d->∃ v,σ[i]? = some (some v)/\Dp K H v d
 mu:bW K H μ
theorem Rl.go {K:Nt}{σ:L2.St}{H H':Hp}{ρ:ST}{μ μ':Mu}(r:Rl K σ H ρ μ)(t:Tk H H')(m:bW K H' μ'):Rl K σ H' ρ μ':=
 ⟨r.len,λi d e=>let ⟨v,h1,h2⟩:=r.loc i d e;⟨v,h1,h2.mono t⟩,m⟩
theorem A6:∀ (ρ:ST) (i j:Nat) (d:D),lk (ρ.set i (some d)) j=if i=j/\i < ρ.length then some d else lk ρ j
 | [],i,j,d=>by simp[lk]
 | o::r,0,0,d=>by simp[lk]
 | o::r,0,j+1,d=>by simp[lk]
 | o::r,i+1,0,d=>by simp[lk]
 | o::r,i+1,j+1,d=>by
  show lk (r.set i (some d)) j=_
  rw[A6 r i j d]
  simp[lk]
theorem Rl.set {K:Nt}{σ:L2.St}{H:Hp}{ρ:ST}{μ:Mu}(r:Rl K σ H ρ μ){v:V}{d:D}(h:Dp K H v d)(i:Nat):Rl K (σ.set i (some v)) H (ρ.set i (some d)) μ:=by
 refine ⟨by simp[r.len],λj e q=>?_,r.mu⟩
 rw[A6] at q
 split at q
 ·rename_i hc
  obtain ⟨rfl,hlt⟩:=hc
  cases q
  exact ⟨v,by rw[Qq (by rw[← r.len];exact hlt)],h⟩
 ·rename_i hc
  obtain ⟨u,h1,h2⟩:=r.loc j e q
  by_cases hij:i=j
  ·subst hij
   have:¬ i < ρ.length:=λz=>hc ⟨rfl,z⟩
   have hn:σ[i]? = none:=List.getElem?_eq_none_iff.mpr (by rw[← r.len];omega)
   rw[hn] at h1;cases h1
  ·exact ⟨u,by rw[P0 hij];exact h1,h2⟩
abbrev iC (K:Nt)(H:Hp)(Q:DK)(Q':VK):Prop:=∀ v H' d μ',Tk H H'->bW K H' μ'->Dp K H' v d->Q d μ'->Q' v H'
def Sim (K:Nt)(t:TE)(T:ETr):Prop:=∀ σ H ρ μ (Q:DK) (Q':VK),Rl K σ H ρ μ->T ρ μ Q->iC K H Q Q'->t σ H Q'
def Ft (K:Nt)(t:TT)(T:TTr):Prop:=∀ σ H ρ μ (Q:Bool->Mu->Prop) (Q':Bool->Hp->Prop),Rl K σ H ρ μ->T ρ μ Q->(∀ b H' μ',Tk H H'->bW K H' μ'->Q b μ'->Q' b H')->t σ H Q'
def L0 (K:Nt)(t:TA)(T:ATr):Prop:=∀ σ H ρ μ (Q:List D->Mu->Prop) (Q':List V->Hp->Prop),Rl K σ H ρ μ->T ρ μ Q->(∀ vs H' ds μ',Tk H H'->bW K H' μ'->DpL K H' vs ds->Q ds μ'->Q' vs H')->t σ H Q'
abbrev tR (K:Nt)(H:Hp)(N:ST->Mu->Prop)(N':L2.St->Hp->Prop):Prop:=∀ σ' H' ρ' μ',Tk H H'->Rl K σ' H' ρ' μ'->N ρ' μ'->N' σ' H'
structure Bu (K:Nt) (H:Hp) (E:En) (E':Ends):Prop where
 nx:tR K H E.nx E'.nx
 rt:iC K H E.rt E'.rt
 bk:tR K H E.bk E'.bk
 ct:tR K H E.ct E'.ct
theorem Bu.go {K:Nt}{H H1:Hp}{E:En}{E':Ends}(e:Bu K H E E')(t:Tk H H1):Bu K H1 E E':=
 ⟨λ_ _ _ _ t'=>e.nx _ _ _ _ (t.trans t'),λ_ _ _ _ t'=>e.rt _ _ _ _ (t.trans t'),λ_ _ _ _ t'=>e.bk _ _ _ _ (t.trans t'),λ_ _ _ _ t'=>e.ct _ _ _ _ (t.trans t')⟩
def HS (K:Nt)(t:TS)(T:STr):Prop:=∀ σ H ρ μ (E:En) (E':Ends),Rl K σ H ρ μ->T E ρ μ->Bu K H E E'->t E' σ H
def HC (K:Nt)(g:TG)(G:GTr):Prop:=∀ σ H ρ μ v d (k:ST->Mu->Prop) (k':L2.St->Hp->Prop),Rl K σ H ρ μ->Dp K H v d->G d ρ μ k->tR K H k k'->g v σ H k'
structure LE (X:Cx) (e:NX) (T:ETr):Prop where
 ex:∃ t,PE X e t/\Sim X.K t T
structure LT (X:Cx) (e:NX) (T:TTr):Prop where
 ex:∃ t,PT X e t/\Ft X.K t T
structure LW (X:Cx) (e:NX) (T:TTr):Prop where
 ex:∃ t,PW X e t/\Ft X.K t T
structure LA (X:Cx) (es:List NX) (T:ATr):Prop where
 ex:∃ t,PA X es t/\L0 X.K t T
structure LS (X:Cx) (st:Stmt) (T:STr):Prop where
 ex:∃ t,PS X st t/\HS X.K t T
structure LSs (X:Cx) (sts:List Stmt) (T:STr):Prop where
 ex:∃ t,PSs X sts t/\HS X.K t T
structure LG (X:Cx) (tg:NX) (G:GTr):Prop where
 ex:∃ g,PG X tg g/\HC X.K g G
section
variable {X:Cx} {a b c e:NX} {Ta Tb Tc:ETr} {pos:Pos}
theorem af (i:Nat){x:Str}(hN:X.N[i]? = some x:=by rfl)(hv:Vis X.env.scope x:=by first | exact SJ rfl | exact RG (SJ rfl) | exact RG (RG rfl))(hd:(x == ("__debug__" : Str))=false:=by decide)
  (hcd:(x == ("__classdict__" : Str))=false:=by decide):LE X (.Name x pos) (ah i):=
 ⟨_,Cg hN hv hd hcd,λσ H ρ μ Q Q' r h k=>by
  have h:kO (lk ρ i) λd=>Q d μ:=h
  cases q:lk ρ i with
  | none=>rw[q] at h;exact Ny h
  | some d=>
   rw[q] at h
   have h:Q d μ:=h
   obtain ⟨v,e1,p⟩:=r.loc i d q
   exact ⟨v,e1,k v H d μ (.refl H) r.mu p h⟩⟩
theorem le_int {i:Int}{j}:LE X (.Constant (.int i) j pos) (TC (.int i)):=⟨_,Jc,λσ H ρ μ Q Q' r h k=>k _ H _ μ (.refl H) r.mu (.int i) h⟩
theorem bE {b:Bool}{j}:LE X (.Constant (.bool b) j pos) (TC (.bl b)):=⟨_,LJ,λσ H ρ μ Q Q' r h k=>k _ H _ μ (.refl H) r.mu (.bl b) h⟩
theorem ff {j}:LE X (.Constant .none j pos) (TC .non):=⟨_,J6,λσ H ρ μ Q Q' r h k=>k _ H _ μ (.refl H) r.mu .non h⟩
theorem le_str {x:Str}{j}:LE X (.Constant (.str x) j pos) (TC (.str x)):=⟨_,Hz,λσ H ρ μ Q Q' r h k=>k _ H _ μ (.refl H) r.mu (.str x) h⟩
def cz (K:Nt)(r:R2)(R:DR2):Prop:=∀ H μ x y dx dy (Q:DK) (Q':VK),bW K H μ->Dp K H x dx->Dp K H y dy->R dx dy μ Q->iC K H Q Q'->r x y H Q'
def Lj (K:Nt)(r:V->Hp->VK->Prop)(R:DR):Prop:=∀ H μ x dx (Q:DK) (Q':VK),bW K H μ->Dp K H x dx->R dx μ Q->iC K H Q Q'->r x H Q'
theorem iC.go {K:Nt}{H H1:Hp}{Q:DK}{Q':VK}(k:iC K H Q Q')(t:Tk H H1):iC K H1 Q Q':=λv H' d μ' t'=>k v H' d μ' (t.trans t')
theorem jS {K:Nt}{r:R2}{R:DR2}{ta tb:TE}(hr:cz K r R)(ha:Sim K ta Ta)(hb:Sim K tb Tb):Sim K (tOp r ta tb) (ao R Ta Tb):=λσ H ρ μ Q Q' rl h k=>
 ha σ H ρ μ _ _ rl h λx H1 dx μ1 t1 m1 p1 h1=>hb σ H1 ρ μ1 _ _ (rl.go t1 m1) h1 λy H2 dy μ2 t2 m2 p2 h2=>hr H2 μ2 x y dx dy Q Q' m2 (p1.mono t2) p2 h2 (k.go (t1.trans t2))
theorem km {op:Operator}{r:R2}{R:DR2}(ho:OpR X (Pq op) r)(hr:cz X.K r R)(ha:LE X a Ta)(hb:LE X b Tb):LE X (.BinOp a op b pos) (ao R Ta Tb):=by
 obtain ⟨ta,pa,sa⟩:=ha.ex
 obtain ⟨tb,pb,sb⟩:=hb.ex
 exact ⟨_,Hc ho pa pb,jS hr sa sb⟩
theorem gE {op:TY}{r:R2}{R:DR2}(ho:OpR X (Ou op) r)(hr:cz X.K r R)(ha:LE X a Ta)(hb:LE X b Tb)(hm:Pd op b=false):LE X (.Compare a [op] [b] pos) (ao R Ta Tb):=by
 obtain ⟨ta,pa,sa⟩:=ha.ex
 obtain ⟨tb,pb,sb⟩:=hb.ex
 exact ⟨_,EU ho pa pb hm,jS hr sa sb⟩
theorem wC {K:Nt}{t:TE}{T:ETr}(h:Sim K t T):Ft K (Cj t) (TB T):=λσ H ρ μ Q Q' rl hh k=>
 h σ H ρ μ _ _ rl hh λv H' d μ' t' m' p' h'=>by
  cases p' with
  | bl c=>exact ⟨c,rfl,k c H' μ' t' m' h'⟩
  | _=>exact Ny h'
theorem Jp {K:Nt}{t:TE}{T:ETr}(h:Sim K t T):Ft K (tB t) (TB T):=λσ H ρ μ Q Q' rl hh k=>
 h σ H ρ μ _ _ rl hh λv H' d μ' t' m' p' h'=>by
  cases p' with
  | bl c=>exact ⟨c,rfl,k c H' μ' t' m' h'⟩
  | _=>exact Ny h'
theorem j5 {op:TY}{r:R2}{R:DR2}(ho:OpR X (Ou op) r)(hr:cz X.K r R)(ha:LE X a Ta)(hb:LE X b Tb)(hm:Pd op b=false):LT X (.Compare a [op] [b] pos) (TB (ao R Ta Tb)):=by
 obtain ⟨ta,pa,sa⟩:=ha.ex
 obtain ⟨tb,pb,sb⟩:=hb.ex
 exact ⟨_,yY ho pa pb hm,wC (jS hr sa sb)⟩
theorem sO {K:Nt}{C:Int->Int->Prop}{g:Int->Int->V}{R:DR2}(f:Int->Int->D)(hg:∀ H i j,Dp K H (g i j) (f i j))(hR:∀ i j μ Q,R (.int i) (.int j) μ Q->C i j/\Q (f i j) μ)
  (hn:∀ dx dy μ Q,R dx dy μ Q->(∃ i,dx=.int i)/\∃ j,dy=.int j):cz K (rI C g) R:=λH μ x y dx dy Q Q' m px py h k=>by
 obtain ⟨⟨i,rfl⟩,j,rfl⟩:=hn _ _ _ _ h
 cases px;cases py
 obtain ⟨h1,h2⟩:=hR _ _ _ _ h
 exact ⟨i,j,rfl,rfl,h1,k _ H _ μ (.refl H) m (hg H i j) h2⟩
theorem yG {K:Nt}{g:Int->Int->V}{R:DR2}(f:Int->Int->D)(hg:∀ H i j,Dp K H (g i j) (f i j))(hR:∀ i j μ Q,R (.int i) (.int j) μ Q->Q (f i j) μ)
  (hn:∀ dx dy μ Q,R dx dy μ Q->(∃ i,dx=.int i)/\∃ j,dy=.int j):cz K (rI0 g) R:=λH μ x y dx dy Q Q' m px py h k=>by
 obtain ⟨⟨i,rfl⟩,j,rfl⟩:=hn _ _ _ _ h
 cases px;cases py
 exact ⟨i,j,rfl,rfl,k _ H _ μ (.refl H) m (hg H i j) (hR _ _ _ _ h)⟩
theorem nO (ha:LE X a Ta)(hb:LE X b Tb):LE X (.BinOp a .Sub b pos) (ao rH Ta Tb):=km JP (yG (λi j=>.int (i - j)) (λ_ _ _=>.int _) (λ_ _ _ _ h=>h) (λdx dy μ Q h=>by cases dx<;>cases dy<;>first | exact ⟨⟨_,rfl⟩,_,rfl⟩ | exact Ny h)) ha hb
theorem bz.abs {j:Int}(h:bz j):j.natAbs < 2 ^ 256:=by
 have e:(2:Nat) ^ 256=115792089237316195423570985008687907853269984665640564039457584007913129639936:=by decide +kernel
 rw[e]
 obtain ⟨h1,h2⟩:=h
 omega
theorem MulOk.ok {i j:Int}(h:MulOk i j):IntMulOk i j:=by
 rcases h with (⟨h1,h2⟩ | ⟨h1,h2⟩) | ⟨h1,h2⟩
 ·exact .of_left (RF h1 h2)
 ·exact .of_right (RF h1 h2)
 ·exact .of_le (RO h1.abs) (RO h2.abs) (by decide)
theorem F5:OpR X (Pq .Mult) (rI MulOk λi j=>.int (i*j)):=opI λ_ _ _ _ _ _ _ hc q=>mul_int q hc.ok
theorem ie.np {i j:Int}(h:ie j):Builtin.divisionGoesByPylong i j=false:=by
 refine PyProof.noPylong_of_log2 ?_
 have h0:j.natAbs≠0:=by have:=h.1;omega
 have:=(Nat.log2_lt h0).mpr h.2.abs
 omega
theorem EX:OpR X (Pq .FloorDiv) (rI (λ_ j=>ie j) λi j=>.int (i.fdiv j)):=opI λ_ _ _ _ _ _ _ hc q=>floordiv_int hc.1 q (.inl hc.np)
theorem e9 (ha:LE X a Ta)(hb:LE X b Tb):LE X (.BinOp a .FloorDiv b pos) (ao g5 Ta Tb):=km EX (sO (λi j=>.int (i.fdiv j)) (λ_ _ _=>.int _) (λ_ _ _ _ h=>⟨h.1,h.2⟩) (λdx dy μ Q h=>by cases dx<;>cases dy<;>first | exact ⟨⟨_,rfl⟩,_,rfl⟩ | exact Ny h)) ha hb
theorem le_mul (ha:LE X a Ta)(hb:LE X b Tb):LE X (.BinOp a .Mult b pos) (ao gG Ta Tb):=km F5 (sO (λi j=>.int (i*j)) (λ_ _ _=>.int _) (λ_ _ _ _ h=>⟨h.1,h.2⟩) (λdx dy μ Q h=>by cases dx<;>cases dy<;>first | exact ⟨⟨_,rfl⟩,_,rfl⟩ | exact Ny h)) ha hb
theorem d7 (ha:LE X a Ta)(hb:LE X b Tb):LE X (.BinOp a .Mod b pos) (ao gj Ta Tb):=km Ey (sO (λi j=>.int (i.fmod j)) (λ_ _ _=>.int _) (λ_ _ _ _ h=>⟨h.1,h.2⟩) (λdx dy μ Q h=>by cases dx<;>cases dy<;>first | exact ⟨⟨_,rfl⟩,_,rfl⟩ | exact Ny h)) ha hb
theorem le_pow (ha:LE X a Ta)(hb:LE X b Tb):LE X (.BinOp a .Pow b pos) (ao ny Ta Tb):=km J1 (sO (λi j=>.int (i ^ j.toNat)) (λ_ _ _=>.int _) (λ_ _ _ _ h=>⟨h.1,h.2⟩) (λdx dy μ Q h=>by cases dx<;>cases dy<;>first | exact ⟨⟨_,rfl⟩,_,rfl⟩ | exact Ny h)) ha hb
theorem cS {K:Nt}(p:Int->Int->Bool):cz K (rI0 λi j=>.bl (p i j)) (A1 p):=yG (λi j=>.bl (p i j)) (λ_ _ _=>.bl _) (λ_ _ _ _ h=>h) (λdx dy μ Q h=>by cases dx<;>cases dy<;>first | exact ⟨⟨_,rfl⟩,_,rfl⟩ | exact Ny h)
theorem LH (ha:LE X a Ta)(hb:LE X b Tb):LE X (.Compare a [.Lt] [b] pos) (ao rLt Ta Tb):=gE Hn (cS _) ha hb (gx _)
theorem LQ (ha:LE X a Ta)(hb:LE X b Tb):LE X (.Compare a [.Gt] [b] pos) (ao rGt Ta Tb):=gE Hl (cS _) ha hb (gx _)
theorem KR (ha:LE X a Ta)(hb:LE X b Tb):LE X (.Compare a [.GtE] [b] pos) (ao rGe Ta Tb):=gE K9 (cS _) ha hb (gx _)
theorem Mh (ha:LE X a Ta)(hb:LE X b Tb):LT X (.Compare a [.Lt] [b] pos) (TB (ao rLt Ta Tb)):=j5 Hn (cS _) ha hb (gx _)
theorem qF (ha:LE X a Ta)(hb:LE X b Tb):LT X (.Compare a [.Gt] [b] pos) (TB (ao rGt Ta Tb)):=j5 Hl (cS _) ha hb (gx _)
theorem Lp {op:UnaryOp}{r:V->Hp->VK->Prop}{R:DR}(ho:UnR X (unaryOp op) r)(hr:Lj X.K r R)(ha:LE X a Ta):LE X (.UnaryOp op a pos) (TUn R Ta):=by
 obtain ⟨ta,pa,sa⟩:=ha.ex
 exact ⟨_,L7 ho pa,λσ H ρ μ Q Q' rl h k=>sa σ H ρ μ _ _ rl h λx H1 dx μ1 t1 m1 p1 h1=>hr H1 μ1 x dx Q Q' m1 p1 h1 (k.go t1)⟩
theorem bx (ha:LE X a Ta)(he:∀ whole,isTrue a X.env whole=(do let v ← whole;standAt a.pos;Ry [v] (truthy v)):=by intro _;rfl):LT X a (TB Ta):=by
 obtain ⟨ta,pa,sa⟩:=ha.ex
 exact ⟨_,HQ pa he,Jp sa⟩
variable {tA tB' tC':TTr} {rest:List NX}
theorem bj (ha:LT X a tA):LT X (.UnaryOp .Not a pos) (cb tA):=by
 obtain ⟨ta,pa,sa⟩:=ha.ex
 exact ⟨_,Ih pa,λσ H ρ μ Q Q' rl h k=>sa σ H ρ μ _ _ rl h λc H1 μ1 t1 m1 h1=>k (!c) H1 μ1 t1 m1 h1⟩
theorem LW.lt (h:LW X a tA):LT X a tA:=by
 obtain ⟨ta,pa,sa⟩:=h.ex
 exact ⟨_,pa.pt,sa⟩
theorem cQ (ha:LT X a tA):LW X (.BoolOp .Or [a] pos) tA:=by
 obtain ⟨ta,pa,sa⟩:=ha.ex
 exact ⟨_,pw_or1 pa,sa⟩
theorem eo (ha:LT X a tA)(hb:LW X (.BoolOp .Or (b::rest) pos) tB'):LW X (.BoolOp .Or (a::b::rest) pos) (TOr tA tB'):=by
 obtain ⟨ta,pa,sa⟩:=ha.ex
 obtain ⟨tb,pb,sb⟩:=hb.ex
 refine ⟨_,pw_or pa pb,λσ H ρ μ Q Q' rl h k=>sa σ H ρ μ _ _ rl h λc H1 μ1 t1 m1 h1=>?_⟩
 cases c with
 | true=>exact sN (k true H1 μ1 t1 m1 h1)
 | false=>exact rQ (sb σ H1 ρ μ1 Q Q' (rl.go t1 m1) h1 λb H2 μ2 t2=>k b H2 μ2 (t1.trans t2))
theorem cU {op}(h:LE X a Ta):LE X (.BoolOp op [a] pos) Ta:=by
 obtain ⟨ta,pa,sa⟩:=h.ex
 exact ⟨_,HH pa,sa⟩
theorem cT (ha:LE X a Ta)(hb:LE X (.BoolOp .And (b::rest) pos) Tb):LE X (.BoolOp .And (a::b::rest) pos) (cK Ta Tb):=by
 obtain ⟨ta,pa,sa⟩:=ha.ex
 obtain ⟨tb,pb,sb⟩:=hb.ex
 refine ⟨_,JW pa pb,λσ H ρ μ Q Q' rl h k=>sa σ H ρ μ _ _ rl h λx H1 dx μ1 t1 m1 p1 h1=>?_⟩
 cases p1 with
 | bl c=>
  refine ⟨c,rfl,?_⟩
  cases c with
  | true=>exact sN (sb σ H1 ρ μ1 Q Q' (rl.go t1 m1) h1 (k.go t1))
  | false=>exact rQ (k _ H1 _ μ1 t1 m1 (.bl _) h1)
 | _=>exact Ny h1
theorem Mk (ha:LE X a Ta)(hb:LE X (.BoolOp .Or (b::rest) pos) Tb):LE X (.BoolOp .Or (a::b::rest) pos) (Ac Ta Tb):=by
 obtain ⟨ta,pa,sa⟩:=ha.ex
 obtain ⟨tb,pb,sb⟩:=hb.ex
 refine ⟨_,LF pa pb,λσ H ρ μ Q Q' rl h k=>sa σ H ρ μ _ _ rl h λx H1 dx μ1 t1 m1 p1 h1=>?_⟩
 cases p1 with
 | bl c=>
  refine ⟨c,rfl,?_⟩
  cases c with
  | true=>exact sN (k _ H1 _ μ1 t1 m1 (.bl _) h1)
  | false=>exact rQ (sb σ H1 ρ μ1 Q Q' (rl.go t1 m1) h1 (k.go t1))
 | _=>exact Ny h1
theorem xV (ha:LE X a Ta):LE X (.UnaryOp .Not a pos) (kZ Ta):=by
 obtain ⟨ta,pa,sa⟩:=ha.ex
 refine ⟨_,IU pa,λσ H ρ μ Q Q' rl h k=>sa σ H ρ μ _ _ rl h λx H1 dx μ1 t1 m1 p1 h1=>?_⟩
 cases p1 with
 | bl c=>exact ⟨c,rfl,k _ H1 _ μ1 t1 m1 (.bl _) h1⟩
 | _=>exact Ny h1
theorem Km (hc:LT X c tC')(ha:LE X a Ta)(hb:LE X b Tb):LE X (.IfExp c a b pos) (zm tC' Ta Tb):=by
 obtain ⟨tc,pc,sc⟩:=hc.ex
 obtain ⟨ta,pa,sa⟩:=ha.ex
 obtain ⟨tb,pb,sb⟩:=hb.ex
 refine ⟨_,CN pc pa pb,λσ H ρ μ Q Q' rl h k=>sc σ H ρ μ _ _ rl h λq H1 μ1 t1 m1 h1=>?_⟩
 cases q with
 | true=>exact sN (sa σ H1 ρ μ1 Q Q' (rl.go t1 m1) h1 (k.go t1))
 | false=>exact rQ (sb σ H1 ρ μ1 Q Q' (rl.go t1 m1) h1 (k.go t1))
variable {es:List NX} {At:ATr}
theorem ag:LA X [] ak:=⟨_,kK,λσ H ρ μ Q Q' rl h k=>k [] H [] μ (.refl H) rl.mu .nil h⟩
theorem aa (ha:LE X e Ta)(hr:LA X es At)(hs:Nx (e::es) X.env=(false,OF e X.env)::Nx es X.env:=by rfl):LA X (e::es) (ae Ta At):=by
 obtain ⟨ta,pa,sa⟩:=ha.ex
 obtain ⟨tr,pr,sr⟩:=hr.ex
 exact ⟨_,gv pa pr hs,λσ H ρ μ Q Q' rl h k=>sa σ H ρ μ _ _ rl h λx H1 dx μ1 t1 m1 p1 h1=>sr σ H1 ρ μ1 _ _ (rl.go t1 m1) h1 λxs H2 ds μ2 t2 m2 p2 h2=>k _ H2 _ μ2 (t1.trans t2) m2 (.cons (p1.mono t2) p2) h2⟩
theorem di {K:Nt}{H:Hp}{μ:Mu}{p:Addr}{o:HO}(m:bW K H μ)(hp:H p=none):bW K (L2.upd H p o) μ:=m.keep (.new hp) λa' xs' _ e=>by rw[aS (dj e hp)];exact e
theorem big {n:Nat}(h:n<=1000000):n<=sizeLine:=OD h (by decide)
theorem ax {x1}(h:LA X es At):LE X (.Tuple es x1 pos) (aG At):=by
 obtain ⟨ta,pa,sa⟩:=h.ex
 refine ⟨_,JT pa,λσ H ρ μ Q Q' rl h k=>sa σ H ρ μ _ _ rl h λxs H1 ds μ1 t1 m1 p1 h1=>⟨by rw[p1.length];exact big h1.1,λp hp=>?_⟩⟩
 exact k _ _ _ μ1 (t1.trans (.new hp)) (di m1 hp) (.tup (SqT.of aP) (p1.mono (.new hp))) h1.2
theorem Eg (h:LA X es At):LE X (.List es pos) (xC At):=by
 obtain ⟨ta,pa,sa⟩:=h.ex
 refine ⟨_,A2 pa,λσ H ρ μ Q Q' rl h k=>sa σ H ρ μ _ _ rl h λxs H1 ds μ1 t1 m1 p1 h1=>⟨by rw[p1.length];exact big h1.1,λp hp=>?_⟩⟩
 refine k _ _ _ (up μ1 p (.lst ds)) (t1.trans (.new hp)) (λa o e=>?_) (.obj p) (h1.2 p (m1.free hp))
 by_cases ha:a=p
 ·subst ha
  rw[bp] at e;cases e
  exact ⟨xs,aP,p1.mono (.new hp)⟩
 ·rw[cW ha] at e
  exact di m1 hp a o e
def BI (t:TE):TE:=λσ H Q=>t σ H λv H1=>∃ a xs,v=.ref a/\H1 a=some (.lst xs)/\∀ o,Q v (L2.upd H1 a (.frz o (.lst xs)))
theorem js {t:TE}(h:PE X e t):PE X e (BI t):=by
 intro pins s σ H Q I hh
 refine thn (h pins s σ H _ I hh) λu s1 ⟨v,H1,I1,r,a,xs,ev,ea,q⟩=>?_
 obtain ⟨z,its,n,rv,hg⟩:=(show dW X.prog X.w H1 s1.heap a (.lst xs) from I1.hok a _ ea)
 have nl:∀ b o,H1 b=some o->(∀ ys,o≠.lst ys)->b≠a:=λb o e1 e2 z=>by subst z;rw[ea] at e1;cases e1;exact e2 _ rfl
 refine ⟨v,_,I1.un (h':=s1.heap) (t':=s1.toks) (H':=L2.upd H1 a (.frz { cls:=.type "list", data:=.seq its.toArray n } (.lst xs))) ⟨λb o e _ _ _=>e,λb o e _ _ _=>⟨o.slots,e⟩,λb o e n _=>?_,λb o e _=>⟨o,e⟩,λb ys e=>?_,λb o u e=>?_,λb ps e=>⟨#[],?_⟩⟩ (λb u e=>?_),r,q _⟩
 ·rw[aS (λz=>by subst z;rw[ea] at n;cases n)];exact n
 ·rw[aS (nl b _ e (λ_=>nofun))];exact e
 ·rw[aS (nl b _ e (λ_=>nofun))];exact e
 ·rw[aS (nl b _ e (λ_=>nofun)),e];simp
 ·by_cases hb:b=a
  ·subst hb
   rw[aP] at e;cases e
   exact ⟨hg,z,its,n,rv,hg⟩
  ·rw[aS hb] at e
   refine (I1.hok b u e).qV (λc w _ q=>q) (λc q=>?_) λc ys q=>?_
   ·rw[aS (nl c _ q (λ_=>nofun))];exact q
   ·rw[aS (nl c _ q (λ_=>nofun))];exact q
theorem bc (h:LA X es At):LE X (.List es pos) (bR At):=by
 obtain ⟨ta,pa,sa⟩:=h.ex
 refine ⟨_,js (A2 pa),λσ H ρ μ Q Q' rl h k=>sa σ H ρ μ _ _ rl h λxs H1 ds μ1 t1 m1 p1 h1=>⟨by rw[p1.length];exact big h1.1,λp hp=>⟨p,xs,rfl,aP,λo=>?_⟩⟩⟩
 have e:L2.upd (L2.upd H1 p (.lst xs)) p (.frz o (.lst xs))=L2.upd H1 p (.frz o (.lst xs)):=qN
 rw[e]
 exact k _ _ _ μ1 (t1.trans (.new hp)) (di m1 hp) (.ls (.inl ⟨o,aP⟩) (p1.mono (.new hp))) h1.2
end
end
section
open PySem PySem.Spec PyProof.Rows L2
mutual
def toP:D->PyData
 | .non=>.none
 | .bl b=>.bool b
 | .int i=>.int i
 | .str x=>.str x
 | .tup ds=>.tuple (jL ds)
 | .ls ds=>.list (jL ds)
 | .ty _=>.none
 | .obj _=>.none
def jL:List D->List PyData
 | []=>[]
 | d::r=>toP d::jL r
end
mutual
theorem gJ:∀ (n:Nat) (d:D),okD n d=true->(toP d).canLay0=true/\(toP d).depth<=n
 | n,.non,_=>⟨rfl,OM _⟩
 | n,.bl b,_=>⟨rfl,OM _⟩
 | n,.int i,_=>⟨rfl,OM _⟩
 | n,.str x,h=>⟨by cases n<;>exact h,OM _⟩
 | n+1,.tup ds,h=>by
  obtain ⟨h1,h2⟩:=oG n ds h
  exact ⟨h1,UB h2⟩
 | n+1,.ls ds,h=>by
  obtain ⟨h1,h2⟩:=oG n ds h
  exact ⟨h1,UB h2⟩
 | 0,.tup ds,h=>by cases h
 | 0,.ls ds,h=>by cases h
 | n,.ty _,h=>by cases n<;>cases h
 | n,.obj _,h=>by cases n<;>cases h
theorem oG:∀ (n:Nat) (ds:List D),bB n ds=true->T8 (jL ds)=true/\UK (jL ds)<=n
 | n,[],_=>⟨rfl,OM _⟩
 | n,d::r,h=>by
  have h':okD n d=true/\bB n r=true:=by simpa[bB] using h
  obtain ⟨a1,a2⟩:=gJ n d h'.1
  obtain ⟨b1,b2⟩:=oG n r h'.2
  refine ⟨?_,?_⟩
  ·show (Va (toP d)&&T8 (jL r))=true
   rw[a1,b1];rfl
  ·show max (PyData.depth (toP d)) (UK (jL r))<=n
   exact Nat.max_le.mpr ⟨a2,b2⟩
end
theorem str_beq (a b:Str):(a == b)=decide (a=b):=by
 by_cases h:a=b
 ·subst h;simp
 ·rw[decide_eq_false h];exact beq_eq_false_iff_ne.mpr h
mutual
theorem mf:∀ (n m:Nat) (a b:D),okD n a=true->okD m b=true->Py (toP a) (toP b)=eqD a b
 | n,m,.non,b,_,hb=>by cases b<;>first | rfl | (cases m<;>cases hb)
 | n,m,.bl x,b,_,hb=>by
  cases b with
  | int y=>simp only[toP,Py,eqD];rw[QC]
  | ty _=>cases m<;>cases hb
  | obj _=>cases m<;>cases hb
  | _=>rfl
 | n,m,.int x,b,_,hb=>by
  cases b with
  | int y=>simp only[toP,Py,eqD];rw[QC]
  | bl y=>simp only[toP,Py,eqD];rw[QC]
  | ty _=>cases m<;>cases hb
  | obj _=>cases m<;>cases hb
  | _=>rfl
 | n,m,.str x,b,_,hb=>by
  cases b with
  | str y=>simp only[toP,Py,eqD];exact str_beq x y
  | ty _=>cases m<;>cases hb
  | obj _=>cases m<;>cases hb
  | _=>rfl
 | n+1,m,.tup xs,b,ha,hb=>by
  cases b with
  | tup ys=>
   cases m with
   | zero=>cases hb
   | succ m=>simp only[toP,Py,eqD];exact nK n m xs ys ha hb
  | ty _=>cases m<;>cases hb
  | obj _=>cases m<;>cases hb
  | _=>rfl
 | n+1,m,.ls xs,b,ha,hb=>by
  cases b with
  | ls ys=>
   cases m with
   | zero=>cases hb
   | succ m=>simp only[toP,Py,eqD];exact nK n m xs ys ha hb
  | ty _=>cases m<;>cases hb
  | obj _=>cases m<;>cases hb
  | _=>rfl
 | 0,_,.tup ds,_,h,_=>by cases h
 | 0,_,.ls ds,_,h,_=>by cases h
 | n,_,.ty _,_,h,_=>by cases n<;>cases h
 | n,_,.obj _,_,h,_=>by cases n<;>cases h
theorem nK:∀ (n m:Nat) (a b:List D),bB n a=true->bB m b=true->RH (jL a) (jL b)=fX a b
 | _,_,[],[],_,_=>rfl
 | _,_,[],_::_,_,_=>by simp[jL,RH,fX]
 | _,_,_::_,[],_,_=>by simp[jL,RH,fX]
 | n,m,a::r,b::s,ha,hb=>by
  have ha':okD n a=true/\bB n r=true:=by simpa[bB] using ha
  have hb':okD m b=true/\bB m s=true:=by simpa[bB] using hb
  show (Py (toP a) (toP b)&&RH (jL r) (jL s))=(eqD a b&&fX r s)
  rw[mf n m a b ha'.1 hb'.1,nK n m r s ha'.2 hb'.2]
end
section
variable {X:Cx} {pins:List (Addr×Obj)} {σ:L2.St} {H:Hp} {s:Nv}
mutual
theorem cJ (I:Inv X pins σ H s):∀ {n:Nat} {v:V} {d:D} {u:Nu},Dp X.K H v d->okD n d=true->RelV v u->∃ as,Reads s.heap u (toP d) as
 | n,_,_,u,.non,_,r=>by cases (show u=Pg from r);exact ⟨_,.none⟩
 | n,_,_,u,.bl b,_,r=>by cases (show u=RY b from r);exact ⟨_,.bool b⟩
 | n,_,_,u,.int i,_,r=>by obtain ⟨t,e⟩:=(show ∃ t,u=S1 i t from r);subst e;exact ⟨_,.int i t⟩
 | n,_,_,u,.str x,_,r=>by obtain ⟨t,e⟩:=(show ∃ t,u=QE x t from r);subst e;exact ⟨_,.str x t⟩
 | n,_,_,u,.ty _,h,_=>by cases n<;>cases h
 | n+1,_,_,u,@Dp.tup _ _ a xs ds q l,h,r=>by
  cases (show u=OK a from r)
  obtain ⟨its,rv,⟨o,e1,e2,k,e3⟩,_⟩:=I.tuple q
  obtain ⟨as,ra⟩:=ia I (n:=n) l h rv
  exact ⟨_,.tuple e1 e2 e3 (by simpa using ra)⟩
 | n+1,_,_,u,@Dp.ls _ _ a xs ds q l,h,r=>by
  cases (show u=OK a from r)
  obtain ⟨its,rv,⟨o,k,e1,e2,_,e3⟩,_⟩:=I.list q.sq
  obtain ⟨as,ra⟩:=ia I (n:=n) l h rv
  exact ⟨_,.list e1 e2 e3 (by simpa using ra)⟩
 | 0,_,_,u,@Dp.tup _ _ a xs ds q l,h,r=>by cases h
 | 0,_,_,u,@Dp.ls _ _ a xs ds q l,h,r=>by cases h
 | n,_,_,u,.obj _,h,_=>by cases n<;>cases h
theorem ia (I:Inv X pins σ H s):∀ {n:Nat} {vs:List V} {ds:List D} {us:List Nu},DpL X.K H vs ds->bB n ds=true->Vals vs us->∃ as,ReadsAll s.heap us (jL ds) as
 | n,_,_,_,.nil,_,.nil=>⟨_,.nil⟩
 | n,_,_,_,@DpL.cons _ _ v d vs ds h l,ho,.cons r rs=>by
  have ho':okD n d=true/\bB n ds=true:=by simpa[bB] using ho
  obtain ⟨as,ra⟩:=cJ I h ho'.1 r
  obtain ⟨bs,rb⟩:=ia I l ho'.2 rs
  exact ⟨_,.cons ra rb⟩
end
end
def Fe (K:Nt)(f:Bool->Bool):R2:=λx y H Q=>∃ dx dy,Dp K H x dx/\Dp K H y dy/\okD 40 dx=true/\okD 40 dy=true/\Q (.bl (f (eqD dx dy))) H
section
variable {X:Cx} {a b c e:NX} {Ta Tb Tc:ETr} {pos:Pos}
theorem D4 (hu:X.A.units+64 < cLine):OpR X (Ou .Eq) (Fe X.K id):=λpins s σ H x y v u Q I rx ry ⟨dx,dy,px,py,ox,oy,q⟩=>by
 obtain ⟨as,ra⟩:=cJ I px ox rx
 obtain ⟨bs,rb⟩:=cJ I py oy ry
 obtain ⟨l1,d1⟩:=gJ 40 dx ox
 obtain ⟨l2,d2⟩:=gJ 40 dy oy
 exact SeqAt.compareEq_reads ra rb l1 l2 (by have:=Sm (toP dx).depth (toP dy).depth;omega) ⟨.bl _,H,I,rfl,by rw[mf 40 40 dx dy ox oy];exact q⟩
theorem Jy (hu:X.A.units+64 < cLine):OpR X (Ou .NotEq) (Fe X.K not):=λpins s σ H x y v u Q I rx ry ⟨dx,dy,px,py,ox,oy,q⟩=>by
 obtain ⟨as,ra⟩:=cJ I px ox rx
 obtain ⟨bs,rb⟩:=cJ I py oy ry
 obtain ⟨l1,d1⟩:=gJ 40 dx ox
 obtain ⟨l2,d2⟩:=gJ 40 dy oy
 exact SeqAt.compareNe_reads ra rb l1 l2 (by have:=Sm (toP dx).depth (toP dy).depth;omega) ⟨.bl _,H,I,rfl,by rw[mf 40 40 dx dy ox oy];exact q⟩
theorem B0 {K:Nt}:cz K (Fe K id) rEq:=λH μ x y dx dy Q Q' m px py h k=>⟨dx,dy,px,py,h.1.1,h.1.2,k _ H _ μ (.refl H) m (.bl _) h.2⟩
theorem Kd {K:Nt}:cz K (Fe K not) rNe:=λH μ x y dx dy Q Q' m px py h k=>⟨dx,dy,px,py,h.1.1,h.1.2,k _ H _ μ (.refl H) m (.bl _) h.2⟩
theorem le_eq (hu:X.A.units+64 < cLine)(ha:LE X a Ta)(hb:LE X b Tb):LE X (.Compare a [.Eq] [b] pos) (ao rEq Ta Tb):=gE (D4 hu) B0 ha hb (gx _)
theorem lt_eq (hu:X.A.units+64 < cLine)(ha:LE X a Ta)(hb:LE X b Tb):LT X (.Compare a [.Eq] [b] pos) (TB (ao rEq Ta Tb)):=j5 (D4 hu) B0 ha hb (gx _)
theorem Mb (hu:X.A.units+64 < cLine)(ha:LE X a Ta)(hb:LE X b Tb):LT X (.Compare a [.NotEq] [b] pos) (TB (ao rNe Ta Tb)):=j5 (Jy hu) Kd ha hb (gx _)
theorem Ji {K:Nt}:cz K (λx y H Q=>y=.non/\Q (.bl (decide (x=.non))) H) rIs:=λH μ x y dx dy Q Q' m px py h k=>by
 cases py with
 | non=>
  refine ⟨rfl,?_⟩
  cases px with
  | non=>exact k _ H _ μ (.refl H) m (.bl _) h
  | _=>exact k _ H _ μ (.refl H) m (.bl _) h
 | _=>exact Ny h
theorem Kr (ha:LE X a Ta)(hb:LE X b Tb):LE X (.Compare a [.Is] [b] pos) (ao rIs Ta Tb):=gE Iu Ji ha hb (gx _)
theorem p8 {K:Nt}{r r':R2}{R R':DR2}{ta tb tc:TE}(hr:cz K r R)(hr':cz K r' R')(ha:Sim K ta Ta)(hb:Sim K tb Tb)(hc:Sim K tc Tc):Sim K (wK r r' ta tb tc) (fJ R R' Ta Tb Tc):=λσ H ρ μ Q Q' rl h k=>
 ha σ H ρ μ _ _ rl h λx H1 dx μ1 t1 m1 p1 h1=>hb σ H1 ρ μ1 _ _ (rl.go t1 m1) h1 λy H2 dy μ2 t2 m2 p2 h2=>hr H2 μ2 x y dx dy _ _ m2 (p1.mono t2) p2 h2 λz H3 dz μ3 t3 m3 p3 h3=>by
  cases p3 with
  | bl q=>
   refine ⟨q,rfl,?_⟩
   have t13:=t1.trans (t2.trans t3)
   cases q with
   | true=>exact sN (hc σ H3 ρ μ3 _ _ (rl.go t13 m3) h3 λw H4 dw μ4 t4 m4 p4 h4=>hr' H4 μ4 y w dy dw Q Q' m4 (p2.mono (t3.trans t4)) p4 h4 (k.go (t13.trans t4)))
   | false=>exact rQ (k _ H3 _ μ3 t13 m3 (.bl _) h3)
  | _=>exact Ny h3
theorem Ct {op op':TY}{r r':R2}{R R':DR2}(ho:OpR X (Ou op) r)(ho':OpR X (Ou op') r')(hr:cz X.K r R)(hr':cz X.K r' R')(ha:LE X a Ta)(hb:LE X b Tb)(hc:LE X c Tc)
  (hm:S3 [op,op'] [b,c]=false:=by with_unfolding_all rfl):LE X (.Compare a [op,op'] [b,c] pos) (fJ R R' Ta Tb Tc):=by
 obtain ⟨ta,pa,sa⟩:=ha.ex
 obtain ⟨tb,pb,sb⟩:=hb.ex
 obtain ⟨tc,pc,sc⟩:=hc.ex
 exact ⟨_,DY ho ho' pa pb pc hm,p8 hr hr' sa sb sc⟩
theorem F1 {K:Nt}:Lj K (rU λi=>.int (-i)) z6:=λH μ x dx Q Q' m px h k=>by
 cases px with
 | int i=>exact ⟨i,rfl,k _ H _ μ (.refl H) m (.int _) h⟩
 | _=>exact Ny h
theorem le_neg (ha:LE X a Ta):LE X (.UnaryOp .USub a pos) (TUn z6 Ta):=Lp Kc F1 ha
theorem rN {o:Option D}{f:D->Prop}(h:kO o f):∃ d,o=some d/\f d:=by
 cases o with
 | none=>exact Ny h
 | some d=>exact ⟨d,rfl,h⟩
theorem cC {μ:Mu}{a:Addr}{f:List D->Prop}(h:kL μ a f):∃ ds,μ a=some (.lst ds)/\f ds:=by
 unfold kL at h
 cases e:μ a with
 | none=>rw[e] at h;exact Ny h
 | some o=>cases o with
  | lst ds=>rw[e] at h;exact ⟨ds,rfl,h⟩
  | _=>rw[e] at h;exact Ny h
theorem xf {o:Option Nat}{f:Nat->Prop}(h:kN o f):∃ d,o=some d/\f d:=by
 cases o with
 | none=>exact Ny h
 | some d=>exact ⟨d,rfl,h⟩
theorem JF {K:Nt}:cz K (L2.rIx K) L3.rIx:=λH μ x y dx dy Q Q' m px py h k=>by
 cases px with
 | @tup a xs ds q l=>
  cases py with
  | int i=>
   obtain ⟨d,e,h'⟩:=rN h
   obtain ⟨v,e1,p⟩:=l.at e
   exact .inr (.inl ⟨a,xs,i,v,rfl,rfl,q,e1,k _ H _ μ (.refl H) m p h'⟩)
  | _=>exact Ny h
 | @ls a xs ds q l=>
  cases py with
  | int i=>
   obtain ⟨d,e,h'⟩:=rN h
   obtain ⟨v,e1,p⟩:=l.at e
   exact .inl ⟨a,xs,i,v,rfl,rfl,q.sq,e1,k _ H _ μ (.refl H) m p h'⟩
  | _=>exact Ny h
 | obj a=>
  cases py with
  | int i=>
   obtain ⟨ds,e0,h1⟩:=cC h
   obtain ⟨d,e,h'⟩:=rN h1
   obtain ⟨xs,ex,l⟩:=m a _ e0
   obtain ⟨v,e1,p⟩:=l.at e
   exact .inl ⟨a,xs,i,v,rfl,rfl,SqL.of ex,e1,k _ H _ μ (.refl H) m p h'⟩
  | _=>exact Ny h
 | _=>cases py<;>exact Ny h
theorem aD (ha:LE X a Ta)(hb:LE X b Tb)(hs:ml b:=by intro _ _;rfl):LE X (.Subscript a b pos) (ao L3.rIx Ta Tb):=by
 obtain ⟨ta,pa,sa⟩:=ha.ex
 obtain ⟨tb,pb,sb⟩:=hb.ex
 exact ⟨_,CO JB pa pb hs,jS JF sa sb⟩
variable {es:List NX} {At:ATr} {x:Str} {p:Pos} {id T:String}
def rz (K:Nt)(r:List V->Hp->VK->Prop)(R:FSp):Prop:=∀ H μ xs ds (Q:DK) (Q':VK),bW K H μ->DpL K H xs ds->R ds μ Q->iC K H Q Q'->r xs H Q'
theorem pX {K:Nt}{r:List V->Hp->VK->Prop}{R:FSp}{ta:TA}(hr:rz K r R)(ha:L0 K ta At):Sim K (tCB r ta) (ar R At):=λσ H ρ μ Q Q' rl h k=>
 ha σ H ρ μ _ _ rl h λxs H1 ds μ1 t1 m1 p1 h1=>hr H1 μ1 xs ds Q Q' m1 p1 h1 (k.go t1)
theorem aW {r:List V->Hp->VK->Prop}{R:FSp}(hc:b8 X (.builtin id) r)(hr:rz X.K r R)(hg:Gl X x)(hm:X.mg x=none)(hv:N4 x=some (.builtin id))(ha:LA X (e::es) At)(hn:x ≠ "__name__" := by decide)(hdb:(x == ("__debug__" : Str))=false:=by decide)
  (h1:Nx (e::es) X.env=(false,OF e X.env)::Nx es X.env:=by rfl) (h2:(N8 pos (Nx es X.env)).any (·.1)=false:=by rfl):LE X (.Call (.Name x p) (e::es) [] pos) (ar R At):=by
 obtain ⟨ta,pa,sa⟩:=ha.ex
 exact ⟨_,nV hc hg hm hv pa hn hdb h1 h2,pX hr sa⟩
theorem e7 {r:List V->Hp->VK->Prop}{R:FSp}(hc:b8 X (.type T) r)(hr:rz X.K r R)(hg:Gl X x)(hm:X.mg x=none)(hv:N4 x=some (.type T))(ha:LA X (e::es) At)(hn:x ≠ "__name__" := by decide)(hdb:(x == ("__debug__" : Str))=false:=by decide)
  (h1:Nx (e::es) X.env=(false,OF e X.env)::Nx es X.env:=by rfl) (h2:(N8 pos (Nx es X.env)).any (·.1)=false:=by rfl):LE X (.Call (.Name x p) (e::es) [] pos) (ar R At):=by
 obtain ⟨ta,pa,sa⟩:=ha.ex
 exact ⟨_,qA hc hg hm hv pa hn hdb h1 h2,pX hr sa⟩
theorem jt {K:Nt}:rz K (λxs H Q=>∃ i,xs=[.int i]/\Q (.int (if i < 0 then -i else i)) H) rn:=λH μ xs ds Q Q' m p h k=>by
 unfold rn at h
 split at h
 ·cases p with | cons p1 p2=>cases p2;cases p1;exact ⟨_,rfl,k _ H _ μ (.refl H) m (.int _) h⟩
 ·exact Ny h
theorem FI {K:Nt}:rz K (λxs H Q=>(∃ i,xs=[.int i]/\Q (.int i) H)∨∃ k,xs=[.bl k]/\Q (.int (if k then 1 else 0)) H) z9:=λH μ xs ds Q Q' m p h k=>by
 unfold z9 at h
 split at h
 ·cases p with | cons p1 p2=>cases p2;cases p1;exact .inl ⟨_,rfl,k _ H _ μ (.refl H) m (.int _) h⟩
 ·cases p with | cons p1 p2=>cases p2;cases p1;exact .inr ⟨_,rfl,k _ H _ μ (.refl H) m (.int _) h⟩
 ·exact Ny h
theorem b8.or {f:Nu}{r r':List V->Hp->VK->Prop}(h:b8 X f r)(h':b8 X f r'):b8 X f (λxs H Q=>r xs H Q∨r' xs H Q):=λpins s σ H xs us Q I rx q=>by
 rcases q with q | q
 ·exact h pins s σ H xs us Q I rx q
 ·exact h' pins s σ H xs us Q I rx q
theorem bQ {K:Nt}:rz K (λxs H Q=>(∃ p ys,xs=[.ref p]/\(SqL K H p ys∨SqT K H p ys)/\Q (.int ys.length) H)∨∃ z,xs=[.str z]/\z.length<=sizeLine/\Q (.int z.length) H) cX:=λH μ xs ds Q Q' m p h k=>by
 unfold cX at h
 split at h
 ·cases p with | cons p1 p2=>cases p2;cases p1 with | tup q l=>exact .inl ⟨_,_,rfl,.inr q,k _ H _ μ (.refl H) m (by rw[l.length];exact .int _) h⟩
 ·cases p with | cons p1 p2=>cases p2;cases p1 with | ls q l=>exact .inl ⟨_,_,rfl,.inl q.sq,k _ H _ μ (.refl H) m (by rw[l.length];exact .int _) h⟩
 ·cases p with | cons p1 p2=>cases p2;cases p1;exact .inr ⟨_,rfl,big h.1,k _ H _ μ (.refl H) m (.int _) h.2⟩
 ·rename_i a
  cases p with | cons p1 p2=>
  cases p2;cases p1
  obtain ⟨ys,e0,h⟩:=cC h
  obtain ⟨xs,ex,l⟩:=m a _ e0
  exact .inl ⟨_,_,rfl,.inl (SqL.of ex),k _ H _ μ (.refl H) m (by rw[l.length];exact .int _) h⟩
 ·exact Ny h
theorem bu:b8 X (.builtin "len") (λxs H Q=>(∃ p ys,xs=[.ref p]/\(SqL X.K H p ys∨SqT X.K H p ys)/\Q (.int ys.length) H)∨∃ z,xs=[.str z]/\z.length<=sizeLine/\Q (.int z.length) H):=b8.or sV r9
end
end
section
open PySem PySem.Spec PyProof.Rows L2
def tys:List String:=["NoneType", "bool", "int", "str", "tuple", "list"]
def yi:List String:=["bool", "int", "str", "tuple", "list", "dict"]
theorem yU (K:Nt):∀ t∈tys,∀ c∈yi,Vb K (.type t) (.type c)=some (bw t c):=by
 intro t ht c hc
 simp only[tys,NT,Oy,or_false] at ht
 simp only[yi,NT,Oy,or_false] at hc
 rcases ht with rfl | rfl | rfl | rfl | rfl | rfl<;>rcases hc with rfl | rfl | rfl | rfl | rfl | rfl<;>with_unfolding_all rfl
theorem Ka {d:D}{t:String}(h:tyD d=some t):t∈tys:=by
 cases d<;>simp[tyD] at h<;>subst h<;>decide
def G4 (K:Nt):List V->Hp->VK->Prop:=λxs H Q=>∃ x d t c,xs=[x,.ty c]/\Dp K H x d/\tyD d=some t/\c∈yi/\Q (.bl (bw t c)) H
theorem Bn {X:Cx}:b8 X (.builtin "isinstance") (G4 X.K):=λpins s σ H xs us Q I rx ⟨x,d,t,c,ex,px,et,hc,q⟩=>by
 subst ex
 cases rx with | @cons _ u _ _ r1 r2=>cases r2 with | cons r2 r3=>
 cases r3
 cases (show _=RZ c from r2)
 have e:=yU X.K t (Ka et) c hc
 have fin:∀ tk,EP X pins σ Q (.bool (bw t c)) { s with toks:=tk }:=λtk=>⟨.bl _,H,I.tok tk,rfl,q⟩
 cases px with
 | non=>cases et;cases (show u=Pg from r1);exact O7 PySem.W.kitx_none I.kIn Qg e (λz=>nomatch z) fin
 | bl y=>cases et;cases (show u=RY y from r1);exact O7 PySem.W.kitx_bool I.kIn Qg e (λz=>nomatch z) fin
 | int i=>cases et;obtain ⟨t,z⟩:=(show ∃ t,u=S1 i t from r1);cases z;exact O7 PySem.W.kitx_int I.kIn Qg e (λz=>nomatch z) fin
 | str y=>cases et;obtain ⟨t,z⟩:=(show ∃ t,u=QE y t from r1);cases z;exact O7 PySem.W.kitx_str I.kIn Qg e (λz=>nomatch z) fin
 | ty _=>cases et
 | obj _=>cases et
 | @tup a xs ds sq l=>
  cases et
  cases (show u=OK a from r1)
  obtain ⟨its,_,⟨o,h1,h2,_⟩,_⟩:=I.tuple sq
  exact O7 PySem.W.kitx_tuple I.kIn ⟨o,h1,h2⟩ e (λz=>nomatch z) fin
 | @ls a xs ds sq l=>
  cases et
  cases (show u=OK a from r1)
  obtain ⟨its,_,⟨o,n,h1,h2,_⟩,_⟩:=I.list sq.sq
  exact O7 T9 I.kIn ⟨o,h1,h2⟩ e (λz=>nomatch z) fin
section
variable {X:Cx} {a b c e tg o:NX} {Ta Tb Tc:ETr} {pos:Pos} {es:List NX} {At:ATr} {x:Str} {p:Pos} {id T:String} {st:Stmt} {rest:List Stmt} {T1 T2:STr} {tA:TTr}
theorem aN:LSs X [] aU:=⟨_,EC,λσ H ρ μ E E' rl h k=>k.nx _ _ _ _ (.refl H) rl h⟩
theorem aq (h1:LS X st T1)(h2:LSs X rest T2):LSs X (st::rest) (aE T1 T2):=by
 obtain ⟨t1,p1,s1⟩:=h1.ex
 obtain ⟨t2,p2,s2⟩:=h2.ex
 exact ⟨_,Bw p1 p2,λσ H ρ μ E E' rl h k=>s1 σ H ρ μ _ _ rl h ⟨λσ' H' ρ' μ' t' r' q=>s2 σ' H' ρ' μ' E E' r' q (k.go t'),k.rt,k.bk,k.ct⟩⟩
theorem av (h1:LS X st T1):LSs X [st] T1:=by
 obtain ⟨t1,p1,s1⟩:=h1.ex
 exact ⟨_,Gm p1,s1⟩
theorem sJ (he:LE X e Ta)(hs:Rg e none pos.line X.env=pure false:=by rfl):LS X (.Expr e pos) (lb Ta):=by
 obtain ⟨ta,pa,sa⟩:=he.ex
 exact ⟨_,FQ pa hs,λσ H ρ μ E E' rl h k=>sa σ H ρ μ _ _ rl h λv H' d μ' t' m' p' h'=>k.nx _ _ _ _ t' (rl.go t' m') h'⟩
theorem aC (he:LE X e Ta):LS X (.Return (some e) pos) (aR Ta):=by
 obtain ⟨ta,pa,sa⟩:=he.ex
 exact ⟨_,Ke pa,λσ H ρ μ E E' rl h k=>sa σ H ρ μ _ _ rl h k.rt⟩
theorem bh {sa sb:List Stmt}(hc:LT X c tA)(ha:LSs X sa T1)(hb:LSs X sb T2):LS X (.If c sa sb pos) (bF tA T1 T2):=by
 obtain ⟨tc,pc,sc⟩:=hc.ex
 obtain ⟨t1,p1,s1⟩:=ha.ex
 obtain ⟨t2,p2,s2⟩:=hb.ex
 refine ⟨_,KJ pc p1 p2,λσ H ρ μ E E' rl h k=>sc σ H ρ μ _ _ rl h λq H1 μ1 t1' m1 h1=>?_⟩
 cases q with
 | true=>exact sN (s1 σ H1 ρ μ1 E E' (rl.go t1' m1) h1 (k.go t1'))
 | false=>exact rQ (s2 σ H1 ρ μ1 E E' (rl.go t1' m1) h1 (k.go t1'))
theorem kd {K:Nt}(i:Nat):HC K (nN i) (az i):=λσ H ρ μ v d k k' rl p h q=>q _ _ _ _ (.refl H) (rl.set p i) h
theorem rP (i:Nat)(hN:X.N.Nodup)(hi:X.N[i]? = some x:=by rfl)(hx:Loc X.env.scope x:=by first | exact SJ rfl | exact RG rfl)(hf:X.fn x=true∨X.env.scope.names.lookup x=some .local:=by first | exact .inl rfl | exact .inr rfl | assumption):LG X (.Name x pos) (az i):=
 ⟨_,mq hN hi hx hf,kd i⟩
theorem aF (i:Nat){pos':Pos}(hN:X.N.Nodup)(he:LE X e Ta)(hi:X.N[i]? = some x:=by rfl)(hx:Loc X.env.scope x:=by first | exact SJ rfl | exact RG rfl)(hs:Rg e (some (.Name x pos')) pos.line X.env=pure false:=by rfl)
  (hf:X.fn x=true∨X.env.scope.names.lookup x=some .local:=by first | exact .inl rfl | exact .inr rfl | assumption):LS X (.Assign [.Name x pos'] e pos) (aQ Ta (az i)):=by
 obtain ⟨ta,pa,sa⟩:=he.ex
 exact ⟨_,Ii hN hi hx pa hs hf,λσ H ρ μ E E' rl h k=>sa σ H ρ μ _ _ rl h λv H' d μ' t' m' p' h'=>kd i σ H' ρ μ' v d _ _ (rl.go t' m') p' h' (k.go t').nx⟩
theorem BN (i j:Nat){y:Str}{px py pt:Pos}{kt k2 pt2}(hc:X.calm=true)(hN:X.N.Nodup)(ha:LA X [a,b] At)(hi:X.N[i]? = some x:=by rfl)(hj:X.N[j]? = some y:=by rfl)(hij:i≠j:=by decide)
  (hx:X.env.scope.names.lookup x=some .local:=by rfl) (hy:X.env.scope.names.lookup y=some .local:=by rfl)
  (hw:QM [.Tuple [.Name x px,.Name y py] kt pt] (.Tuple [a,b] k2 pt2) X.env=pure (some [x,y]):=by rfl)
  (hs:QL [.Tuple [.Name x px,.Name y py] kt pt] (.Tuple [a,b] k2 pt2) pos.line X.env=pure false:=by rfl) :
  LS X (.Assign [.Tuple [.Name x px,.Name y py] kt pt] (.Tuple [a,b] k2 pt2) pos) (xF i j At):=by
 obtain ⟨ta,pa,sa⟩:=ha.ex
 refine ⟨_,HK hc hN hi hj hij hx hy pa hw hs,λσ H ρ μ E E' rl h k=>sa σ H ρ μ _ _ rl h λvs H' ds μ' t' m' p' h'=>?_⟩
 unfold L3.k2 at h'
 split at h'
 ·rename_i dv dw
  cases p' with | cons p1 p2=>cases p2 with | cons p2 p3=>
  cases p3
  exact ⟨_,_,rfl,k.nx _ _ _ _ t' (((rl.go t' m').set p1 i).set p2 j) h'⟩
 ·exact Ny h'
theorem oh {Tk':ETr}{tpos:Pos}(ho:LE X o Ta)(hi:LE X b Tk')(he:LE X e Tb)
  (ha:∀ v,RD (.Subscript o b tpos) X.env v=(do
   let ov ← Ry [v] (OF o X.env)
   let iv ← Ry [v,ov] (OF b X.env)
   standAt tpos
   Ry [v,ov,iv] (setItem ov iv v)
   release [v,ov,iv] []):=by intro _;rfl)
  (hs:QL [.Subscript o b tpos] e pos.line X.env=pure false:=by rfl) (hw:QM [.Subscript o b tpos] e X.env=pure none:=by rfl)
  (h1:(Ph [.Subscript o b tpos] X.env).map (·.2)=[RD (.Subscript o b tpos) X.env]:=by rfl):LS X (.Assign [.Subscript o b tpos] e pos) (fb Ta Tk' Tb):=by
 obtain ⟨to,po,so⟩:=ho.ex
 obtain ⟨ti,pi,si⟩:=hi.ex
 obtain ⟨te,pe,se⟩:=he.ex
 refine ⟨_,D0 pe (Kh po pi set_list ha) hs hw h1,λσ H ρ μ E E' rl h k=>se σ H ρ μ _ _ rl h λy H1 dy μ1 t1 m1 p1 h1=>so σ H1 ρ μ1 _ _ (rl.go t1 m1) h1 λov H2 dov μ2 t2 m2 p2 h2=>
  si σ H2 ρ μ2 _ _ (rl.go (t1.trans t2) m2) h2 λiv H3 div μ3 t3 m3 p3 h3=>?_⟩
 cases p2 with
 | obj q=>
  cases p3 with
  | int n=>
   obtain ⟨ds,e0,h3'⟩:=cC h3
   obtain ⟨j,e1,h4⟩:=xf h3'
   obtain ⟨xs,ex,l⟩:=m3 q _ e0
   refine ⟨q,xs,n,j,rfl,rfl,ex,by rw[l.length];exact e1,?_⟩
   have t4:Tk H3 (L2.upd H3 q (.lst (xs.set j y))):=.upd (λys z=>by rw[ex] at z;cases z) λo' u z=>by rw[ex] at z;cases z
   have t14:=t1.trans (t2.trans (t3.trans t4))
   refine k.nx _ _ ρ _ t14 (rl.go t14 (λa' o' e'=>?_)) h4
   by_cases haq:a'=q
   ·subst haq
    rw[bp] at e';cases e'
    exact ⟨_,aP,(l.set (p1.mono (t2.trans t3)) j).mono t4⟩
   ·rw[cW haq] at e'
    exact (m3 a' _ e').ne t4 haq
  | _=>exact Ny h3
 | _=>cases p3<;>exact Ny h3
theorem uL {body:List Stmt}(hp:Ut (NS X.prog X.w) X.A X.env X.xe)(hc:LT X c tA)(hb:LSs X body T1):LS X (.While c body [] pos) (xA tA T1):=by
 obtain ⟨tc,pc,sc⟩:=hc.ex
 obtain ⟨t1,p1,s1⟩:=hb.ex
 refine ⟨_,Be hp pc p1,λσ H ρ μ E E' rl h k=>?_⟩
 obtain ⟨P,m,h0,hs⟩:=h
 refine ⟨λn σ' H'=>∃ ρ' μ',Tk H H'/\Rl X.K σ' H' ρ' μ'/\P ρ' μ'/\n=m ρ' μ',⟨_,ρ,μ,.refl H,rl,h0,rfl⟩,?_⟩
 rintro n σ1 H1 ⟨ρ1,μ1,t1',rl1,hP,rfl⟩
 refine sc σ1 H1 ρ1 μ1 _ _ rl1 (hs ρ1 μ1 hP) λq H2 μ2 t2 m2 h2=>?_
 have t12:=t1'.trans t2
 cases q with
 | true=>
  refine sN ⟨λσ' H'=>∃ ρ' μ',Tk H H'/\Rl X.K σ' H' ρ' μ'/\P ρ' μ'/\m ρ' μ' < m ρ1 μ1,λσ' H' ⟨ρ',μ',a1,a2,a3,a4⟩=>⟨_,a4,ρ',μ',a1,a2,a3,rfl⟩,?_⟩
  have h2':=h2
  refine s1 σ1 H2 ρ1 μ2 _ _ (rl1.go t2 m2) h2' ⟨λσ' H' ρ' μ' t' r' q=>⟨ρ',μ',t12.trans t',r',q.1,q.2⟩,(k.go t12).rt,(k.go t12).nx,λσ' H' ρ' μ' t' r' q=>⟨ρ',μ',t12.trans t',r',q.1,q.2⟩⟩
 | false=>exact rQ (k.nx _ _ _ _ t12 (rl1.go t2 m2) h2)
theorem ur (lo:Int)(n:Nat):d8 lo (n+1)=.int lo::d8 (lo+1) n:=by
 unfold d8
 rw[List.range_succ_eq_map]
 rw[N7,OR]
 congr 1
 ·simp
 ·refine List.map_congr_left λi _=>?_
  show D.int _=D.int _
  congr 1
  show lo+((i+1:Nat):Int)=lo+1+(i:Int)
  omega
end
def lift (K:Nt)(sp:FSp):Sp:=λvs H Q _=>∃ ds μ QQ,DpL K H vs ds/\bW K H μ/\sp ds μ QQ/\iC K H QQ Q
def RT (Q:DK):DK:=λd μ'=>∃ μ,Sub μ μ'/\Q d μ
def ini (n:Nat)(ds:List D):ST:=ds.map some++NZ (n - ds.length) none
theorem Jd:∀ (ds:List D) (n i:Nat) (d:D),lk (ini n ds) i=some d->ds[i]? = some d:=by
 intro ds
 have rep:∀ m i (d:D),lk (NZ m none) i=some d->False:=by
  intro m
  induction m with
  | zero=>intro i d h;cases i<;>cases h
  | succ m ih=>intro i d h;cases i with
   | zero=>cases h
   | succ i=>exact ih i d h
 have gen:∀ (ds:List D) m i d,lk (ds.map some++NZ m none) i=some d->ds[i]? = some d:=by
  intro ds
  induction ds with
  | nil=>intro m i d h;exact (rep m i d h).elim
  | cons x r ih=>intro m i d h;cases i with
   | zero=>simpa[lk] using h
   | succ i=>simpa using ih m i d h
 exact λn i d h=>gen ds _ i d h
section
variable {P:NO} {w:N0} {K:Nt} {mg:Str->Option Nu} {base:Heap}
theorem Hm {x qual:Str}{st:Stmt}{f:Addr}{fd:NU}{N ps:List Str}{k:Nat}{sp:FSp}{T:STr}(F:Fun K x qual st f fd)(S:aM N ps (ay st))(len:∀ ds μ Q,sp ds μ Q->ds.length=ps.length)
  (hb:∀ (cdv:Nu) (A:NY) (outer:List Env) (s:Nv) (H:Hp) (E:XK),fh k (A.deeper (Rk qual (ay st) s.heap.objs.size f cdv))->
   LSs (ud CX0 P w K mg base N qual (ay st) f cdv A outer s H E).nox (fx st) T)
  (hr:∀ ds μ Q,sp ds μ Q->T { nx:=λ_ μ'=>RT Q .non μ',rt:=RT Q } (ini N.length ds) μ):jk P w K mg base CX0 (k+1) f fd ps (lift K sp):=by
 refine F.ok S (λvs H Q E h=>?_) (λcdv A outer s H vs Q E hroom h=>?_)
 ·obtain ⟨ds,μ,QQ,l,m,h1,k⟩:=h
  rw[l.length];exact len ds μ QQ h1
 ·obtain ⟨ds,μ,QQ,l,m,h1,k⟩:=h
  obtain ⟨t,pt,stt⟩:=(hb cdv A outer s H E hroom).ex
  have hl:vs.length=ds.length:=l.length
  refine ⟨t,pt,stt (L2.start N vs) H (ini N.length ds) μ _ _ ⟨?_,λi d e=>?_,m⟩ (hr ds μ QQ h1) ⟨λσ' H' ρ' μ' t' r' q=>?_,λv H' d μ' t' m' p' q=>?_,λ_ _ _ _ _ _ q=>q,λ_ _ _ _ _ _ q=>q⟩⟩
  ·unfold ini L2.start;simp[hl]
  ·have e':=Jd ds _ i d e
   obtain ⟨v,e1,p⟩:=l.get e'
   refine ⟨v,?_,p⟩
   unfold L2.start
   have hi:i < vs.length:=(Ot.mp e1).1
   rw[P6 (by simpa using hi),Of,e1]
   rfl
  ·obtain ⟨μ2,s2,q2⟩:=q
   exact k _ _ _ μ2 t' (r'.mu.sub s2) .non q2
  ·obtain ⟨μ2,s2,q2⟩:=q
   exact k _ _ _ μ2 t' (m'.sub s2) p' q2
end
section
variable {X:Cx} {k:Nat} {f:Addr} {fd:NU} {ps:List Str} {sp:FSp} {x:Str} {p pos:Pos} {e:NX} {es:List NX} {At:ATr}
theorem Fp (F:jk X.prog X.w X.K X.mg X.base CX0 k f fd ps (lift X.K sp))(hr:fh k X.A)(hg:Gl X x)(hm:X.mg x=some (.ref f))(hk:Qt X.K (.ref f)=true)(hb:Binds X.K fd ps [])
  (ha:LA X (e::es) At) (hdb:(x == ("__debug__" : Str))=false:=by decide) (he:Nx (e::es) X.env=(false,OF e X.env)::Nx es X.env:=by rfl) (hpl:(N8 pos (Nx es X.env)).any (·.1)=false:=by rfl) :
  LE X (.Call (.Name x p) (e::es) [] pos) (ar sp At):=by
 obtain ⟨ta,pa,sa⟩:=ha.ex
 refine ⟨_,Ew F hr hg hm hk hb .nil Lq pa hdb he hpl,λσ H ρ μ Q Q' rl h k=>sa σ H ρ μ _ _ rl h λxs H1 ds μ1 t1 m1 p1 h1=>?_⟩
 rw[OC]
 exact ⟨ds,μ1,Q,p1,m1,h1,k.go t1⟩
end
end
section
open PySem PySem.Spec PyProof.Rows L2
theorem DpL.ints {K:Nt}{H:Hp}:∀ ns:List Int,DpL K H (ns.map V.int) (ns.map D.int)
 | []=>.nil
 | n::r=>.cons (.int n) (DpL.ints r)
theorem SqF.only {K:Nt}{H:Hp}{a:Addr}{xs:List V}(hO:EZ H)(h:SqL K H a xs):SqF K H a xs:=by
 rcases h with (h | h) | h
 ·rcases hO a with z | ⟨o,ys,z⟩
  ·rw[h] at z;cases z
  ·rw[h] at z;cases z
 ·exact .inl h
 ·exact .inr h
theorem KZ {l:Sl}{k:Nat}{q:NO}{loose:List Str}{XP:(Str->Option Nu)->Heap->Prop}{YP:N0->Heap->Prop}{d:DefRec}{K:U8->Nt}{sp:FSp}{x:Str}
  (hn:l.most=some 63) (hdf:d.params.defaults=[]) (hr:fh k Se) (hY:∀ (w:N0) (h:Heap),YP w h->(K w.params).In h)
  (hl:∀ ns:List Int,ns.length<=63->∀ μ,sp [.ls (ns.map .int)] μ (λd _=>d=.bl true))
  (F:∀ (w:N0) (mg:Str->Option Nu) (fa:Addr) (h:Heap),(K w.params).In h->h.Ns Oq mg->mg d.name=some (.ref fa)->
   ∃ fd:NU,(∀ (s:Nv) (u:Nu),TZ s fd ⟨[u],[]⟩ [(x,u)])/\∀ base:Heap,(K w.params).In base->base.Ns Oq mg->jk l.prog w (K w.params) mg base CX0 k fa fd [x] (lift (K w.params) sp)) :
  Vo q loose XP YP l.row.toRowW d [] (λf vs=>Ro f vs):=
 L2.Ex (n:=63) (k:=k) (x:=x) (CX:=λ_=>CX0) (sp:=λw=>lift (K w.params) sp) hn (by decide) hdf hr hY F
  (λw H a ns hl' hO hS=>⟨[.ls (ns.map .int)],λ_=>none,_,.cons (.ls (.only hO hS) (.ints ns)) .nil,(λa o e=>by cases e),hl ns hl' _,λv H' d μ' _ _ p e=>by
   have e':d=.bl true:=e
   subst e'
   cases p;rfl⟩) λ_ _ _ _ _ z=>z
end
section
open PySem PySem.Spec PyProof.Rows L2
def scB (N P:List Str)(sc:Scope):Bool:=decide N.Nodup&&decide (∀ x∈P,sc.names.lookup x=some .local∨sc.names.lookup x=some .cell)&&decide (∀ y∈sc.names,y.2≠.free)
theorem K5 {N P:List Str}{sc:Scope}(h1:sc.kind=.function)(h2:sc.isCoroutine=false)(h3:sc.isGenerator=false)(h4:N.take P.length=P)(h:scB N P sc=true):aM N P sc:=by
 unfold scB at h
 rw[Nz,Nz] at h
 exact ⟨h1,h2,h3,of_decide_eq_true h.1.1,h4,of_decide_eq_true h.1.2,of_decide_eq_true h.2⟩
structure aV (P:NO) (w:N0) (K:Nt) (mg:Str->Option Nu) (base:Heap) (k:Nat) (x:Str) (ps:List Str) (sp:FSp):Prop where
 ex:∃ f fd,jk P w K mg base CX0 k f fd ps (lift K sp)/\mg x=some (.ref f)/\Qt K (.ref f)=true/\Binds K fd ps []
section
variable {P:NO} {w:N0} {K:Nt} {mg:Str->Option Nu} {base:Heap}
theorem aO {x qual:Str}{st:Stmt}{f:Addr}{fd:NU}{N ps:List Str}{k:Nat}{sp:FSp}{T:STr}(m:mg x=some (.ref f))(F:Fun K x qual st f fd)(S:aM N ps (ay st))(len:∀ ds μ Q,sp ds μ Q->ds.length=ps.length)
  (hr:∀ ds μ Q,sp ds μ Q->T { nx:=λ_ μ'=>RT Q .non μ',rt:=RT Q } (ini N.length ds) μ)
  (b:∀ (kV doc pm:Nu) (an:Option Addr) (cdv ct:Nu) (us:List Nu),us.length=ps.length->bindArgs (P4 x qual (jD st) (fx st) (ay st) .none kV doc pm an cdv ct) ⟨us,[]⟩=pure (ps.zip us))
  (hb:∀ (cdv:Nu) (A:NY) (outer:List Env) (s:Nv) (H:Hp) (E:XK),fh k (A.deeper (Rk qual (ay st) s.heap.objs.size f cdv))->(A.deeper (Rk qual (ay st) s.heap.objs.size f cdv)).units+64 < cLine->
   LSs (ud CX0 P w K mg base N qual (ay st) f cdv A outer s H E).nox (fx st) T):aV P w K mg base (k+1) x ps sp:=
 ⟨f,fd,Hm F S len (λcdv A outer s H E h=>hb cdv A outer s H E h h.units) hr,m,F.kp,F.binds b⟩
end
theorem aj {X:Cx}{k n:Nat}{x:Str}{ps:List Str}{sp:FSp}{e:NX}{es:List NX}{At:ATr}{p pos:Pos}(C:aV X.prog X.w X.K X.mg X.base k x ps sp)(hr:fh n X.A)(hg:Gl X x)
  (ha:LA X (e::es) At) (hle:k<=n:=by decide) (hdb:(x == ("__debug__" : Str))=false:=by decide) (he:Nx (e::es) X.env=(false,OF e X.env)::Nx es X.env:=by rfl) (hpl:(N8 pos (Nx es X.env)).any (·.1)=false:=by rfl) :
  LE X (.Call (.Name x p) (e::es) [] pos) (ar sp At):=by
 obtain ⟨f,fd,F,m,kp,b⟩:=C.ex
 exact Fp F (hr.mono hle) hg m kp b ha hdb he hpl
end
section
open PySem PySem.Spec PyProof.Rows L2
def bJ (X:Cx)(scope:Scope)(Nc:List Str)(cl:List (Str×Addr))(C:Addr)(s₀:Nv)(H₀:Hp)(ex:List Addr):Cx:=
 { X with env:=Vc scope cl C X.env,N:=Nc,s₀:=s₀,H₀:=H₀,outer:=X.stack,ex:=ex,fn:=λ_=>false,pn:=[] }
theorem xa {scope:Scope}{env:Env}(h:∀ y∈scope.names,y.2=.free->∃ c,env.cells.lookup y.1=some c) :
  ∃ cl,closureFor scope env=pure cl/\(∀ x c,cl.lookup x=some c->env.cells.lookup x=some c)/\∀ y∈scope.names,y.2=.free->∃ c,cl.lookup y.1=some c:=by
 have gen:∀ (ns:List (Str×QS)) (cs:List (Str×Addr)),(∀ y∈ns,y.2=.free->∃ c,env.cells.lookup y.1=some c)->(∀ x c,cs.lookup x=some c->env.cells.lookup x=some c)->
   ∃ cl,(forIn ns cs λx r=>if (x.2 == O1)=true then do let c ← cellOf env x.1;pure (O8 ((x.1,c)::r)) else pure (O8 r):Sem _)=pure cl/\(∀ x c,cl.lookup x=some c->env.cells.lookup x=some c)/\
    (∀ x,(cs.lookup x).isSome=true->(cl.lookup x).isSome=true)/\∀ y∈ns,y.2=.free->∃ c,cl.lookup y.1=some c:=by
  intro ns
  induction ns with
  | nil=>intro cs _ h2;exact ⟨cs,rfl,h2,λ_ z=>z,λ_ z=>nomatch z⟩
  | cons y r ih=>
   intro cs h1 h2
   obtain ⟨n,k⟩:=y
   by_cases hk:k=.free
   ·subst hk
    obtain ⟨c,hc⟩:=h1 (n,.free) NB rfl
    have h2':∀ x c',((n,c)::cs).lookup x=some c'->env.cells.lookup x=some c':=λx c' e=>by
     rw[O0] at e
     split at e
     ·rename_i hx
      cases e
      have:x=n:=by simpa using hx
      subst this;exact hc
     ·exact h2 x c' e
    obtain ⟨cl,e1,e2,e3,e4⟩:=ih ((n,c)::cs) (λy hy=>h1 y (NF _ hy)) h2'
    refine ⟨cl,?_,e2,λx hx=>e3 x ?_,λy hy hf=>?_⟩
    ·rw[UL]
     have:cellOf env n=pure c:=by unfold cellOf;rw[hc]
     simp only[beq_self_eq_true,if_true,this,pure_bind]
     exact e1
    ·rw[O0];split
     ·rfl
     ·exact hx
    ·obtain rfl | hy:=NT.mp hy
     ·have:(cl.lookup n).isSome=true:=e3 n (by simp[O0])
      exact Qc.mp this
     ·exact e4 y hy hf
   ·obtain ⟨cl,e1,e2,e3,e4⟩:=ih cs (λy hy=>h1 y (NF _ hy)) h2
    refine ⟨cl,?_,e2,e3,λy hy hf=>?_⟩
    ·rw[UL]
     have:(k == O1)=false:=by simpa using hk
     simp only[this,PV,if_false,pure_bind]
     exact e1
    ·obtain rfl | hy:=NT.mp hy
     ·exact absurd hf hk
     ·exact e4 y hy hf
 obtain ⟨cl,e1,e2,_,e4⟩:=gen scope.names [] h λx c e=>by cases e
 refine ⟨cl,?_,e2,e4⟩
 show ((forIn scope.names ([]:List (Str×Addr)) λx r=>if (x.2 == O1)=true then do let c ← cellOf env x.1;pure (O8 ((x.1,c)::r)) else pure (O8 r):Sem _) >>= λs=>pure s)=pure cl
 rw[e1]
 rfl
def ym (Y:Cx)(ifs:List NX)(t:TT):Prop:=
 ∀ (pins:List (Addr×Obj)) (s:Nv) (σ:L2.St) (H:Hp) (Q:Bool->Hp->Prop),Inv Y pins σ H s->t σ H Q->
  NL (NS Y.prog Y.w) Y.A (forIn ifs true λc r=>if r=true then do let ok ← isTrue c Y.env (OF c Y.env);pure (O8 ok) else pure (O8 r)) (TP Y pins σ Q) Y.xe s
def Nk:TT:=λ_ H Q=>Q true H
theorem F0 {Y:Cx}:ym Y [] Nk:=λpins s σ H Q I h=>wpAny_tests_nil ⟨H,I,h⟩
theorem Gz {Y:Cx}{c:NX}{t:TT}(h:PT Y c t):ym Y [c] t:=λpins s σ H Q I hh=>wpAny_tests_one (h pins s σ H Q I hh)
def jK (σ:L2.St)(n:Nat)(caps:List Nat):L2.St:=NZ n none++caps.map λi=>(σ[i]?).join
def Wk (σ' σ:L2.St):Prop:=σ'.length=σ.length/\∀ (i:Nat) v,σ'[i]? = some (some v)->σ[i]? = some (some v)
def mx (wi:TI)(g:TG)(tt:TT)(te:TE)(n:Nat)(caps:List Nat):TE:=λσ H Q=>wi σ H λJ H1=>∀ D,H1 D=none->
 ∃ W:Nat->Nat->List V->Hp->Prop,(∃ m,W 0 m [] (L2.upd H1 D (.lst [])))/\∀ i m ys H2,W i m ys H2->
  (J.stop i H2/\Q (.ref D) H2)∨(J.go i H2/\∃ N:List V->Hp->Prop,(∀ ys' H',N ys' H'->∃ m',m' < m/\W (i+1) m' ys' H')/\
   ∀ x H3,J.yld i H2 x H3->g x (jK σ n caps) H3 λσ4 H4=>Wk (jK σ n caps) σ4/\tt σ4 H4 λb H5=>if b=true then te σ4 H5 λy H6=>∃ zs,H6 D=some (.lst zs)/\zs.length < sizeLine/\N (zs++[y]) (L2.upd H6 D (.lst (zs++[y]))) else N ys H5)
theorem AR {prog:NO}{w:N0}{A:NY}{R:Ux->Nv->Prop}{s:Nv}{elt target iter:NX}{ifs:List NX}{scope:Scope}{pos:Pos}{it acc:Nu}{env:Env}(J:Nat->Nv->Prop)
  (turn:∀ n s,J n s->NL (NS prog w) A (Qs it) (λo t₁=>match o with
   | none=>R (.ok .next) t₁
   | some v=>NL (NS prog w) A (QY target it v) (λ_ t₁=>NL (NS prog w) A (RD target env v) (λ_ t₂=>
     NL (NS prog w) A (forIn ifs true λc r=>
      if r=true then do let ok ← isTrue c env (OF c env);pure (O8 ok) else pure (O8 r)) (λok t₃=>
      if ok=true then NL (NS prog w) A (OF elt env) (λx t₄=>
       NL (NS prog w) A (call (.builtin "list.append") [acc,x]) (λ_ t₅=>∃ m,m < n/\J m t₅) (λ_ _=>False) t₄) (λ_ _=>False) t₃
      else ∃ m,m < n/\J m t₃) (λ_ _=>False) t₂) (λ_ _=>False) t₁) (λ_ _=>False) t₁) (λ_ _=>False) s)
  (n:Nat) (h:J n s):Pt (NS prog w) A (.compLoop (.ListComp elt [⟨target,iter,ifs,0⟩] scope pos) 0 it acc env) R s:=by
 refine codeAny_loop rfl J (λn s hJ=>?_) n h
 show NL _ A ((compTurn (.ListComp elt [⟨target,iter,ifs,0⟩] scope pos) 0 it acc env).onRaise
  (λx=>do noteFrame x env;theTreesLotGoes x)) _ _ s
 refine wpAny_noted ?_
 rw[compTurn_list]
 refine wpAny_bind (RE (wpAny_bind (OQ (turn n s hJ) (λr t₁ g₁=>?_) λ_ _ h'=>h'.elim)))
 cases r with
 | none=>exact wpAny_pure g₁
 | some v=>
  refine wpAny_bind (OQ g₁ (λ_ t₁' g₁'=>?_) λ_ _ h'=>h'.elim)
  refine wpAny_bind (OQ g₁' (λ_ t₂ g₂=>wpAny_bind (OQ g₂ (λok t₃ g₃=>?_) λ_ _ h'=>h'.elim)) λ_ _ h'=>h'.elim)
  cases ok with
  | false=>exact wpAny_pure ⟨rfl,g₃⟩
  | true=>
   exact wpAny_bind (wpAny_bind (OQ g₃ (λx t₄ g₄=>wpAny_bind (OQ g₄ (λ_ t₅ g₅=>wpAny_pure (wpAny_pure ⟨rfl,g₅⟩)) λ_ _ h'=>h'.elim)) λ_ _ h'=>h'.elim))
theorem nB {σ:L2.St}{n:Nat}{caps:List Nat}{i:Nat}{v:V}(h:(jK σ n caps)[i]? = some (some v)):∃ j k,i=n+j/\caps[j]? = some k/\σ[k]? = some (some v):=by
 unfold jK at h
 by_cases hi:i < n
 ·rw[P6 (by simpa using hi),RL,if_pos hi] at h
  cases h
 ·rw[P1 (by simpa using hi)] at h
  rw[OY,Of] at h
  cases e:caps[i - n]? with
  | none=>rw[e] at h;cases h
  | some k=>
   rw[e] at h
   have h':(σ[k]?).join=some v:=Oc h
   cases e2:σ[k]? with
   | none=>rw[e2] at h';cases h'
   | some o=>
    rw[e2] at h'
    have h'':o=some v:=h'
    subst h''
    exact ⟨i - n,k,by omega,e,e2⟩
theorem eu {env:Env}(hk:env.scope.kind=.function):∀ {names:List (Str×QS)} {x:Str},env.kindOf x=some .cell->names.lookup x=some .free->
  (names.map λ(n,k)=>if (k == O1&&env.scope.kind == .function&&env.kindOf n == some .cell) then (n,Tq) else (n,k)).lookup x=some .cell
 | [],_,_,h=>by simp at h
 | (n,k)::r,x,hc,h=>by
  have ih:=@eu env hk r x hc
  show List.lookup x ((if (k == O1&&env.scope.kind == .function&&env.kindOf n == some .cell)=true
   then (n,Tq) else (n,k))::_)=_
  cases hx:x == n with
  | true=>
   simp only[hx,O0] at h
   cases h
   have e:x=n:=by simpa using hx
   subst e
   simp[O0,hk,hc]
  | false=>
   simp only[hx,O0] at h
   by_cases hcc:(k == O1&&env.scope.kind == .function&&env.kindOf n == some .cell)=true
   ·rw[if_pos hcc];simp only[O0,hx];exact ih h
   ·rw[if_neg hcc];simp only[O0,hx];exact ih h
theorem kU {env:Env}:∀ {names:List (Str×QS)} {x:Str} {k':QS},(∀ y∈names,y.2≠.cell)->(k'=.cell∨k'=.free)->
  (x,k')∈(names.map λ(n,k)=>if (k == O1&&env.scope.kind == .function&&env.kindOf n == some .cell) then (n,Tq) else (n,k))->(x,O1)∈names:=by
 intro names x k' hn hk h
 obtain ⟨⟨n,k⟩,hm,e⟩:=N5.mp h
 dsimp only at e
 split at e
 ·rename_i hc
  cases e
  have:k=.free:=by simp at hc;exact hc.1.1
  subst this;exact hm
 ·cases e
  rcases hk with rfl | rfl
  ·exact absurd rfl (hn _ hm)
  ·exact hm
theorem Bf {X:Cx}{pins:List (Addr×Obj)}{σ:L2.St}{H H5:Hp}{s:Nv}{C:Addr}{h':Heap}(I:Inv X pins σ H s)(f0:H C=none)(fC:mH X pins H5 C)(hs:PR C s.heap h'):Inv X pins σ H { s with heap:=h' }:=by
 have keep:∀ b o',b≠C->s.heap.get? b=some o'->h'.get? b=some o':=λb o' hb e'=>(hs.2 b hb).trans e'
 refine I.Hj (ch:=[C]) (s':={ s with heap:=h' }) rfl ⟨λb o' e' _ _ nx=>keep b o' (λz=>nx (by rw[z];exact NB)) e',λb o' e' _ _ nx=>⟨o'.slots,keep b o' (λz=>nx (by rw[z];exact NB)) e'⟩,λb o' _ w _=>w,λb o' e' nx=>⟨o',keep b o' (λz=>nx (by rw[z];exact NB)) e'⟩,λb ys e'=>e',λb o' u e'=>e',λb ps e'=>⟨#[],by simpa using e'⟩⟩ (λb u e'=>?_) I.bare λb hb=>?_
 ·refine (I.hok b u e').qV (λc w' hc q=>keep c w' ?_ q) (λ_ q=>q) λ_ _ q=>q
  rintro rfl
  rcases hc with z | z
  ·rw[← z,f0] at e';cases e'
  ·rw[f0] at z;cases z
 ·cases NK.mp hb
  exact ⟨fC.2.2.2.1,fC.2.1,fC.2.2.2.2.1,fC.2.2.2.2.2⟩
theorem tU {X:Cx}{tg iter elt:NX}{ifs:List NX}{scope:Scope}{pos:Pos}{wi:TI}{g:TG}{tt:TT}{te:TE}{Nc:List Str}{n:Nat}{caps:List Nat}
  (hxe:X.xe=λ_ _=>False) (hcalm:X.calm=true) (hi:PI X tg iter wi)
  (hbody:∀ (cl:List (Str×Addr)) (C:Addr) (s₀:Nv) (H₀:Hp) (ex:List Addr),PG (bJ X scope Nc cl C s₀ H₀ ex) tg g/\ym (bJ X scope Nc cl C s₀ H₀ ex) ifs tt/\PE (bJ X scope Nc cl C s₀ H₀ ex) elt te)
  (hfree:∀ y∈scope.names,y.2=.free->X.env.kindOf y.1=some .cell) (hcell:∀ y∈scope.names,y.2≠.cell) (gb:scope.kind=.function)
  (hnames:∀ y∈scope.names,y.2=.local->scope.names.lookup y.1=some .local) (hlen:Nc.length=n+caps.length)
  (hcap:∀ (j k:Nat),caps[j]? = some k->∃ x,Nc[n+j]? = some x/\X.N[k]? = some x/\scope.names.lookup x=some .free)
  {use:Option (Nu->Sem Unit)} {Qv:Nu->Nv->Prop} {pins:List (Addr×Obj)} {s:Nv} {σ:L2.St} {H:Hp} {Q:VK} {ps:Pos} (I:Inv X pins σ H s) (h:mx wi g tt te n caps σ H Q)
  (hfin:∀ (D C:Addr) (s5:Nv) (H5:Hp) (m:Str->Option Nu),Inv X pins σ H5 s5->mH X pins H5 C->s5.heap.Ns C m->Q (.ref D) H5->Vd (NS X.prog X.w) X.A (λ_ _=>False) use Qv (.ref D) C (.ok .next) s5)
  (hs:∀ x,OJ iter X.env x=pure x:=by intro _;rfl) :
  NL (NS X.prog X.w) X.A (comprehension (.ListComp elt [⟨tg,iter,ifs,0⟩] scope pos) scope X.env ps (newList []) false (OF iter X.env) use) Qv (λ_ _=>False) s:=by
 obtain ⟨cl,hclos,clin,clfree⟩:=xa (scope:=scope) (env:=X.env) λy hy hf=>I.ok.has y.1 (.inl (hfree y hy hf))
 refine wpAny_comprehension_free (use:=use) rfl hs hclos gb hnames ?_
 have hi':=hi pins s σ H _ I h
 rw[hxe] at hi'
 refine OQ hi' (λxv s1 h1=>OQ h1 (λitv s2 h2=>?_) λ_ _ z=>z) λ_ _ z=>z
 obtain ⟨it,fp,tn,J,H1,rfl,I2,T,st2,f2,hh⟩:=h2
 -- the new list
 refine OA ?_
 have hD:H1 s2.heap.objs.size=none:=I2.hok.fresh (NN _)
 obtain ⟨W,⟨m0,w0⟩,turn⟩:=hh _ hD
 have I3:Inv X pins σ (L2.upd H1 s2.heap.objs.size (.lst [])) { s2 with heap:=s2.heap.push { cls:=.type "list", dict:=none,data:=.seq ([]:List Nu).toArray } }:=
  I2.laid (t':=s2.toks) (λb u e=>Nw _ e) (NN _) ⟨OM _,[],0,.nil,NH _ rfl⟩
 have k3:∀ b u,s2.heap.get? b=some u->(s2.heap.push { cls:=.type "list", dict:=none,data:=.seq ([]:List Nu).toArray }).get? b=some u:=λb u e=>Nw _ e
 have fne:∀ b∈fp,b≠s2.heap.objs.size:=λb hb=>by
  obtain ⟨o,ho,_⟩:=T.obj 0 _ st2 b hb
  exact NP (NG ho)
 generalize eD:s2.heap.objs.size=D at *
 generalize eh3:s2.heap.push { cls:=.type "list", dict:=none,data:=.seq ([]:List Nu).toArray }=h3 at *
 generalize eH3:L2.upd H1 D (.lst [])=H3 at *
 have st3:tn 0 h3:=T.keep 0 _ _ st2 λb hb o e=>k3 b o e
 have f3:∀ b∈fp,mH X pins H3 b:=λb hb=>⟨by rw[← eH3,aS (fne b hb)];exact (f2 b hb).1,(f2 b hb).2⟩
 have lt3:∀ b∈fp,b < h3.objs.size:=λb hb=>by
  obtain ⟨o,ho,_⟩:=T.obj 0 _ st3 b hb
  exact NG ho
 generalize es3:({ s2 with heap:=h3 }:Nv)=s3 at *
 have hs3:s3.heap=h3:=by rw[← es3]
 refine wpAny_newFunctionEnv hcell (λy hy=>(by cases hy)) (λh4 hns hsb=>?_) gb
 show Pt _ _ (.compStart _ 0 (.ref it) (.ref D) (Vc scope cl s3.heap.objs.size X.env)) (Vd _ _ _ _ _ (.ref D) s3.heap.objs.size) _
 have k4:∀ b u,s3.heap.get? b=some u->h4.get? b=some u:=λb u e=>hsb.extBut b u (NP (NG e)) (Nw _ e)
 have okY:(bJ X scope Nc cl s3.heap.objs.size s3 H3 fp).Ok:=by
  refine ⟨I3.ok.mod,gb,I3.ok.glob,I3.ok.blt,NN _,λx y c e1 e2=>I3.ok.inj x y c (clin _ _ e1) (clin _ _ e2),λx hx=>?_,λx c hf=>(by cases hf),I3.ok.hd,I3.ok.frames,.inl rfl,λb hb=>⟨?_,λx c e z=>?_⟩,I3.bs,OD I3.ok.bsz I3.sz,λb o e hb=>?_,λb hb hz=>?_,I3.stack,I3.yX⟩
  ·have hx':(relabel scope X.env).names.lookup x=some .cell∨(relabel scope X.env).names.lookup x=some .free:=hx
   have hm:(x,O1)∈scope.names:=by
    rcases hx' with q | q
    ·exact kU hcell (.inl rfl) (OG q)
    ·exact kU hcell (.inr rfl) (OG q)
   exact clfree _ hm rfl
  ·show b≠s3.heap.objs.size
   rw[hs3];exact NP (lt3 b hb)
  ·exact (f3 b hb).2.2.2.2.1 x c (clin _ _ e) z
  ·rcases (f3 b hb).2.2.2.1 with z | z
   ·exact I3.ok.BZ b o e z
   ·exact absurd (NV (NG e) (OD I3.ok.bsz z)) (Px _)
  ·rcases NT.mp (I3.xh b hz) with z | z
   ·exact (f3 b hb).2.1 z
   ·exact (f3 b hb).2.2.1 z
 have Mr:∀ c v,s3.heap.IsCell c v->h4.IsCell c v:=λc v ⟨o,ho,hd⟩=>⟨o,k4 c o ho,hd⟩
 have J0:Inv (bJ X scope Nc cl s3.heap.objs.size s3 H3 fp) [] (jK σ n caps) H3 { s3 with heap:=h4,toks:=s3.toks+([]:List (Str×Nu)).length }:=by
  refine ⟨okY,rfl,I3.bare,Un.kept k4,⟨_,hns,λi x v e1 e2 e3=>?_⟩,λx c e=>?_,I3.hok.fresh (NN _),λx c e=>I3.gR x c (clin _ _ e),(λp hp=>(by cases hp)),I3.hok.kept k4,?_⟩
  ·obtain ⟨j,k,rfl,ej,ek⟩:=nB e2
   obtain ⟨x',n1,n2,n3⟩:=hcap j k ej
   have e1':Nc[n+j]? = some x:=e1
   rw[n1] at e1';cases e1'
   have hmem:(x,O1)∈scope.names:=OG n3
   have hcellx:X.env.kindOf x=some .cell:=hfree _ hmem rfl
   obtain ⟨m,hn,hl⟩:=I3.loc
   obtain ⟨u,ru,lk⟩:=hl k x v n2 ek (.inr (.inl hcellx))
   refine ⟨u,ru,.inr ⟨.inl (eu I3.ok.kind hcellx n3),?_⟩⟩
   rcases lk with ⟨q,_⟩ | ⟨_,c,ec,ic⟩
   ·rw[hcellx] at q;cases q
   ·obtain ⟨c',ec'⟩:=clfree _ hmem rfl
    have:=clin _ _ ec'
    rw[ec] at this;cases this
    exact ⟨c,ec',Mr _ _ ic⟩
  ·obtain ⟨v,q⟩:=I3.cell x c (clin _ _ e)
   exact ⟨v,Mr _ _ q⟩
  ·unfold jK
   show _=Nc.length
   rw[NQ,OY,NC,hlen]
 obtain ⟨pg,pifs,pelt⟩:=hbody cl s3.heap.objs.size s3 H3 fp
 generalize eY:bJ X scope Nc cl s3.heap.objs.size s3 H3 fp=Y at *
 have yP:Y.prog=X.prog:=by rw[← eY];rfl
 have yw:Y.w=X.w:=by rw[← eY];rfl
 have yK:Y.K=X.K:=by rw[← eY];rfl
 have yA:Y.A=X.A:=by rw[← eY];rfl
 have yx:Y.xe=λ_ _=>False:=by rw[← eY];exact hxe
 have yc:Y.calm=true:=by rw[← eY];exact hcalm
 have ye:Y.env=Vc scope cl s3.heap.objs.size X.env:=by rw[← eY];rfl
 have yfs:Y.fs=frs X.stack:=by rw[← eY];rfl
 have yex:Y.ex=fp:=by rw[← eY];rfl
 have ys0:Y.s₀=s3:=by rw[← eY];rfl
 have yH0:Y.H₀=H3:=by rw[← eY];rfl
 have ypn:Y.pn=[]:=by rw[← eY];rfl
 have wJ:∀ {H':Hp},(∀ b∈fp,H' b=none)->∀ b∈fp,mH Y [] H' b:=λhn b hb=>⟨hn b hb,by rw[ye];show b≠s3.heap.objs.size;rw[hs3];exact NP (lt3 b hb),okY.Cp b (by rw[yex];exact hb),.inl (by rw[yex];exact hb),
  λx c e=>by rw[ye] at e;exact (f3 b hb).2.2.2.2.1 x c (clin _ _ e),λp hp=>by rw[ypn] at hp;exact nomatch hp⟩
 have tn4:∀ t,tn 0 ({ s3 with heap:=h4,toks:=t }:Nv).heap:=λt=>T.keep 0 _ _ st3 λb hb o e=>k4 b o (by rw[hs3];exact e)
 -- the end
 have fin:∀ (s5:Nv) (H5:Hp),Inv Y [] (jK σ n caps) H5 s5->Q (.ref D) H5->Vd (NS X.prog X.w) X.A (λ_ _=>False) use Qv (.ref D) s3.heap.objs.size (.ok .next) s5:=λs5 H5 I5 q5=>by
  obtain ⟨m,hn,_⟩:=I5.loc
  rw[ye] at hn
  have un:=I5.base
  rw[yfs,yex,yH0,ys0] at un
  have hfreeC0:=I5.free
  rw[ye] at hfreeC0
  have hfreeC:H5 s3.heap.objs.size=none:=hfreeC0
  have hok5:=I5.hok
  rw[yP,yw] at hok5
  have I5X:Inv X pins σ H5 s5:=I3.Hj (ch:=fp) (s':=s5) (by have:=I5.os;rw[ys0] at this;exact this) un hok5 I5.bare λb hb=>⟨(f3 b hb).2.2.2.1,(f3 b hb).2.1,(f3 b hb).2.2.2.2.1,(f3 b hb).2.2.2.2.2⟩
  exact hfin _ _ s5 H5 m I5X (I3.Gw (NN _) hfreeC) hn q5
 have loop:Pt (NS X.prog X.w) X.A (.compLoop (.ListComp elt [⟨tg,iter,ifs,0⟩] scope pos) 0 (.ref it) (.ref D) (Vc scope cl s3.heap.objs.size X.env)) (Vd (NS X.prog X.w) X.A (λ_ _=>False) use Qv (.ref D) s3.heap.objs.size)
   { s3 with heap:=h4,toks:=s3.toks+([]:List (Str×Nu)).length }:=by
  refine AR (λk s'=>∃ i ys H',Inv Y [] (jK σ n caps) H' s'/\tn i s'.heap/\(∀ b∈fp,H' b=none)/\W i k ys H') ?_ m0 ⟨0,[],H3,J0,tn4 _,λb hb=>(f3 b hb).1,w0⟩
  rintro k s5 ⟨i,ys,H5,I5,st5,fr5,w5⟩
  rcases turn i k ys H5 w5 with ⟨stop,q⟩ | ⟨go,N,hN,step⟩
  ·have d:=T.done Y yP yw yK yc i [] s5 _ H5 (λ_ _=>False) I5 (wJ fr5) st5 stop
   rw[yA] at d
   refine thn d λr s6 ⟨hr,I6⟩=>?_
   subst hr
   exact fin s6 H5 I6 q
  ·have d:=T.item Y yP yw yK yc i [] s5 _ H5 (λ_ _=>False) I5 (wJ fr5) st5 go
   rw[yA] at d
   refine thn d λr s6 ⟨u,hr,h6⟩=>?_
   subst hr
   refine thn h6 λ_ s7 ⟨x,H7,I7,r7,y7,st7,fr7⟩=>?_
   have I7':=I7.pinned (wJ fr7) (T.obj _ _ st7)
   have a:=pg _ s7 _ H7 x u _ I7' r7 (step x H7 y7)
   rw[yP,yw,yA,yx,ye] at a
   refine thn a λ_ s8 ⟨σ8,H8,I8,wk,q8⟩=>?_
   have b:=pifs _ s8 σ8 H8 _ I8 q8
   rw[yP,yw,yA,yx,ye] at b
   have again:∀ {s9:Nv} {ys9:List V} {H9:Hp},Inv Y ([]++mE fp s7.heap) σ8 H9 s9->N ys9 H9->∃ m,m < k/\∃ i ys H',Inv Y [] (jK σ n caps) H' s9/\tn i s9.heap/\(∀ b∈fp,H' b=none)/\W i m ys H':=λ{s9 ys9 H9} I9 n9=>by
    obtain ⟨m',hm,w9⟩:=hN ys9 H9 n9
    have hp:∀ b∈fp,∀ o,s7.heap.get? b=some o->s9.heap.get? b=some o/\H9 b=none:=λb hb o e=>
     ⟨(I9.pin (b,o) (NR _ (NR _ (e8 hb e)))).1,(I9.pin (b,o) (NR _ (NR _ (e8 hb e)))).2.1⟩
    refine ⟨m',hm,i+1,ys9,H9,I9.iD.weak wk.1 wk.2,T.keep _ _ _ st7 λb hb o e=>(hp b hb o e).1,λb hb=>?_,w9⟩
    obtain ⟨o,e,_⟩:=T.obj _ _ st7 b hb
    exact (hp b hb o e).2
   refine thn b λok s9 ⟨H9,I9,q9⟩=>?_
   cases ok with
   | false=>
    rw[if_neg Rj] at q9 ⊢
    exact again I9 q9
   | true=>
    rw[if_pos rfl] at q9 ⊢
    have c:=pelt _ s9 σ8 H9 _ I9 q9
    rw[yP,yw,yA,yx,ye] at c
    refine thn c λv s10 ⟨y,H10,I10,r10,zs,ez,lz,n10⟩=>?_
    have d:=qe (X:=Y) _ s10 σ8 H10 (.ref D) [y] (.ref D) [v] (λ_ H'=>N (zs++[y]) H') I10 rfl (.cons r10 .nil) ⟨D,zs,y,rfl,rfl,ez,lz,n10⟩
    rw[yP,yw,yA,yx] at d
    exact thn d λ_ s11 ⟨_,H11,I11,_,q11⟩=>again I11 q11
 refine codeAny_compStart_list loop ?_
 exact T.self X.A 0 _ _ _ (tn4 _) loop
theorem Gi {X:Cx}{tg iter elt:NX}{ifs:List NX}{scope:Scope}{pos:Pos}{wi:TI}{g:TG}{tt:TT}{te:TE}{Nc:List Str}{n:Nat}{caps:List Nat}
  (hxe:X.xe=λ_ _=>False) (hcalm:X.calm=true) (hi:PI X tg iter wi)
  (hbody:∀ (cl:List (Str×Addr)) (C:Addr) (s₀:Nv) (H₀:Hp) (ex:List Addr),PG (bJ X scope Nc cl C s₀ H₀ ex) tg g/\ym (bJ X scope Nc cl C s₀ H₀ ex) ifs tt/\PE (bJ X scope Nc cl C s₀ H₀ ex) elt te)
  (hfree:∀ y∈scope.names,y.2=.free->X.env.kindOf y.1=some .cell) (hcell:∀ y∈scope.names,y.2≠.cell) (gb:scope.kind=.function)
  (hnames:∀ y∈scope.names,y.2=.local->scope.names.lookup y.1=some .local) (hlen:Nc.length=n+caps.length)
  (hcap:∀ (j k:Nat),caps[j]? = some k->∃ x,Nc[n+j]? = some x/\X.N[k]? = some x/\scope.names.lookup x=some .free)
  (hs:∀ x,OJ iter X.env x=pure x:=by intro _;rfl) :
  PE X (.ListComp elt [⟨tg,iter,ifs,0⟩] scope pos) (mx wi g tt te n caps):=by
 intro pins s σ H Q I h
 rw[hxe,eval_ListComp]
 exact tU hxe hcalm hi hbody hfree hcell gb hnames hlen hcap (use:=none) I h (λD C s5 H5 m I5 fC hn q=>⟨m,hn,λh6 hs6=>⟨.ref D,H5,Bf I5 fC.1 fC hs6,rfl,q⟩⟩) hs
theorem DF {X:Cx}{tg iter elt:NX}{ifs:List NX}{scope:Scope}{pos spos py:Pos}{y:Str}{iy:Nat}{wi:TI}{g:TG}{tt:TT}{te:TE}{Nc:List Str}{n:Nat}{caps:List Nat}{Z:TE->TE}
  (hxe:X.xe=λ_ _=>False) (hcalm:X.calm=true) (hi:PI X tg iter wi)
  (hbody:∀ (cl:List (Str×Addr)) (C:Addr) (s₀:Nv) (H₀:Hp) (ex:List Addr),PG (bJ X scope Nc cl C s₀ H₀ ex) tg g/\ym (bJ X scope Nc cl C s₀ H₀ ex) ifs tt/\PE (bJ X scope Nc cl C s₀ H₀ ex) elt te)
  (hfree:∀ y∈scope.names,y.2=.free->X.env.kindOf y.1=some .cell) (hcell:∀ y∈scope.names,y.2≠.cell) (gb:scope.kind=.function)
  (hnames:∀ y∈scope.names,y.2=.local->scope.names.lookup y.1=some .local) (hlen:Nc.length=n+caps.length)
  (hcap:∀ (j k:Nat),caps[j]? = some k->∃ x,Nc[n+j]? = some x/\X.N[k]? = some x/\scope.names.lookup x=some .free)
  (pgy:PG X (.Name y py) (nN iy))
  (hsw:Rg (.ListComp elt [⟨tg,iter,ifs,0⟩] scope pos) (some (.Name y py)) spos.line X.env=pure true)
  (hz:∀ (σ:L2.St) (H:Hp) (Q:VK),Z (mx wi g tt te n caps) σ H Q->∃ Q',mx wi g tt te n caps σ H Q'/\∀ pins D H5 s5,Inv X pins σ H5 s5->Q' (.ref D) H5->∃ H6,(∀ b,H5 b=none->H6 b=none)/\Inv X pins σ H6 s5/\Q (.ref D) H6)
  (hs:∀ x,OJ iter X.env x=pure x:=by intro _;rfl) :
  PS X (.Assign [.Name y py] (.ListComp elt [⟨tg,iter,ifs,0⟩] scope pos) spos) (EV (Z (mx wi g tt te n caps)) (nN iy)):=by
 intro pins s σ H E' I h
 rw[hxe]
 rewrite [exec_Assign_Name_used _ _ _ _ hsw]
 refine wpAny_bind (RE ?_)
 refine wpAny_bind ?_
 refine (show NL _ X.A (do let _ ← comprehension (.ListComp elt [⟨tg,iter,ifs,0⟩] scope pos) scope X.env _ (newList []) false (OF iter X.env) (some (RD (.Name y py) X.env))) _ _ s from ?_)
 obtain ⟨Q',h',hq⟩:=hz σ H _ h
 refine wpAny_bind (OQ (tU hxe hcalm hi hbody hfree hcell gb hnames hlen hcap (use:=some (RD (.Name y py) X.env)) (Qv:=λ_ s'=>SP X pins E' .next s') I h' (λD C s5 H5 m I5 fC hn q=>?_) hs) (λ_ s' hq=>wpAny_pure (wpAny_pure hq)) λ_ _ e=>e)
 obtain ⟨H6,fr,I6,q6⟩:=hq pins D H5 s5 I5 q
 have f0:=fr C fC.1
 have fC6:mH X pins H6 C:=⟨f0,fC.2⟩
 obtain ⟨oC,gC,dC⟩:∃ oC,s5.heap.get? C=some oC/\∀ v,oC.data≠.cell v:=by
  obtain ⟨oC,es,ep,ho,hd,_⟩:=hn
  exact ⟨oC,ho,λv z=>by rw[hd] at z;cases z⟩
 have I5P:=I6.pinned (fp:=[C]) (λb hb=>by cases NK.mp hb;exact fC6) (λb hb=>by cases NK.mp hb;exact ⟨oC,gC,dC⟩)
 have as:=pgy _ s5 σ _ (.ref D) (.ref D) E'.nx I5P rfl q6
 rw[hxe] at as
 refine thn as λ_ s6 ⟨σ6,H7,I7,n7⟩=>?_
 obtain ⟨g7,f7,_⟩:=I7.pin (C,oC) (NR _ (NR _ (e8 NB gC)))
 exact ⟨m,hn.at' (λo' e'=>by have e'':s5.heap.get? C=some o':=e';rw[gC] at e'';cases e'';exact g7),λh8 hs8=>⟨σ6,H7,Bf I7.iD f7 fC6 hs8,n7⟩⟩
end
section
open PySem PySem.Spec PyProof.Rows L2
structure AE (K:Nt) (J:It) (H1:Hp) (ds:List D):Prop where
 go:∀ i H',Tk H1 H'->i < ds.length->J.go i H'
 yld:∀ i H' x H'',Tk H1 H'->i < ds.length->J.yld i H' x H''->Tk H' H''/\(∃ d,ds[i]? = some d/\Dp K H'' x d)/\∀ μ,bW K H' μ->bW K H'' μ
 stop:∀ i H',Tk H1 H'->ds.length<=i->J.stop i H'
def Lw (K:Nt)(wi:TI)(It':ATr):Prop:=∀ σ H ρ μ (Q:List D->Mu->Prop) (R:It->Hp->Prop),Rl K σ H ρ μ->It' ρ μ Q->(∀ J H1 ds μ1,Tk H H1->bW K H1 μ1->AE K J H1 ds->Q ds μ1->R J H1)->wi σ H R
structure LI (X:Cx) (tg iter:NX) (It':ATr):Prop where
 ex:∃ wi,PI X tg iter wi/\Lw X.K wi It'
section
variable {X:Cx} {tg a b c e elt iter:NX} {Ta Tb Te:ETr} {Tt:TTr} {pos:Pos} {It':ATr} {G:GTr}
theorem A0 {K:Nt}{H:Hp}{p:Addr}{xs:List V}{ds:List D}(q:SqT K H p xs)(l:DpL K H xs ds):AE K (Itt K p) H ds where
 go:=λi H' t hi=>by
  have hl:=l.length
  exact ⟨xs,xs[i],t.sqT q,by simp[show i < xs.length by omega]⟩
 yld:=λi H' x H'' t hi ⟨e,y⟩=>by
  subst e
  have ex:=y xs (t.sqT q)
  obtain ⟨d,ed,p⟩:=l.get' ex
  exact ⟨.refl _,⟨d,ed,p.mono t⟩,λ_ m=>m⟩
 stop:=λi H' t hi=>⟨xs,t.sqT q,by rw[l.length];exact hi⟩
theorem FF {K:Nt}{H:Hp}{p:Addr}{xs:List V}{ds:List D}(q:SqF K H p xs)(l:DpL K H xs ds):AE K (Itl K p) H ds where
 go:=λi H' t hi=>by
  have hl:=l.length
  exact ⟨xs,xs[i],(t.sqF q).sq,by simp[show i < xs.length by omega]⟩
 yld:=λi H' x H'' t hi ⟨e,y⟩=>by
  subst e
  have ex:=y xs (t.sqF q).sq
  obtain ⟨d,ed,p⟩:=l.get' ex
  exact ⟨.refl _,⟨d,ed,p.mono t⟩,λ_ m=>m⟩
 stop:=λi H' t hi=>⟨xs,(t.sqF q).sq,by rw[l.length];exact hi⟩
theorem gf (lo:Int)(n:Nat):(d8 lo n).length=n:=by unfold d8;simp
theorem BR {K:Nt}{H:Hp}(lo:Int)(n:Nat):AE K (Itr lo n) H (d8 lo n) where
 go:=λi H' t hi=>by rw[gf] at hi;exact hi
 yld:=λi H' x H'' t hi ⟨e,y⟩=>by
  rw[gf] at hi
  subst e y
  exact ⟨.refl _,⟨.int (lo+i),by unfold d8;simp[hi],.int _⟩,λ_ m=>m⟩
 stop:=λi H' t hi=>by rw[gf] at hi;exact hi
def Mf (a:ETr):ATr:=λρ μ Q=>a ρ μ λx μ1=>match x with
 | .tup ds=>Q ds μ1
 | _=>False
def ILs (a:ETr):ATr:=λρ μ Q=>a ρ μ λx μ1=>match x with
 | .ls ds=>Q ds μ1
 | _=>False
theorem pY {rp rpos:Pos}(hg:Gl X "range")(hm:X.mg "range" = none)(ha:LE X a Ta)(hs:Nx [a] X.env=[(false,OF a X.env)]:=by rfl):LI X tg (.Call (.Name "range" rp) [a] [] rpos) (gw Ta):=by
 obtain ⟨ta,pa,sa⟩:=ha.ex
 refine ⟨_,Ag hg hm (gv pa kK hs) hs,λσ H ρ μ Q R rl h k=>sa σ H ρ μ _ _ rl h λx H1 d μ1 t1 m1 p1 h1=>?_⟩
 cases p1 with
 | int j=>
  obtain ⟨⟨h2,h3⟩,h4⟩:=h1
  exact ⟨j,rfl,by simpa using h2,by simpa using h3,k _ H1 _ μ1 t1 m1 (BR 0 _) h4⟩
 | _=>exact Ny h1
theorem Kv {t1:TS}{T1:STr}{g:TG}{E:En}{E':Ends}{K:Nt}{H0 H1:Hp}{J:It}{ds:List D}(sg:HC K g G)(s1:HS K t1 T1)(k:Bu K H0 E E')(Y:AE K J H1 ds){σ:L2.St}{ρ:ST}{μ:Mu}(t0:Tk H0 H1)(rl:Rl K σ H1 ρ μ)(h:forR G T1 E ds ρ μ) :
  ∃ W:Nat->Nat->L2.St->Hp->Prop,(∃ m,W 0 m σ H1)/\∀ i m σ H,W i m σ H->
   (J.stop i H/\E'.nx σ H)∨(J.go i H/\∃ N:L2.St->Hp->Prop,(∀ σ' H',N σ' H'->∃ m',m' < m/\W (i+1) m' σ' H')/\∀ x H',J.yld i H x H'->g x σ H' λσ2 H2=>t1 { E' with nx:=N,ct:=N,bk:=E'.nx } σ2 H2):=by
 refine ⟨λi m σ' H'=>m=ds.length - i/\i<=ds.length/\Tk H1 H'/\∃ ρ' μ',Rl K σ' H' ρ' μ'/\forR G T1 E (ds.drop i) ρ' μ',⟨ds.length,by simp,OM _,.refl _,ρ,μ,rl,by simpa using h⟩,?_⟩
 rintro i m σ1 H2 ⟨rfl,hi,t12,ρ1,μ1,r1,h1⟩
 by_cases hlt:i < ds.length
 ·refine .inr ⟨Y.go i H2 t12 hlt,λσ' H'=>Tk H1 H'/\∃ ρ' μ',Rl K σ' H' ρ' μ'/\forR G T1 E (ds.drop (i+1)) ρ' μ',λσ' H' ⟨t',ρ',μ',r',h'⟩=>⟨ds.length - (i+1),by omega,rfl,hlt,t',ρ',μ',r',h'⟩,λx H3 y=>?_⟩
  obtain ⟨t23,⟨d,ed,pd⟩,mk⟩:=Y.yld i H2 x H3 t12 hlt y
  have e:ds.drop i=d::ds.drop (i+1):=by
   refine (P8 hlt).trans ?_
   congr 1
   rw[N2 hlt] at ed
   exact Oc ed
  rw[e] at h1
  have t13:=t12.trans t23
  refine sg σ1 H3 ρ1 μ1 _ _ _ _ (r1.go t23 (mk _ r1.mu)) pd h1 λσ4 H4 ρ4 μ4 t4 r4 h4=>?_
  have t14:=t13.trans t4
  have t04:=t0.trans t14
  exact s1 σ4 H4 ρ4 μ4 _ _ r4 h4 ⟨λσ' H' ρ' μ' t' r' q=>⟨t14.trans t',ρ',μ',r',q⟩,(k.go t04).rt,(k.go t04).nx,λσ' H' ρ' μ' t' r' q=>⟨t14.trans t',ρ',μ',r',q⟩⟩
 ·have e:i=ds.length:=by omega
  subst e
  rw[QH] at h1
  exact .inl ⟨Y.stop _ H2 t12 (NN _),k.nx _ _ _ _ (t0.trans t12) r1 h1⟩
theorem wO {body:List Stmt}{T1:STr}(hp:Ut (NS X.prog X.w) X.A X.env X.xe)(hc:X.calm=true)(hi:LI X tg iter It')(hG:LG X tg G)(hb:LSs X body T1)(hf:∀ x,OJ iter X.env x=pure x:=by intro _;rfl) :
  LS X (.For tg iter body [] pos) (tF It' G T1):=by
 obtain ⟨wi,pi,si⟩:=hi.ex
 obtain ⟨g,pg,sg⟩:=hG.ex
 obtain ⟨t1,p1,s1⟩:=hb.ex
 exact ⟨_,Kf hp hc pi pg p1 hf,λσ H ρ μ E E' rl h k=>si σ H ρ μ _ _ rl h λJ H1 ds μ1 t1' m1 Y h1=>Kv sg s1 k Y t1' (rl.go t1' m1) h1⟩
def za (K:Nt)(T:ETr):TE:=λσ H Q'=>∃ ρ μ Q,Rl K σ H ρ μ/\T ρ μ Q/\iC K H Q Q'
def liftT (K:Nt)(T:TTr):TT:=λσ H Q'=>∃ ρ μ Q,Rl K σ H ρ μ/\T ρ μ Q/\∀ b H' μ',Tk H H'->bW K H' μ'->Q b μ'->Q' b H'
abbrev Ks (K:Nt)(n:Nat)(σ:L2.St)(H:Hp)(k:ST->Mu->Prop)(k':L2.St->Hp->Prop):Prop:=∀ σ' H' ρ' μ',Tk H H'->Rl K σ' H' ρ' μ'->(σ'.length=σ.length/\∀ j,n<=j->σ'[j]? = σ[j]?)->k ρ' μ'->k' σ' H'
def yW (K:Nt)(n:Nat)(G:GTr):TG:=λv σ H k'=>∃ ρ μ d k,Rl K σ H ρ μ/\Dp K H v d/\G d ρ μ k/\Ks K n σ H k k'
theorem LE.pe (h:LE X e Te):PE X e (za X.K Te):=by
 obtain ⟨t,p,s⟩:=h.ex
 exact λpins st σ H Q I ⟨ρ,μ,Q0,rl,hT,k⟩=>p pins st σ H Q I (s σ H ρ μ Q0 Q rl hT k)
structure BJ (X:Cx) (ifs:List NX) (Tt:TTr):Prop where
 pe:ym X ifs (liftT X.K Tt)
theorem eU:BJ X [] jq:=⟨λpins s σ H Q I ⟨ρ,μ,Q0,rl,hT,k⟩=>F0 pins s σ H Q I (k true H μ (.refl H) rl.mu hT)⟩
theorem Fz (h:LT X c Tt):BJ X [c] Tt:=by
 obtain ⟨t,p,s⟩:=h.ex
 exact ⟨λpins st σ H Q I ⟨ρ,μ,Q0,rl,hT,k⟩=>Gz p pins st σ H Q I (s σ H ρ μ Q0 Q rl hT k)⟩
structure LGc (X:Cx) (n:Nat) (tg:NX) (G:GTr):Prop where
 pe:PG X tg (yW X.K n G)
theorem cy {x:Str}{n:Nat}(i:Nat)(hN:X.N.Nodup)(hin:i < n:=by decide)(hi:X.N[i]? = some x:=by rfl)(hx:Loc X.env.scope x:=by first | exact SJ rfl | exact RG rfl)(hf:X.fn x=true∨X.env.scope.names.lookup x=some .local:=by first | exact .inr rfl | exact .inl rfl | assumption):LGc X n (.Name x pos) (az i):=
 ⟨λpins s σ H v u k' I r ⟨ρ,μ,d,k,rl,p,h,post⟩=>mq hN hi hx hf pins s σ H v u k' I r (post _ H _ μ (.refl H) (rl.set p i) ⟨by simp,λj hj=>by rw[P0 (by omega)]⟩ h)⟩
theorem yN {K:Nt}{σ:L2.St}{H:Hp}{ρ:ST}{μ:Mu}(rl:Rl K σ H ρ μ)(n:Nat)(caps:List Nat):Rl K (jK σ n caps) H (kc ρ n caps) μ:=by
 refine ⟨by unfold jK kc;simp,λi d e=>?_,rl.mu⟩
 have gen:∀ (n i:Nat),lk (NZ n none++caps.map (lk ρ)) i=some d->∃ j,i=n+j/\∃ k,caps[j]? = some k/\lk ρ k=some d:=by
  intro n
  induction n with
  | zero=>
   intro i h
   have h':lk (caps.map (lk ρ)) i=some d:=by simpa using h
   have g2:∀ (cs:List Nat) (i:Nat),lk (cs.map (lk ρ)) i=some d->∃ k,cs[i]? = some k/\lk ρ k=some d:=by
    intro cs
    induction cs with
    | nil=>intro i h;cases i<;>cases h
    | cons c r ih=>intro i h;cases i with
     | zero=>exact ⟨c,rfl,h⟩
     | succ i=>simpa using ih i h
   exact ⟨i,by omega,g2 caps i h'⟩
  | succ n ih=>
   intro i h
   cases i with
   | zero=>cases h
   | succ i=>
    obtain ⟨j,rfl,k,h1,h2⟩:=ih i h
    exact ⟨j,by omega,k,h1,h2⟩
 obtain ⟨j,rfl,k,h1,h2⟩:=gen n i e
 obtain ⟨v,h3,h4⟩:=rl.loc k d h2
 refine ⟨v,?_,h4⟩
 unfold jK
 rw[P1 (by simp)]
 simp[h1,h3]
theorem Er {ifs:List NX}{scope:Scope}{Nc:List Str}{n:Nat}{caps:List Nat}(hxe:X.xe=λ_ _=>False)(hcalm:X.calm=true)(hi:LI X tg iter It')
  (hbody:∀ (cl:List (Str×Addr)) (C:Addr) (s₀:Nv) (H₀:Hp) (ex:List Addr),LGc (bJ X scope Nc cl C s₀ H₀ ex) n tg G/\BJ (bJ X scope Nc cl C s₀ H₀ ex) ifs Tt/\LE (bJ X scope Nc cl C s₀ H₀ ex) elt Te)
  (hfree:∀ y∈scope.names,y.2=.free->X.env.kindOf y.1=some .cell) (hcell:∀ y∈scope.names,y.2≠.cell) (gb:scope.kind=.function)
  (hnames:∀ y∈scope.names,y.2=.local->scope.names.lookup y.1=some .local) (hlen:Nc.length=n+caps.length)
  (hcap:∀ (j k:Nat),caps[j]? = some k->∃ x,Nc[n+j]? = some x/\X.N[k]? = some x/\scope.names.lookup x=some .free)
  (hs:∀ x,OJ iter X.env x=pure x:=by intro _;rfl) :
  LE X (.ListComp elt [⟨tg,iter,ifs,0⟩] scope pos) (df It' G Tt Te n caps):=by
 obtain ⟨wi,pi,si⟩:=hi.ex
 refine ⟨_,js (Gi (g:=yW X.K n G) (tt:=liftT X.K Tt) (te:=za X.K Te) hxe hcalm pi (λcl C s₀ H₀ ex=>let ⟨h1,h2,h3⟩:=hbody cl C s₀ H₀ ex;⟨h1.pe,h2.pe,h3.pe⟩) hfree hcell gb hnames hlen hcap hs),?_⟩
 intro σ H ρ μ Q Q' rl h k
 refine si σ H ρ μ _ _ rl h λJ H1 ds μ1 t1 m1 Y h1 D hD=>?_
 have hp:=h1 D (m1.free hD)
 have tD:Tk H1 (L2.upd H1 D (.lst [])):=.new hD
 have mD:bW X.K (L2.upd H1 D (.lst [])) (up μ1 D (.lst [])):=λa o e=>by
  by_cases ha:a=D
  ·subst ha
   rw[bp] at e;cases e
   exact ⟨[],aP,.nil⟩
  ·rw[cW ha] at e
   exact di m1 hD a o e
 refine ⟨λi m ys H2=>m=ds.length - i/\i<=ds.length/\Tk H1 H2/\∃ μ2,bW X.K H2 μ2/\ix D G Tt Te (kc ρ n caps) (λμ'=>kL μ' D λzs=>Q (.ls zs) (dn μ' D)) (ds.drop i) μ2,
  ⟨ds.length,by simp,OM _,tD,_,mD,by simpa using hp⟩,?_⟩
 rintro i m ys H2 ⟨rfl,hi,t12,μ2,m2,h2⟩
 by_cases hlt:i < ds.length
 ·refine .inr ⟨Y.go i H2 t12 hlt,λys' H'=>Tk H1 H'/\∃ μ',bW X.K H' μ'/\ix D G Tt Te (kc ρ n caps) (λμ'=>kL μ' D λzs=>Q (.ls zs) (dn μ' D)) (ds.drop (i+1)) μ',λys' H' ⟨t',μ',m',h'⟩=>⟨ds.length - (i+1),by omega,rfl,hlt,t',μ',m',h'⟩,λx H3 y=>?_⟩
  obtain ⟨t23,⟨d,ed,pd⟩,mk⟩:=Y.yld i H2 x H3 t12 hlt y
  have e:ds.drop i=d::ds.drop (i+1):=by
   refine (P8 hlt).trans ?_
   congr 1
   rw[N2 hlt] at ed
   exact Oc ed
  rw[e] at h2
  have t13:=t12.trans t23
  have r3:Rl X.K (jK σ n caps) H3 (kc ρ n caps) μ2:=yN (rl.go (t1.trans t13) (mk _ m2)) n caps
  refine ⟨_,_,d,_,r3,pd,h2,λσ4 H4 ρ4 μ4 t4 r4 kp h4=>⟨⟨kp.1.symm,λj v ej=>?_⟩,_,_,_,r4,h4,λb H5 μ5 t5 m5 h5=>?_⟩⟩
  ·by_cases hj:n<=j
   ·rw[kp.2 j hj];exact ej
   ·obtain ⟨j',k',e1,_⟩:=nB ej
    omega
  ·have t15:=t13.trans (t4.trans t5)
   cases b with
   | false=>exact rQ ⟨t15,μ5,m5,h5⟩
   | true=>
    refine sN ⟨_,_,_,r4.go t5 m5,h5,λv H6 d6 μ6 t6 m6 p6 h6=>?_⟩
    obtain ⟨zs,ez,lz,h7⟩:=cC h6
    obtain ⟨xs,ex,lx⟩:=m6 D _ ez
    have t67:Tk H6 (L2.upd H6 D (.lst (xs++[v]))):=.upd (λys z=>by rw[ex] at z;cases z) λo' u z=>by rw[ex] at z;cases z
    refine ⟨xs,ex,by rw[lx.length];exact NV lz (by decide),(t15.trans t6).trans t67,up μ6 D (.lst (zs++[d6])),λa o ea=>?_,h7⟩
    by_cases ha:a=D
    ·subst ha
     rw[bp] at ea;cases ea
     exact ⟨_,aP,(lx.append (.cons p6 .nil)).mono t67⟩
    ·rw[cW ha] at ea
     exact (m6 a _ ea).ne t67 ha
 ·have e:i=ds.length:=by omega
  subst e
  rw[QH] at h2
  obtain ⟨zs,ez,hq⟩:=cC (show kL μ2 D λzs=>Q (.ls zs) (dn μ2 D) from h2)
  obtain ⟨xs,ex,lx⟩:=m2 D _ ez
  refine .inl ⟨Y.stop _ H2 t12 (NN _),D,xs,rfl,ex,λo=>?_⟩
  have t2f:Tk H2 (L2.upd H2 D (.frz o (.lst xs))):=.upd (λys z=>by rw[ex] at z;cases z) λo' u z=>by rw[ex] at z;cases z
  refine k _ _ _ (dn μ2 D) ((t1.trans t12).trans t2f) (λa o' ea=>?_) (.ls (.inl ⟨o,aP⟩) (lx.mono t2f)) hq
  have ha:a≠D:=λz=>by subst z;unfold dn at ea;rw[if_pos rfl] at ea;cases ea
  have ea':μ2 a=some o':=by unfold dn at ea;rw[if_neg ha] at ea;exact ea
  exact (m2 a _ ea').ne t2f ha
end
end
section
open PySem PySem.Spec PyProof.Rows L2
def rT (fn:List (Str×QS))(XN:List Str)(sc:Scope)(Nc:List Str)(n:Nat)(caps:List Nat):Bool:=
 sc.names.all (λy=>(y.2 != .free || fn.lookup y.1 == some .cell)&&y.2 != .cell&&(y.2 != .local || sc.names.lookup y.1 == some .local))&&sc.kind == .function&&Nc.length == n+caps.length &&
 (O6 caps.length).all λj=>match caps[j]? with
  | some k=>(match XN[k]? with
   | some x=>Nc[n+j]? == some x&&sc.names.lookup x == some .free
   | none=>false)
  | none=>false
section
variable {X:Cx} {tg a b c e elt iter:NX} {Ta Tb Te:ETr} {Tt:TTr} {pos:Pos} {It':ATr} {G:GTr}
theorem dY {ifs:List NX}{scope fsc:Scope}(XN Nc:List Str)(n:Nat)(caps:List Nat)(hxe:X.xe=λ_ _=>False)(hcalm:X.calm=true)(hi:LI X tg iter It')
  (hbody:∀ (cl:List (Str×Addr)) (C:Addr) (s₀:Nv) (H₀:Hp) (ex:List Addr),LGc (bJ X scope Nc cl C s₀ H₀ ex) n tg G/\BJ (bJ X scope Nc cl C s₀ H₀ ex) ifs Tt/\LE (bJ X scope Nc cl C s₀ H₀ ex) elt Te)
  (hsc:X.env.scope=fsc) (hXN:X.N=XN) (hok:rT fsc.names XN scope Nc n caps=true)
  (hs:∀ x,OJ iter X.env x=pure x:=by intro _;rfl) :
  LE X (.ListComp elt [⟨tg,iter,ifs,0⟩] scope pos) (df It' G Tt Te n caps):=by
 unfold rT at hok
 simp only[Nz,Oe] at hok
 obtain ⟨⟨⟨h1,h2⟩,h3⟩,h4⟩:=hok
 refine Er hxe hcalm hi hbody (λy hy hf=>?_) (λy hy hf=>?_) (by simpa using h2) (λy hy hf=>?_) (by simpa using h3) (λj k hj=>?_) hs
 ·have:=(h1 y hy).1.1
  show X.env.scope.names.lookup y.1=_
  rw[hsc]
  simpa[hf] using this
 ·have:=(h1 y hy).1.2
  simp[hf] at this
 ·have:=(h1 y hy).2
  simpa[hf] using this
 ·have hl:j < caps.length:=(Ot.mp hj).1
  have:=h4 j (PD.mpr hl)
  rw[hj] at this
  dsimp only at this
  rw[hXN]
  cases e:XN[k]? with
  | none=>rw[e] at this;cases this
  | some x=>
   rw[e] at this
   dsimp only at this
   rw[Nz] at this
   exact ⟨x,by simpa using this.1,rfl,by simpa using this.2⟩
end
theorem lM:∀ {bs:List Bool} {us:List Nu},Vals (bs.map V.bl) us->LSm.BoolsAre us bs
 | [],_,.nil=>.nil
 | b::r,_,.cons h t=>by
  cases (show _=RY b from h)
  exact .cons b (lM t)
theorem kF {X:Cx}(hc:X.calm=true):b8 X (.builtin "all") (λxs H Q=>∃ (p:Addr) (ys:List V) (bs:List Bool),xs=[.ref p]/\SqL X.K H p ys/\ys=bs.map V.bl/\Q (.bl (bs.all id)) H):=λpins s σ H xs us Q I rx ⟨p,ys,bs,e1,sq,e2,q⟩=>by
 subst e1 e2
 cases rx with | cons r1 r2=>
 cases r2
 cases (show _=OK p from r1)
 obtain ⟨its,rv,pl,_⟩:=I.list sq
 have ils:s.heap.IsList p its.toArray:=by
  obtain ⟨o,n,h1,h2,_,h3⟩:=pl
  exact ⟨o,h1,h2,n,h3⟩
 have bls:=lM rv
 have hlt:p < s.heap.objs.size:=by obtain ⟨_,e,_⟩:=ils;exact NG e
 refine call_all_walk (RB ils ?_)
 refine ⟨s.heap.objs.size,[s.heap.objs.size,p],[s.heap.objs.size],its.toArray.size,_,_,λi=>(bs[i]?).getD true,rfl,Walks.list (A:=X.A.in1) (I.ok.hd hc) _ p (NP hlt) its.toArray,
  ⟨⟨_,NH _ rfl,rfl,rfl⟩,ils.push _⟩,λi v s' Q' E' gP gQ=>?_,λh' tk hk=>?_⟩
 ·obtain ⟨b,e,rfl⟩:=bls.get i v (by simpa using gP)
  simp only[e,Option.getD_some] at gQ
  exact OI gQ
 ·have e:((O6 its.toArray.size).all λi=>(bs[i]?).getD true)=bs.all id:=by
   rw[NJ,bls.length];exact LSm.range_all bs
  rw[e]
  exact ⟨.bl _,H,I.kept (LSm.kept_iter hk),rfl,q⟩
theorem DpL.bools {K:Nt}{H:Hp}:∀ {xs:List V} {bs:List Bool},DpL K H xs (bs.map .bl)->xs=bs.map V.bl
 | _,[],.nil=>rfl
 | _,b::r,.cons h l=>by cases h;rw[DpL.bools l];rfl
theorem rB {K:Nt}:rz K (λxs H Q=>∃ (p:Addr) (ys:List V) (bs:List Bool),xs=[.ref p]/\SqL K H p ys/\ys=bs.map V.bl/\Q (.bl (bs.all id)) H) Cv:=λH μ xs ds Q Q' m p h k=>by
 unfold Cv at h
 split at h
 ·obtain ⟨bs,rfl,h⟩:=h
  cases p with | cons p1 p2=>cases p2;cases p1 with | ls q l=>exact ⟨_,_,bs,rfl,q.sq,l.bools,k _ H _ μ (.refl H) m (.bl _) h⟩
 ·exact h.elim
end
section
open PySem PySem.Spec PyProof.Rows L2
def GV (K:Nt)(mg:Str->Option Nu)(x:Str)(d:D):Prop:=∃ u v,mg x=some u/\RelV v u/\∀ H,Dp K H v d
theorem ba {X:Cx}{x:Str}{pos:Pos}{d:D}(hg:Gl X x)(h:GV X.K X.mg x d)(hd:(x == ("__debug__" : Str))=false:=by decide):LE X (.Name x pos) (TC d):=by
 obtain ⟨u,v,hm,r,p⟩:=h
 exact ⟨_,sU hg hm r hd,λσ H ρ μ Q Q' rl h k=>k v H d μ (.refl H) rl.mu (p H) h⟩
section
variable {K:Nt} {h:Heap} {mg:Str->Option Nu} {x:Str}
theorem bL {i:Int}{t:Tok}(X:K.In h)(G:h.Ns Oq mg)(a:Sf K Oq x=some (some (.int i t))):GV K mg x (.int i):=⟨_,.int i,RI X G a,⟨t,rfl⟩,λ_=>.int i⟩
theorem Jh {i:Str}{t:Tok}(X:K.In h)(G:h.Ns Oq mg)(a:Sf K Oq x=some (some (.str i t))):GV K mg x (.str i):=⟨_,.str i,RI X G a,⟨t,rfl⟩,λ_=>.str i⟩
theorem Ei {p:Addr}{o:Obj}{its:Array Nu}{n:Nat}{xs:List V}{ds:List D}(X:K.In h)(G:h.Ns Oq mg)(a:Sf K Oq x=some (some (.ref p)))(l:K.lookup p=some o)(c:o.cls=.type "tuple")(dn:o.dict=none)(d:o.data=.seq its n)
  (z:its.size<=sizeLine) (r:Vals xs its.toList) (q:∀ H,DpL K H xs ds):GV K mg x (.tup ds):=⟨_,.ref p,RI X G a,rfl,λH=>.tup (.inr ⟨o,its,n,l,c,dn,d,z,r⟩) (q H)⟩
end
def jn:ST->List Nat->List D->ST
 | ρ,i::is,d::ds=>jn (ρ.set i (some d)) is ds
 | ρ,_,_=>ρ
def oF (is:List Nat):GTr:=λd ρ μ k=>match d with
 | .tup ds=>ds.length=is.length/\k (jn ρ is ds) μ
 | _=>False
def Kx (K:Nt)(t:TGs)(is:List Nat):Prop:=∀ σ H ρ μ vs ds (k:ST->Mu->Prop) (k':L2.St->Hp->Prop),Rl K σ H ρ μ->DpL K H vs ds->ds.length=is.length->k (jn ρ is ds) μ->tR K H k k'->t vs σ H k'
structure LGs (X:Cx) (es:List NX) (is:List Nat):Prop where
 ex:∃ t,PGs X es t/\Kx X.K t is
section
variable {X:Cx} {e tg:NX} {es:List NX} {is:List Nat} {pos:Pos} {x:Str} {Ta:ETr} {G:GTr}
theorem sC:LGs X [] []:=⟨_,El,λσ H ρ μ vs ds k k' rl l hl h q=>by
 cases ds with
 | nil=>cases l;exact ⟨rfl,q _ _ _ _ (.refl H) rl h⟩
 | cons=>cases hl⟩
theorem cf (i:Nat)(hN:X.N.Nodup)(h2:LGs X es is)(hi:X.N[i]? = some x:=by rfl)(hx:Loc X.env.scope x:=by first | exact SJ rfl | exact RG rfl)(hf:X.fn x=true∨X.env.scope.names.lookup x=some .local:=by first | exact .inl rfl | exact .inr rfl | assumption)
  (hs:(Ph (.Name x pos::es) X.env).map (·.2)=RD (.Name x pos) X.env::(Ph es X.env).map (·.2):=by rfl):LGs X (.Name x pos::es) (i::is):=by
 obtain ⟨t,pt,st⟩:=h2.ex
 refine ⟨_,Dl (mq hN hi hx hf) pt hs,λσ H ρ μ vs ds k k' rl l hl h q=>?_⟩
 cases l with
 | nil=>cases hl
 | @cons v d vs ds p l=>exact ⟨v,vs,rfl,st _ H _ μ vs ds k k' (rl.set p i) l (by simpa using hl) h q⟩
theorem wF {k:Nat}(hc:X.calm=true)(h:LGs X es is)(hn:(Ph es X.env).length=is.length:=by rfl)(hst:(Ph es X.env).findIdx? (·.1)=none:=by rfl):LG X (.Tuple es k pos) (oF is):=by
 obtain ⟨t,pt,st⟩:=h.ex
 refine ⟨_,JV hc pt hn hst,λσ H ρ μ v d k k' rl p h q=>?_⟩
 cases p with
 | @tup a xs ds sq l=>exact ⟨a,xs,rfl,sq,by rw[l.length];exact h.1,st σ H ρ μ xs ds k k' rl l h.1 h.2 q⟩
 | _=>exact Ny h
theorem xY (he:LE X e Ta)(hG:LG X tg G)(hs:QL [tg] e pos.line X.env=pure false:=by rfl)(hw:QM [tg] e X.env=pure none:=by rfl)
  (h1:(Ph [tg] X.env).map (·.2)=[RD tg X.env]:=by rfl):LS X (.Assign [tg] e pos) (aQ Ta G):=by
 obtain ⟨ta,pa,sa⟩:=he.ex
 obtain ⟨g,pg,sg⟩:=hG.ex
 exact ⟨_,D0 pa pg hs hw h1,λσ H ρ μ E E' rl h k=>sa σ H ρ μ _ _ rl h λv H' d μ' t' m' p' h'=>sg σ H' ρ μ' v d _ _ (rl.go t' m') p' h' (k.go t').nx⟩
theorem lt_chain {a b c:NX}{Ta Tb Tc:ETr}{op op':TY}{r r':L2.R2}{R R':DR2}(ho:OpR X (Ou op) r)(ho':OpR X (Ou op') r')(hr:cz X.K r R)(hr':cz X.K r' R')(ha:LE X a Ta)(hb:LE X b Tb)(hc:LE X c Tc)
  (hm:S3 [op,op'] [b,c]=false:=by with_unfolding_all rfl):LT X (.Compare a [op,op'] [b,c] pos) (TB (fJ R R' Ta Tb Tc)):=by
 obtain ⟨ta,pa,sa⟩:=ha.ex
 obtain ⟨tb,pb,sb⟩:=hb.ex
 obtain ⟨tc,pc,sc⟩:=hc.ex
 exact ⟨_,C3 ho ho' pa pb pc hm,wC (p8 hr hr' sa sb sc)⟩
end
end
section
open PySem PySem.Spec PyProof.Rows L2
def Bc (tp:Bool)(h:Heap)(it a:Addr)(i:Nat):Prop:=match tp with
 | true=>h.IsTupleIter it a i
 | false=>h.IsListIter it a i
def Gx (tp:Bool)(h:Heap)(a:Addr)(xs:Array Nu):Prop:=match tp with
 | true=>h.IsTuple a xs
 | false=>h.IsList a xs
theorem Bc.at {tp:Bool}{h g:Heap}{it a:Addr}{i:Nat}(x:Bc tp h it a i)(k:∀ o,h.get? it=some o->g.get? it=some o):Bc tp g it a i:=by
 cases tp with
 | true=>obtain ⟨o,e,r⟩:=x;exact ⟨o,k o e,r⟩
 | false=>obtain ⟨o,e,r⟩:=x;exact ⟨o,k o e,r⟩
theorem Gx.at {tp:Bool}{h g:Heap}{a:Addr}{xs:Array Nu}(x:Gx tp h a xs)(k:∀ o,h.get? a=some o->g.get? a=some o):Gx tp g a xs:=by
 cases tp with
 | true=>obtain ⟨o,e,r⟩:=x;exact ⟨o,k o e,r⟩
 | false=>obtain ⟨o,e,r⟩:=x;exact ⟨o,k o e,r⟩
theorem Bc.ex {tp:Bool}{h:Heap}{it a:Addr}{i:Nat}(x:Bc tp h it a i):∃ o,h.get? it=some o/\∃ vs,o.data=.fields vs:=by
 cases tp with
 | true=>obtain ⟨o,e,_,d⟩:=x;exact ⟨o,e,_,d⟩
 | false=>obtain ⟨o,e,_,d⟩:=x;exact ⟨o,e,_,d⟩
section
variable {prog:NO} {w:N0} {A:NY} {E:Nu->Nv->Prop} {s:Nv}
end
def Sq (tp:Bool)(K:Nt)(H:Hp)(a:Addr)(xs:List V):Prop:=match tp with
 | true=>SqT K H a xs
 | false=>SqL K H a xs
def SqX (tp:Bool)(K:Nt)(H:Hp)(a:Addr)(xs:List V):Prop:=match tp with
 | true=>SqT K H a xs
 | false=>SqF K H a xs
theorem SqX.sq {tp:Bool}{K:Nt}{H:Hp}{a:Addr}{xs:List V}(h:SqX tp K H a xs):Sq tp K H a xs:=by
 cases tp with
 | true=>exact h
 | false=>exact SqF.sq h
theorem Inv.sq {X:Cx}{pins:List (Addr×Obj)}{σ:L2.St}{H:Hp}{s:Nv}{tp:Bool}{a:Addr}{xs:List V}(I:Inv X pins σ H s)(h:Sq tp X.K H a xs):∃ its:List Nu,Vals xs its/\Gx tp s.heap a its.toArray:=by
 cases tp with
 | true=>obtain ⟨its,r,p,_⟩:=I.tuple h;exact ⟨its,r,p⟩
 | false=>
  obtain ⟨its,r,⟨o,n,e1,e2,_,e3⟩,_⟩:=I.list h
  exact ⟨its,r,o,e1,e2,n,e3⟩
section
variable {X:Cx} {ea eb:NX} {es:List NX} {ek:Nat} {ep p pos:Pos}
theorem Tk.sq {K:Nt}{H H':Hp}{tp:Bool}{a:Addr}{xs:List V}(t:Tk H H')(h:SqX tp K H a xs):Sq tp K H' a xs:=by
 cases tp with
 | true=>exact t.sqT h
 | false=>exact (t.sqF h).sq
end
end
section
open PySem PySem.Spec PyProof.Rows L2
def kObj (x:D)(f:Addr->Prop):Prop:=match x with
 | .obj a=>f a
 | _=>False
theorem kz (a:Addr)(f):kObj (.obj a) f=f a:=rfl
section
variable {X:Cx} {o a b c e:NX} {To Ta Tb Tc Te T T':ETr} {pos:Pos}
theorem K1 {K:Nt}{H:Hp}{μ:Mu}{q:Addr}{u:HO}(m:bW K H μ)(t:Tk H (L2.upd H q u)):bW K (L2.upd H q u) (dn μ q):=λz y ez=>by
 have zq:z≠q:=λw=>by subst w;unfold dn at ez;rw[if_pos rfl] at ez;cases ez
 have ez':μ z=some y:=by unfold dn at ez;rw[if_neg zq] at ez;exact ez
 exact (m z _ ez').ne t zq
theorem rW {H:Hp}{q:Addr}{u:HO}{xs:List V}(ex:H q=some (.lst xs)):Tk H (L2.upd H q u):=
 .upd (λys z=>by rw[ex] at z;cases z) λo' w z=>by rw[ex] at z;cases z
theorem Mn {K:Nt}{H:Hp}{μ:Mu}{q:Addr}{xs ys:List V}{ds:List D}(m:bW K H μ)(ex:H q=some (.lst xs))(l:DpL K H ys ds):bW K (L2.upd H q (.lst ys)) (up μ q (.lst ds)):=λz y ez=>by
 by_cases zq:z=q
 ·subst zq
  rw[bp] at ez;cases ez
  exact ⟨ys,aP,l.mono (rW ex)⟩
 ·rw[cW zq] at ez
  exact (m z _ ez).ne (rW ex) zq
def Aa (T:ETr):ETr:=λρ μ Q=>T ρ μ λx μ1=>kObj x λa=>kL μ1 a λds=>Q (.ls ds) (dn μ1 a)
theorem HL (h:LE X e T):LE X e (Aa T):=by
 obtain ⟨t,p,s⟩:=h.ex
 refine ⟨_,js p,λσ H ρ μ Q Q' rl h k=>s σ H ρ μ _ _ rl h λv H1 d μ1 t1 m1 p1 h1=>?_⟩
 cases p1 with
 | obj q=>
  obtain ⟨ds,e0,h2⟩:=cC h1
  obtain ⟨xs,ex,l⟩:=m1 q _ e0
  refine ⟨q,xs,rfl,ex,λu=>?_⟩
  have t2:Tk H1 (L2.upd H1 q (.frz u (.lst xs))):=rW ex
  exact k _ _ _ (dn μ1 q) (t1.trans t2) (K1 m1 t2) (.ls (.inl ⟨u,aP⟩) (l.mono t2)) h2
 | _=>exact Ny h1
def vd (To Te:ETr):ETr:=λρ μ Q=>To ρ μ λx μ1=>kObj x λa=>kL μ1 a λ_=>Te ρ μ1 λy μ2=>kL μ2 a λds=>ds.length < 1000000/\Q .non (up μ2 a (.lst (ds++[y])))
theorem le_app {apos cpos:Pos}(ho:LE X o To)(he:LE X e Te)
  (hbase:QO o (Nr "append") X.env (OF o X.env)=OF o X.env:=by rfl)
  (hfew:((N8 cpos (Nx [e] X.env)).all (λx=>!x.1)&&(T6 cpos (RA [] X.env)).all (λx=>x.1.isSome)
   && decide ([e].length+([]:List QN).length+(if ([]:List QN).isEmpty then 0 else 1) < 30))=true:=by rfl)
  (hline:(apos.endLine == cpos.line)=true:=by rfl) (hs:Nx [e] X.env=(false,OF e X.env)::Nx [] X.env:=by rfl) (hplain:(N8 cpos (Nx [] X.env)).any (·.1)=false:=by rfl) :
  LE X (.Call (.Attribute o (Nr "append") apos) [e] [] cpos) (vd To Te):=by
 obtain ⟨to,po,so⟩:=ho.ex
 obtain ⟨te,pe,se⟩:=he.ex
 refine ⟨_,G5 RP PySem.F.slot_list_append PySem.F.type_list_append qe po (gv pe kK hs) hbase hfew hline hs hplain,λσ H ρ μ Q Q' rl h k=>so σ H ρ μ _ _ rl h λx H1 dx μ1 t1 m1 p1 h1=>?_⟩
 cases p1 with
 | obj q=>
  obtain ⟨ds0,e0,h2⟩:=cC h1
  obtain ⟨xs0,ex0,_⟩:=m1 q _ e0
  refine ⟨.inl ⟨rfl,_,SqL.of ex0⟩,se σ H1 ρ μ1 _ _ (rl.go t1 m1) h2 λy H2 dy μ2 t2 m2 p2 h3=>?_⟩
  obtain ⟨ds,e1,lz,h4⟩:=cC h3
  obtain ⟨xs,ex,l⟩:=m2 q _ e1
  exact ⟨q,xs,y,rfl,rfl,ex,by rw[l.length];exact NV lz (by decide),k _ _ _ _ ((t1.trans t2).trans (rW ex)) (Mn m2 ex (l.append (.cons p2 .nil))) .non h4⟩
 | _=>exact Ny h1
def d9:FSp:=λds μ Q=>match ds with
 | [.tup xs]=>Q (.tup xs) μ
 | [.ls xs]=>Q (.tup xs) μ
 | [.obj a]=>kL μ a λxs=>Q (.tup xs) μ
 | _=>False
theorem fS {K:Nt}:rz K (λxs H Q=>∃ p ys,xs=[.ref p]/\((SqL K H p ys/\∀ l,H l=none->Q (.ref l) (L2.upd H l (.tup ys)))∨(SqT K H p ys/\Q (.ref p) H))) d9:=λH μ xs ds Q Q' m p h k=>by
 unfold d9 at h
 split at h
 ·cases p with | cons p1 p2=>cases p2;cases p1 with | tup q l=>exact ⟨_,_,rfl,.inr ⟨q,k _ H _ μ (.refl H) m (.tup q l) h⟩⟩
 ·cases p with | cons p1 p2=>cases p2;cases p1 with | ls q l=>exact ⟨_,_,rfl,.inl ⟨q.sq,λz hz=>k _ _ _ μ (.new hz) (di m hz) (.tup (SqT.of aP) (l.mono (.new hz))) h⟩⟩
 ·rename_i q
  cases p with | cons p1 p2=>
  cases p2;cases p1
  obtain ⟨ys,e0,h⟩:=cC h
  obtain ⟨xs,ex,l⟩:=m q _ e0
  exact ⟨_,_,rfl,.inl ⟨SqL.of ex,λz hz=>k _ _ _ μ (.new hz) (di m hz) (.tup (SqT.of aP) (l.mono (.new hz))) h⟩⟩
 ·exact Ny h
def wG:FSp:=λds μ Q=>match ds with
 | [.tup xs]=>∀ p,μ p=none->Q (.obj p) (up μ p (.lst xs))
 | [.ls xs]=>∀ p,μ p=none->Q (.obj p) (up μ p (.lst xs))
 | [.obj a]=>kL μ a λxs=>∀ p,μ p=none->Q (.obj p) (up μ p (.lst xs))
 | _=>False
def fB:FSp:=λds μ Q=>match ds with
 | [.tup xs]=>Q (.ls xs) μ
 | [.ls xs]=>Q (.ls xs) μ
 | [.obj a]=>kL μ a λxs=>Q (.ls xs) μ
 | _=>False
def Jt (Q:VK):VK:=λv H1=>∃ a xs,v=.ref a/\H1 a=some (.lst xs)/\∀ o,Q v (L2.upd H1 a (.frz o (.lst xs)))
theorem gu {K:Nt}{H:Hp}{μ:Mu}{ys:List V}{ds:List D}{Q:DK}{Q':VK}{z:Addr}(m:bW K H μ)(l:DpL K H ys ds)(h:Q (.ls ds) μ)(k:iC K H Q Q')(hz:H z=none):Jt Q' (.ref z) (L2.upd H z (.lst ys)):=
 ⟨z,ys,rfl,aP,λo=>by
  have e:L2.upd (L2.upd H z (.lst ys)) z (.frz o (.lst ys))=L2.upd H z (.frz o (.lst ys)):=qN
  rw[e]
  exact k _ _ _ μ (.new hz) (di m hz) (.ls (.inl ⟨o,aP⟩) (l.mono (.new hz))) h⟩
theorem Az {K:Nt}:rz K (λxs H Q=>∃ p ys,xs=[.ref p]/\(SqL K H p ys∨SqT K H p ys)/\∀ l,H l=none->Jt Q (.ref l) (L2.upd H l (.lst ys))) fB:=λH μ xs ds Q Q' m p h k=>by
 unfold fB at h
 split at h
 ·cases p with | cons p1 p2=>cases p2;cases p1 with | tup q l=>exact ⟨_,_,rfl,.inr q,λz hz=>gu m l h k hz⟩
 ·cases p with | cons p1 p2=>cases p2;cases p1 with | ls q l=>exact ⟨_,_,rfl,.inl q.sq,λz hz=>gu m l h k hz⟩
 ·rename_i q
  cases p with | cons p1 p2=>
  cases p2;cases p1
  obtain ⟨ys,e0,h⟩:=cC h
  obtain ⟨xs,ex,l⟩:=m q _ e0
  exact ⟨_,_,rfl,.inl (SqL.of ex),λz hz=>gu m l h k hz⟩
 ·exact Ny h
theorem om {x:Str}{p:Pos}{At:ATr}(hx:x = "list")(hg:Gl X x)(hm:X.mg x=none)(hv:N4 x=some (.type "list"))(ha:LA X [e] At)(hn:x ≠ "__name__" := by decide)(hdb:(x == ("__debug__" : Str))=false:=by decide)
  (h1:Nx [e] X.env=(false,OF e X.env)::Nx [] X.env:=by rfl) (h2:(N8 pos (Nx [] X.env)).any (·.1)=false:=by rfl):LE X (.Call (.Name x p) [e] [] pos) (ar fB At):=by
 obtain ⟨ta,pa,sa⟩:=ha.ex
 exact ⟨_,js (qA sT hg hm hv pa hn hdb h1 h2),λσ H ρ μ Q Q' rl h k=>sa σ H ρ μ _ _ rl h λxs H1 ds μ1 t1 m1 p1 h1=>Az H1 μ1 xs ds Q Q' m1 p1 h1 (k.go t1)⟩
def gY:D->Bool
 | .non=>true
 | .bl _=>true
 | .int _=>true
 | .str _=>true
 | _=>false
def inD (x:D)(xs:List D):Bool:=xs.any λy=>eqD y x
def rIn (neg:Bool):DR2:=λx y μ Q=>match y with
 | .tup xs=>(gY x=true/\xs.all gY=true)/\Q (.bl (if neg then !inD x xs else inD x xs)) μ
 | .ls xs=>(gY x=true/\xs.all gY=true)/\Q (.bl (if neg then !inD x xs else inD x xs)) μ
 | .obj a=>kL μ a λxs=>(gY x=true/\xs.all gY=true)/\Q (.bl (if neg then !inD x xs else inD x xs)) μ
 | _=>False
end
end
section
open PySem PySem.Spec PyProof.Rows L2
section
variable {X:Cx} {a b e:NX} {Ta Tb T:ETr} {pos:Pos}
def KI (t:TE):TE:=λσ H Q=>t σ H λv H1=>Q v H1∨Jt Q v H1
theorem yQ {t:TE}(h:PE X e t):PE X e (KI t):=by
 have g:PE X e (λσ H Q=>∃ P:VK,BI t σ H P/\∀ v H',P v H'->Q v H'):=λpins s σ H Q I ⟨P,hP,k⟩=>
  thn (js h pins s σ H P I hP) λu s1 ⟨v,H1,I1,r,q⟩=>⟨v,H1,I1,r,k _ _ q⟩
 intro pins s σ H Q I hh
 refine thn (h pins s σ H _ I hh) λu s1 ⟨v,H1,I1,r,q⟩=>?_
 rcases q with q | ⟨c,xs,rfl,ec,q⟩
 ·exact ⟨v,H1,I1,r,q⟩
 ·have hz:=I1.hok c _ ec
  obtain ⟨z,its,n,rv,hg⟩:=hz
  have nl:∀ d o,H1 d=some o->(∀ ys,o≠.lst ys)->d≠c:=λd o e1 e2 w=>by subst w;rw[ec] at e1;cases e1;exact e2 _ rfl
  refine ⟨.ref c,_,I1.un (h':=s1.heap) (t':=s1.toks) (H':=L2.upd H1 c (.frz { cls:=.type "list", data:=.seq its.toArray n } (.lst xs))) ⟨λd o e _ _ _=>e,λd o e _ _ _=>⟨o.slots,e⟩,λd o e w _=>?_,λd o e _=>⟨o,e⟩,λd ys e=>?_,λd o u e=>?_,λd ps e=>⟨#[],?_⟩⟩ (λd u e=>?_),r,q _⟩
  ·rw[aS (λz=>by subst z;rw[ec] at w;cases w)];exact w
  ·rw[aS (nl d _ e (λ_=>nofun))];exact e
  ·rw[aS (nl d _ e (λ_=>nofun))];exact e
  ·rw[aS (nl d _ e (λ_=>nofun)),e];simp
  ·by_cases hd:d=c
   ·subst hd
    rw[aP] at e;cases e
    exact ⟨hg,z,its,n,rv,hg⟩
   ·rw[aS hd] at e
    refine (I1.hok d u e).qV (λk w _ q=>q) (λk q=>?_) λk ys q=>?_
    ·rw[aS (nl k _ q (λ_=>nofun))];exact q
    ·rw[aS (nl k _ q (λ_=>nofun))];exact q
def Hb (K:Nt):R2:=λx y H Q=>∃ p q ys,x=.ref p/\y=.ref q/\SqT K H p []/\SqT K H q ys/\Q (.ref q) H
theorem EK:OpR X (Pq .Add) (Hb X.K):=λpins s σ H x y v u Q I rx ry ⟨p,q,ys,e1,e2,hp,hq,h⟩=>by
 subst e1 e2
 cases rx
 cases ry
 obtain ⟨its,r1,p1,_⟩:=I.tuple hp
 obtain ⟨its2,r2,p2,_⟩:=I.tuple hq
 cases r1
 obtain ⟨⟨c1,d1,t1,l1⟩,ho,hc,n,hd⟩:=id p1
 obtain ⟨⟨c2,d2,t2,l2⟩,ho2,hc2,n2,hd2⟩:=id p2
 simp only at hc hd hc2 hd2
 subst hc hd hc2 hd2
 exact R7 ⟨_,ho,rfl⟩ ⟨_,ho2,rfl⟩ RM Tn Qu Qj (Qd _ _)
  (tuple_addW0 p q #[] its2.toArray n n2 d1 d2 l1 l2 rfl) ⟨ho,ho2,⟨.ref q,H,I,rfl,h⟩⟩
def GP (K:Nt):R2:=λx y H Q=>∃ p q xs ys,x=.ref p/\y=.ref q/\SqL K H p xs/\SqL K H q ys/\xs.length+ys.length<=sizeLine/\∀ z,H z=none->Q (.ref z) (L2.upd H z (.lst (xs++ys)))
theorem FN:OpR X (Pq .Add) (GP X.K):=λpins s σ H x y v u Q I rx ry ⟨p,q,xs,ys,e1,e2,hp,hq,hz,h⟩=>by
 subst e1 e2
 cases rx
 cases ry
 obtain ⟨its,r1,p1,_⟩:=I.list hp
 obtain ⟨its2,r2,p2,_⟩:=I.list hq
 obtain ⟨⟨c1,d1,t1,l1⟩,n,ho,hc,hx,hd⟩:=id p1
 obtain ⟨⟨c2,d2,t2,l2⟩,n2,ho2,hc2,hx2,hd2⟩:=id p2
 simp only at hc hd hc2 hd2
 subst hc hd hc2 hd2
 have z1:=r1.length
 have z2:=r2.length
 refine R7 ⟨_,ho,rfl⟩ ⟨_,ho2,rfl⟩ PySem.noFill_list_add PySem.seq_list_add PySem.F.slot_list_add PySem.F.entry_list_add (PySem.F.args_list_add_2 _ _)
  (list_addW p q its.toArray its2.toArray n n2 d1 d2 l1 l2 (by rw[NJ,NJ];omega)) ⟨ho,ho2,?_⟩
 have ea:its.toArray++its2.toArray=(its++its2).toArray:=by simp
 rw[ea]
 exact ⟨.ref _,_,I.MT (t':=s.toks) (r1.append r2) (by rw[NQ];omega),rfl,h _ I.fresh⟩
def aH:DR2:=λx y μ Q=>match x,y with
 | .int i,.int j=>Q (.int (i+j)) μ
 | .str i,.str j=>i.length+j.length<=1000000/\Q (.str (i++j)) μ
 | .tup a,.tup b=>a.length+b.length<=1000000/\Q (.tup (a++b)) μ
 | .ls a,.ls b=>a.length+b.length<=1000000/\Q (.ls (a++b)) μ
 | _,_=>False
def rPl (K:Nt):R2:=λx y H Q=>(rI0 λi j=>.int (i+j)) x y H Q∨(∃ i j,x=.str i/\y=.str j/\i.length+j.length<=sizeLine/\Q (.str (i++j)) H)∨GQ K x y H Q∨Hb K x y H Q∨GP K x y H Q
theorem Gd:OpR X (Pq .Add) (rPl X.K):=λpins s σ H x y v u Q I rx ry h=>by
 rcases h with h | h | h | h | h
 ·exact Ko pins s σ H x y v u Q I rx ry h
 ·exact wU pins s σ H x y v u Q I rx ry h
 ·exact Fs pins s σ H x y v u Q I rx ry h
 ·exact EK pins s σ H x y v u Q I rx ry h
 ·exact FN pins s σ H x y v u Q I rx ry h
theorem aB (ha:LE X a Ta)(hb:LE X b Tb):LE X (.BinOp a .Add b pos) (ao aH Ta Tb):=by
 obtain ⟨ta,pa,sa⟩:=ha.ex
 obtain ⟨tb,pb,sb⟩:=hb.ex
 refine ⟨_,yQ (Hc Gd pa pb),λσ H ρ μ Q Q' rl h k=>sa σ H ρ μ _ _ rl h λx H1 dx μ1 t1 m1 p1 h1=>sb σ H1 ρ μ1 _ _ (rl.go t1 m1) h1 λy H2 dy μ2 t2 m2 p2 h2=>?_⟩
 have p1:=p1.mono t2
 have k:=k.go (t1.trans t2)
 cases p1 with
 | int i=>
  cases p2 with
  | int j=>exact .inl ⟨i,j,rfl,rfl,.inl (k _ H2 _ μ2 (.refl H2) m2 (.int _) h2)⟩
  | _=>exact Ny h2
 | str i=>
  cases p2 with
  | str j=>exact .inr (.inl ⟨i,j,rfl,rfl,big h2.1,.inl (k _ H2 _ μ2 (.refl H2) m2 (.str _) h2.2)⟩)
  | _=>exact Ny h2
 | @tup q xs ds sq l=>
  cases p2 with
  | @tup q' ys es sq' l'=>
   obtain ⟨hz,h3⟩:=h2
   by_cases hx:xs=[]
   ·subst hx
    cases l
    exact .inr (.inr (.inr (.inl ⟨q,q',ys,rfl,rfl,sq,sq',.inl (k _ H2 _ μ2 (.refl H2) m2 (.tup sq' l') h3)⟩)))
   ·refine .inr (.inr (.inl ⟨q,q',xs,ys,rfl,rfl,sq,sq',hx,by rw[l.length,l'.length];exact big hz,λhy=>?_,λ_ z hzn=>.inl ?_⟩))
    ·subst hy
     cases l'
     rw[OC] at h3
     exact .inl (k _ H2 _ μ2 (.refl H2) m2 (.tup sq l) h3)
    ·exact k _ _ _ μ2 (.new hzn) (di m2 hzn) (.tup (SqT.of aP) ((l.append l').mono (.new hzn))) h3
  | _=>exact Ny h2
 | @ls q xs ds sq l=>
  cases p2 with
  | @ls q' ys es sq' l'=>exact .inr (.inr (.inr (.inr ⟨q,q',xs,ys,rfl,rfl,sq.sq,sq'.sq,by rw[l.length,l'.length];exact big h2.1,λz hz=>.inr (gu m2 (l.append l') h2.2 k hz)⟩)))
  | _=>exact Ny h2
 | _=>cases p2<;>exact Ny h2
abbrev OTr:=ST->Mu->(Option Int->Mu->Prop)->Prop
def ONo:OTr:=λ_ μ Q=>Q none μ
def fE (T:ETr):OTr:=λρ μ Q=>T ρ μ λx μ1=>kI x λi=>Q (some i) μ1
def M7 (K:Nt)(t:TO)(T:OTr):Prop:=∀ σ H ρ μ (Q:Option Int->Mu->Prop) (Q':Option Int->Hp->Prop),Rl K σ H ρ μ->T ρ μ Q->(∀ i H' μ',Tk H H'->bW K H' μ'->Q i μ'->Q' i H')->t σ H Q'
structure LO (X:Cx) (o:Option NX) (T:OTr):Prop where
 ex:∃ t,PO X o t/\M7 X.K t T
theorem eE:LO X none ONo:=⟨_,Em,λσ H ρ μ Q Q' rl h k=>k none H μ (.refl H) rl.mu h⟩
theorem cv (h:LE X e T):LO X (some e) (fE T):=by
 obtain ⟨t,p,s⟩:=h.ex
 refine ⟨_,FZ p,λσ H ρ μ Q Q' rl h k=>s σ H ρ μ _ _ rl h λv H1 d μ1 t1 m1 p1 h1=>?_⟩
 cases p1 with
 | int i=>exact ⟨i,rfl,k _ H1 μ1 t1 m1 h1⟩
 | _=>exact Ny h1
def cutD {α:Type}(xs:List α)(lo hi:Option Int):List α:=(xs.drop (HT.sIx xs.length 0 lo)).take (HT.sIx xs.length xs.length hi - HT.sIx xs.length 0 lo)
theorem tQ {α:Type}(xs:List α)(lo hi:Option Int):(cutD xs lo hi).length<=xs.length:=by
 unfold cutD;rw[PF,PJ];omega
theorem xo {α:Type}{xs:List α}{lo hi:Option Int}(h:HT.sIx xs.length 0 lo=0/\HT.sIx xs.length xs.length hi=xs.length):cutD xs lo hi=xs:=by
 unfold cutD;rw[h.1,h.2];simp
theorem DpL.take {K:Nt}{H:Hp}:∀ {vs:List V} {ds:List D} (n:Nat),DpL K H vs ds->DpL K H (vs.take n) (ds.take n)
 | _,_,0,_=>.nil
 | _,_,_+1,.nil=>.nil
 | _,_,n+1,.cons h l=>.cons h (DpL.take n l)
theorem DpL.drop {K:Nt}{H:Hp}:∀ {vs:List V} {ds:List D} (n:Nat),DpL K H vs ds->DpL K H (vs.drop n) (ds.drop n)
 | _,_,0,l=>l
 | _,_,_+1,.nil=>.nil
 | _,_,n+1,.cons _ l=>DpL.drop n l
theorem DpL.cut {K:Nt}{H:Hp}{vs:List V}{ds:List D}(lo hi:Option Int)(l:DpL K H vs ds):DpL K H (tV vs lo hi) (cutD ds lo hi):=by
 unfold tV cutD;rw[l.length];exact (l.drop _).take _
theorem vp {prog:NO}{w:N0}{A:NY}{E:Nu->Nv->Prop}{s:Nv}{t sl:Addr}{items:Array Nu}{vl vu:Nu}{lo hi:Option Int}{Q:Nu->Nv->Prop}(ht:IsTup s.heap t items)(hs:s.heap.IsSliceOf sl vl vu .none)(pl:IsPart vl lo)(pu:IsPart vu hi)
  (hw:HT.sIx items.size 0 lo=0/\HT.sIx items.size items.size hi=items.size) (h:Q (.ref t) s):NL (NS prog w) A (S4 (.ref t) (.ref sl)) Q E s:=by
 obtain ⟨os,hos,hcs,hds⟩:=id hs
 have hTs:s.TypeIs (.ref sl) "slice" := ⟨os,hos,hcs⟩
 unfold S4
 try with_reducible refine wpAny_holding ?_
 first | refine wpAny_bind (wpAny_pure ?_) | skip
 refine wpAny_bind (T3 ht.typeIs (by decide) ?_)
 refine wpAny_bind (OB (name:=Nr "__getitem__") ht.typeIs Oi (OE Oi ht.typeIs S7 ?_ (TN _ _)))
 show NL _ _ (Rn (.ref t) >>= _) _ _ s
 refine wpAny_bind (tupleItemsOf_ ht ?_)
 refine wpAny_bind <| wpAny_typeOf hTs ?_
 rw[if_pos (by decide)]
 refine wpAny_bind (HT.fR hs pl pu ?_)
 rw[hw.1,hw.2]
 refine (show NL _ _ (if (((0:Nat):Int) == 0&&(1:Int) == 1&&(items.size - 0) == items.size)=true then _ else _) _ _ s from ?_)
 rw[if_pos (by simp)]
 unfold Ve
 refine wpAny_bind (wpAny_bind (wpAny_typeOf ht.typeIs (wpAny_pure ?_)))
 rw[if_pos (by decide)]
 first
  | exact wpAny_bind (wpAny_rule (wpAny_bind (wpAny_pure (wpAny_pure ⟨_,rfl,wpAny_pure h⟩))))
  | exact wpAny_bind (wpAny_rule (wpAny_pure ⟨_,rfl,wpAny_pure h⟩))
  | exact wpAny_bind (wpAny_bind (wpAny_rule (wpAny_pure (wpAny_pure ⟨_,rfl,wpAny_pure h⟩))))
def Mx (K:Nt):V->Option Int->Option Int->Hp->VK->Prop:=λx lo hi H Q=>∃ a xs,x=.ref a/\SqT K H a xs/\(HT.sIx xs.length 0 lo=0/\HT.sIx xs.length xs.length hi=xs.length)/\Q (.ref a) H
theorem C6:SlR X (Mx X.K):=λpins s σ H x v vl vu lo hi sl Q I rx hs pl pu ⟨q,xs,e,hx,hw,h⟩=>by
 subst e
 cases rx
 obtain ⟨its,r,ht,_⟩:=I.tuple hx
 have hlen:its.toArray.size=xs.length:=by rw[NJ];exact r.length.symm
 exact ⟨"tuple", _,Oi.lookup,ht.typeIs,vp ht hs pl pu (by rw[hlen];exact hw) ⟨.ref q,H,I,rfl,h⟩⟩
def rSl:D->Option Int->Option Int->Mu->DK->Prop:=λx lo hi μ Q=>match x with
 | .tup xs=>Q (.tup (cutD xs lo hi)) μ
 | .ls xs=>Q (.ls (cutD xs lo hi)) μ
 | .obj a=>kL μ a λxs=>Q (.ls (cutD xs lo hi)) μ
 | _=>False
def TSl (a:ETr)(lo hi:OTr):ETr:=λρ μ Q=>a ρ μ λx μ1=>lo ρ μ1 λl μ2=>hi ρ μ2 λh μ3=>rSl x l h μ3 Q
theorem ee {lo hi:Option NX}{Tl Th:OTr}{p2:Pos}(ha:LE X a Ta)(hl:LO X lo Tl)(hh:LO X hi Th):LE X (.Subscript a (.Slice lo hi none p2) pos) (TSl Ta Tl Th):=by
 obtain ⟨ta,pa,sa⟩:=ha.ex
 obtain ⟨tl,pl,sl⟩:=hl.ex
 obtain ⟨th,ph,sh⟩:=hh.ex
 refine ⟨_,yQ (Dd (SlR.or C6 (SlR.or IB GL)) pa pl ph),λσ H ρ μ Q Q' rl h k=>sa σ H ρ μ _ _ rl h λx H1 dx μ1 t1 m1 p1 h1=>sl σ H1 ρ μ1 _ _ (rl.go t1 m1) h1 λi H2 μ2 t2 m2 h2=>sh σ H2 ρ μ2 _ _ (rl.go (t1.trans t2) m2) h2 λj H3 μ3 t3 m3 h3=>?_⟩
 have p1:=p1.mono (t2.trans t3)
 have k:=k.go (t1.trans (t2.trans t3))
 cases p1 with
 | @tup q xs ds sq l=>
  by_cases hw:HT.sIx xs.length 0 i=0/\HT.sIx xs.length xs.length j=xs.length
  ·refine .inl ⟨q,xs,rfl,sq,hw,.inl (k _ H3 _ μ3 (.refl H3) m3 (.tup sq l) ?_)⟩
   rw[l.length] at hw
   have h3:Q (.tup (cutD ds i j)) μ3:=h3
   rw[xo hw] at h3;exact h3
  ·exact .inr (.inl ⟨q,xs,rfl,sq,hw,λz hz=>.inl (k _ _ _ μ3 (.new hz) (di m3 hz) (.tup (SqT.of aP) ((l.cut i j).mono (.new hz))) h3)⟩)
 | @ls q xs ds sq l=>exact .inr (.inr ⟨q,xs,rfl,sq.sq,λz hz=>.inr (gu m3 (l.cut i j) h3 k hz)⟩)
 | obj q=>
  obtain ⟨ds,e0,h4⟩:=cC h3
  obtain ⟨xs,ex,l⟩:=m3 q _ e0
  exact .inr (.inr ⟨q,xs,rfl,SqL.of ex,λz hz=>.inr (gu m3 (l.cut i j) h4 k hz)⟩)
 | _=>exact Ny h3
theorem FW {α:Type}(xs:List α)(k:Nat):cutD xs none (some (k:Int))=xs.take k:=by
 unfold cutD
 rw[HT.uN,HT.zc,List.drop_zero,Nat.sub_zero]
 rcases Vz k xs.length with h | h
 ·rw[UM h]
 ·rw[UC h,List.take_length,Sg h]
theorem iG {α:Type}(xs:List α)(k:Nat):cutD xs (some (k:Int)) none=xs.drop k:=by
 unfold cutD
 rw[HT.uN,HT.zc]
 rcases Vz k xs.length with h | h
 ·rw[UM h,Sg (by rw[PJ];omega)]
 ·rw[UC h,QH,List.drop_of_length_le h];simp
end
end
section
open PySem PySem.Spec PyProof.Rows L2
end
section
open PySem PySem.Spec PyProof.Rows L2
theorem _root_.L2.Inv.frz {X:Cx}{pins:List (Addr×Obj)}{σ:L2.St}{H:Hp}{s:Nv}{c:Addr}{xs:List V}(I1:Inv X pins σ H s)(ec:H c=some (.lst xs)):∃ o,Inv X pins σ (L2.upd H c (.frz o (.lst xs))) s:=by
 obtain ⟨z,its,n,rv,hg⟩:=I1.hok c _ ec
 have nl:∀ d o,H d=some o->(∀ ys,o≠.lst ys)->d≠c:=λd o e1 e2 w=>by subst w;rw[ec] at e1;cases e1;exact e2 _ rfl
 refine ⟨_,I1.un (h':=s.heap) (t':=s.toks) (H':=L2.upd H c (.frz { cls:=.type "list", data:=.seq its.toArray n } (.lst xs))) ⟨λd o e _ _ _=>e,λd o e _ _ _=>⟨o.slots,e⟩,λd o e w _=>?_,λd o e _=>⟨o,e⟩,λd ys e=>?_,λd o u e=>?_,λd ps e=>⟨#[],?_⟩⟩ (λd u e=>?_)⟩
 ·rw[aS (λz=>by subst z;rw[ec] at w;cases w)];exact w
 ·rw[aS (nl d _ e (λ_=>nofun))];exact e
 ·rw[aS (nl d _ e (λ_=>nofun))];exact e
 ·rw[aS (nl d _ e (λ_=>nofun)),e];simp
 ·by_cases hd:d=c
  ·subst hd
   rw[aP] at e;cases e
   exact ⟨hg,z,its,n,rv,hg⟩
  ·rw[aS hd] at e
   refine (I1.hok d u e).qV (λk w _ q=>q) (λk q=>?_) λk ys q=>?_
   ·rw[aS (nl k _ q (λ_=>nofun))];exact q
   ·rw[aS (nl k _ q (λ_=>nofun))];exact q
theorem Eo {X:Cx}{tg iter elt:NX}{ifs:List NX}{scope:Scope}{pos spos py:Pos}{y:Str}{iy:Nat}{wi:TI}{g:TG}{tt:TT}{te:TE}{Nc:List Str}{n:Nat}{caps:List Nat}
  (hxe:X.xe=λ_ _=>False) (hcalm:X.calm=true) (hi:PI X tg iter wi)
  (hbody:∀ (cl:List (Str×Addr)) (C:Addr) (s₀:Nv) (H₀:Hp) (ex:List Addr),PG (bJ X scope Nc cl C s₀ H₀ ex) tg g/\ym (bJ X scope Nc cl C s₀ H₀ ex) ifs tt/\PE (bJ X scope Nc cl C s₀ H₀ ex) elt te)
  (hfree:∀ y∈scope.names,y.2=.free->X.env.kindOf y.1=some .cell) (hcell:∀ y∈scope.names,y.2≠.cell) (gb:scope.kind=.function)
  (hnames:∀ y∈scope.names,y.2=.local->scope.names.lookup y.1=some .local) (hlen:Nc.length=n+caps.length)
  (hcap:∀ (j k:Nat),caps[j]? = some k->∃ x,Nc[n+j]? = some x/\X.N[k]? = some x/\scope.names.lookup x=some .free)
  (pgy:PG X (.Name y py) (nN iy))
  (hsw:Rg (.ListComp elt [⟨tg,iter,ifs,0⟩] scope pos) (some (.Name y py)) spos.line X.env=pure true)
  (hs:∀ x,OJ iter X.env x=pure x:=by intro _;rfl) :
  PS X (.Assign [.Name y py] (.ListComp elt [⟨tg,iter,ifs,0⟩] scope pos) spos) (EV (BI (mx wi g tt te n caps)) (nN iy)):=
 DF (Z:=BI) hxe hcalm hi hbody hfree hcell gb hnames hlen hcap pgy hsw (λσ H Q h=>⟨_,h,λpins D H5 s5 I5 ⟨a,xs,ea,eH,q⟩=>by
  cases ea
  obtain ⟨o,I6⟩:=I5.frz eH
  exact ⟨_,λb hb=>by rw[aS (λz=>by rw[z,eH] at hb;cases hb)];exact hb,I6,q o⟩⟩) hs
theorem Ec {K:Nt}{wi:TI}{It':ATr}{G:GTr}{Tt:TTr}{Te:ETr}{n:Nat}{caps:List Nat}(si:Lw K wi It'):Sim K (BI (mx wi (yW K n G) (liftT K Tt) (za K Te) n caps)) (df It' G Tt Te n caps):=by
 intro σ H ρ μ Q Q' rl h k
 refine si σ H ρ μ _ _ rl h λJ H1 ds μ1 t1 m1 Y h1 D hD=>?_
 have hp:=h1 D (m1.free hD)
 have tD:Tk H1 (L2.upd H1 D (.lst [])):=.new hD
 have mD:bW K (L2.upd H1 D (.lst [])) (up μ1 D (.lst [])):=λa o e=>by
  by_cases ha:a=D
  ·subst ha
   rw[bp] at e;cases e
   exact ⟨[],aP,.nil⟩
  ·rw[cW ha] at e
   exact di m1 hD a o e
 refine ⟨λi m ys H2=>m=ds.length - i/\i<=ds.length/\Tk H1 H2/\∃ μ2,bW K H2 μ2/\ix D G Tt Te (kc ρ n caps) (λμ'=>kL μ' D λzs=>Q (.ls zs) (dn μ' D)) (ds.drop i) μ2,
  ⟨ds.length,by simp,OM _,tD,_,mD,by simpa using hp⟩,?_⟩
 rintro i m ys H2 ⟨rfl,hi,t12,μ2,m2,h2⟩
 by_cases hlt:i < ds.length
 ·refine .inr ⟨Y.go i H2 t12 hlt,λys' H'=>Tk H1 H'/\∃ μ',bW K H' μ'/\ix D G Tt Te (kc ρ n caps) (λμ'=>kL μ' D λzs=>Q (.ls zs) (dn μ' D)) (ds.drop (i+1)) μ',λys' H' ⟨t',μ',m',h'⟩=>⟨ds.length - (i+1),by omega,rfl,hlt,t',μ',m',h'⟩,λx H3 y=>?_⟩
  obtain ⟨t23,⟨d,ed,pd⟩,mk⟩:=Y.yld i H2 x H3 t12 hlt y
  have e:ds.drop i=d::ds.drop (i+1):=by
   refine (P8 hlt).trans ?_
   congr 1
   rw[N2 hlt] at ed
   exact Oc ed
  rw[e] at h2
  have t13:=t12.trans t23
  have r3:Rl K (jK σ n caps) H3 (kc ρ n caps) μ2:=yN (rl.go (t1.trans t13) (mk _ m2)) n caps
  refine ⟨_,_,d,_,r3,pd,h2,λσ4 H4 ρ4 μ4 t4 r4 kp h4=>⟨⟨kp.1.symm,λj v ej=>?_⟩,_,_,_,r4,h4,λb H5 μ5 t5 m5 h5=>?_⟩⟩
  ·by_cases hj:n<=j
   ·rw[kp.2 j hj];exact ej
   ·obtain ⟨j',k',e1,_⟩:=nB ej
    omega
  ·have t15:=t13.trans (t4.trans t5)
   cases b with
   | false=>exact rQ ⟨t15,μ5,m5,h5⟩
   | true=>
    refine sN ⟨_,_,_,r4.go t5 m5,h5,λv H6 d6 μ6 t6 m6 p6 h6=>?_⟩
    obtain ⟨zs,ez,lz,h7⟩:=cC h6
    obtain ⟨xs,ex,lx⟩:=m6 D _ ez
    have t67:Tk H6 (L2.upd H6 D (.lst (xs++[v]))):=.upd (λys z=>by rw[ex] at z;cases z) λo' u z=>by rw[ex] at z;cases z
    refine ⟨xs,ex,by rw[lx.length];exact NV lz (by decide),(t15.trans t6).trans t67,up μ6 D (.lst (zs++[d6])),λa o ea=>?_,h7⟩
    by_cases ha:a=D
    ·subst ha
     rw[bp] at ea;cases ea
     exact ⟨_,aP,(lx.append (.cons p6 .nil)).mono t67⟩
    ·rw[cW ha] at ea
     exact (m6 a _ ea).ne t67 ha
 ·have e:i=ds.length:=by omega
  subst e
  rw[QH] at h2
  obtain ⟨zs,ez,hq⟩:=cC (show kL μ2 D λzs=>Q (.ls zs) (dn μ2 D) from h2)
  obtain ⟨xs,ex,lx⟩:=m2 D _ ez
  refine .inl ⟨Y.stop _ H2 t12 (NN _),D,xs,rfl,ex,λo=>?_⟩
  have t2f:Tk H2 (L2.upd H2 D (.frz o (.lst xs))):=.upd (λys z=>by rw[ex] at z;cases z) λo' u z=>by rw[ex] at z;cases z
  refine k _ _ _ (dn μ2 D) ((t1.trans t12).trans t2f) (λa o' ea=>?_) (.ls (.inl ⟨o,aP⟩) (lx.mono t2f)) hq
  have ha:a≠D:=λz=>by subst z;unfold dn at ea;rw[if_pos rfl] at ea;cases ea
  have ea':μ2 a=some o':=by unfold dn at ea;rw[if_neg ha] at ea;exact ea
  exact (m2 a _ ea').ne t2f ha
theorem vQ {X:Cx}{tg elt iter:NX}{Te:ETr}{Tt:TTr}{pos spos py:Pos}{y:Str}{It':ATr}{G:GTr}{ifs:List NX}{scope fsc:Scope}(iy:Nat)(hN:X.N.Nodup)(XN Nc:List Str)(n:Nat)(caps:List Nat)(hxe:X.xe=λ_ _=>False)(hcalm:X.calm=true)(hi:LI X tg iter It')
  (hbody:∀ (cl:List (Str×Addr)) (C:Addr) (s₀:Nv) (H₀:Hp) (ex:List Addr),LGc (bJ X scope Nc cl C s₀ H₀ ex) n tg G/\BJ (bJ X scope Nc cl C s₀ H₀ ex) ifs Tt/\LE (bJ X scope Nc cl C s₀ H₀ ex) elt Te)
  (hsc:X.env.scope=fsc) (hXN:X.N=XN) (hok:rT fsc.names XN scope Nc n caps=true)
  (hiy:X.N[iy]? = some y:=by rfl) (hx:Loc X.env.scope y:=by first | exact SJ rfl | exact RG rfl) (hf:X.fn y=true∨X.env.scope.names.lookup y=some .local:=by first | exact .inl rfl | exact .inr rfl | assumption)
  (hsw:Rg (.ListComp elt [⟨tg,iter,ifs,0⟩] scope pos) (some (.Name y py)) spos.line X.env=pure true:=by rfl)
  (hs:∀ x,OJ iter X.env x=pure x:=by intro _;rfl) :
  LS X (.Assign [.Name y py] (.ListComp elt [⟨tg,iter,ifs,0⟩] scope pos) spos) (aQ (df It' G Tt Te n caps) (az iy)):=by
 unfold rT at hok
 simp only[Nz,Oe] at hok
 obtain ⟨⟨⟨h1,h2⟩,h3⟩,h4⟩:=hok
 obtain ⟨wi,pi,si⟩:=hi.ex
 refine ⟨_,Eo (g:=yW X.K n G) (tt:=liftT X.K Tt) (te:=za X.K Te) hxe hcalm pi (λcl C s₀ H₀ ex=>let ⟨h1,h2,h3⟩:=hbody cl C s₀ H₀ ex;⟨h1.pe,h2.pe,h3.pe⟩) (λy hy hf=>?_) (λy hy hf=>?_) (by simpa using h2) (λy hy hf=>?_) (by simpa using h3) (λj k hj=>?_) (mq hN hiy hx hf) hsw hs,λσ H ρ μ E E' rl h k=>Ec si σ H ρ μ _ _ rl h λv H' d μ' t' m' p' h'=>kd iy σ H' ρ μ' v d _ _ (rl.go t' m') p' h' (k.go t').nx⟩
 ·have:=(h1 y hy).1.1
  show X.env.scope.names.lookup y.1=_
  rw[hsc]
  simpa[hf] using this
 ·have:=(h1 y hy).1.2
  simp[hf] at this
 ·have:=(h1 y hy).2
  simpa[hf] using this
 ·have hl:j < caps.length:=(Ot.mp hj).1
  have:=h4 j (PD.mpr hl)
  rw[hj] at this
  dsimp only at this
  rw[hXN]
  cases e:XN[k]? with
  | none=>rw[e] at this;cases this
  | some x=>
   rw[e] at this
   dsimp only at this
   rw[Nz] at this
   exact ⟨x,by simpa using this.1,rfl,by simpa using this.2⟩
end
section
open PySem PySem.Spec PyProof.Rows L2
section
variable {X:Cx} {ea:NX} {es:List NX} {ek:Nat} {ep p pos:Pos}
def Ho (ds:List D):List D:=(O6 ds.length).zipWith (λi d=>.tup [.int (i:Nat),d]) ds
def Lz (t:ATr):ATr:=λρ μ Q=>t ρ μ λvs μ1=>match vs with
 | [.ls ds]=>Q (Ho ds) μ1
 | _=>False
variable {eb:NX} {tg:NX} {Ta Tb:ETr}
end
end
section
open PySem PySem.Spec PyProof PyProof.Rows L2
section
variable {X:Cx} {a b:NX} {Ta Tb:ETr} {pos:Pos}
end
end
theorem su (i j:Int)(μ Q):aH (.int i) (.int j) μ Q=Q (.int (i+j)) μ:=rfl
theorem rG (i j:Str)(μ Q):aH (.str i) (.str j) μ Q=(i.length+j.length<=1000000/\Q (.str (i++j)) μ):=rfl
theorem sY (a b:List D)(μ Q):aH (.tup a) (.tup b) μ Q=(a.length+b.length<=1000000/\Q (.tup (a++b)) μ):=rfl
theorem sf (a b:List D)(μ Q):aH (.ls a) (.ls b) μ Q=(a.length+b.length<=1000000/\Q (.ls (a++b)) μ):=rfl
theorem nj (a:List D)(μ Q):d9 [.tup a] μ Q=Q (.tup a) μ:=rfl
theorem mU (a:List D)(μ Q):d9 [.ls a] μ Q=Q (.tup a) μ:=rfl
theorem oB (a:Addr)(μ Q):d9 [.obj a] μ Q=kL μ a λxs=>Q (.tup xs) μ:=rfl
theorem ni (a:List D)(μ Q):fB [.tup a] μ Q=Q (.ls a) μ:=rfl
theorem mS (a:List D)(μ Q):fB [.ls a] μ Q=Q (.ls a) μ:=rfl
theorem oI (a:Addr)(μ Q):fB [.obj a] μ Q=kL μ a λxs=>Q (.ls xs) μ:=rfl
theorem nF (a:List D)(μ Q):wG [.tup a] μ Q = ∀ p,μ p=none->Q (.obj p) (up μ p (.lst a)):=rfl
theorem nc (a:List D)(μ Q):wG [.ls a] μ Q = ∀ p,μ p=none->Q (.obj p) (up μ p (.lst a)):=rfl
theorem mP (a:Addr)(μ Q):wG [.obj a] μ Q=kL μ a λxs=>∀ p,μ p=none->Q (.obj p) (up μ p (.lst xs)):=rfl
theorem Cc (a:List D)(lo hi)(μ Q):rSl (.tup a) lo hi μ Q=Q (.tup (cutD a lo hi)) μ:=rfl
theorem DC (a:List D)(lo hi)(μ Q):rSl (.ls a) lo hi μ Q=Q (.ls (cutD a lo hi)) μ:=rfl
theorem DU (a:Addr)(lo hi)(μ Q):rSl (.obj a) lo hi μ Q=kL μ a λxs=>Q (.ls (cutD xs lo hi)) μ:=rfl
theorem CT (n:Bool)(x:D)(a:List D)(μ Q):L3.rIn n x (.tup a) μ Q=((gY x=true/\a.all gY=true)/\Q (.bl (if n then !inD x a else inD x a)) μ):=rfl
theorem D7 (n:Bool)(x:D)(a:List D)(μ Q):L3.rIn n x (.ls a) μ Q=((gY x=true/\a.all gY=true)/\Q (.bl (if n then !inD x a else inD x a)) μ):=rfl
theorem DX (n:Bool)(x:D)(a:Addr)(μ Q):L3.rIn n x (.obj a) μ Q=kL μ a λxs=>(gY x=true/\xs.all gY=true)/\Q (.bl (if n then !inD x xs else inD x xs)) μ:=rfl
theorem wz (a:Addr)(μ Q):cX [.obj a] μ Q=kL μ a λxs=>Q (.int xs.length) μ:=rfl
theorem yd (x:Str)(μ Q):cX [.str x] μ Q=(x.length<=1000000/\Q (.int x.length) μ):=rfl
theorem CZ (μ Q):rIs .non .non μ Q=Q (.bl true) μ:=rfl
theorem D6 (i:Int)(μ Q):rIs (.int i) .non μ Q=Q (.bl false) μ:=rfl
theorem DS (i:List D)(μ Q):rIs (.tup i) .non μ Q=Q (.bl false) μ:=rfl
theorem nP (μ Q):xM .non .non μ Q=Q (.bl false) μ:=rfl
theorem ng (i:Int)(μ Q):xM (.int i) .non μ Q=Q (.bl true) μ:=rfl
theorem mC (i:List D)(μ Q):xM (.tup i) .non μ Q=Q (.bl true) μ:=rfl
theorem xt (c:String)(i:List D)(μ Q):zC c (.ls i) μ Q=Q (.bl (bw "list" c)) μ:=rfl
theorem wy (c:String)(i:Str)(μ Q):zC c (.str i) μ Q=Q (.bl (bw "str" c)) μ:=rfl
theorem xy (c:String)(μ Q):zC c .non μ Q=Q (.bl (bw "NoneType" c)) μ:=rfl
theorem bP (k:Nat)(ds:List D):atD ds (k:Int)=ds[k]?:=by
 unfold atD L2.atI L2.ixN
 rw[if_pos (Rp k)]
 by_cases h:k < ds.length
 ·rw[if_pos (by omega)];simp
 ·rw[if_neg (by omega)];simp;omega
theorem t9 (ds:List D):atD ds 0=ds[0]?:=bP 0 ds
theorem uw (ds:List D):atD ds 1=ds[1]?:=bP 1 ds
theorem yI (ds:List D):atD ds 2=ds[2]?:=bP 2 ds
theorem zd (ds:List D):atD ds 3=ds[3]?:=bP 3 ds
theorem yV (ds:List D):atD ds 4=ds[4]?:=bP 4 ds
theorem yD (ds:List D):atD ds 5=ds[5]?:=bP 5 ds
theorem sx (n k:Nat):L2.ixN n (k:Int)=if k < n then some k else none:=by
 unfold L2.ixN
 rw[if_pos (Rp k)]
 by_cases h:k < n
 ·rw[if_pos (by omega),if_pos h];simp
 ·rw[if_neg (by omega),if_neg h]
theorem yZ (n:Nat):L2.ixN n 0=if 0 < n then some 0 else none:=sx n 0
theorem zf (n:Nat):L2.ixN n 1=if 1 < n then some 1 else none:=sx n 1
theorem yJ (n:Nat):L2.ixN n 2=if 2 < n then some 2 else none:=sx n 2
theorem iO:bw "int" "int" = true:=by decide
theorem iI:bw "int" "bool" = false:=by decide
theorem iK:bw "bool" "bool" = true:=by decide
theorem iJ:bw "bool" "int" = true:=by decide
theorem iL:bw "tuple" "tuple" = true:=by decide
theorem iH:bw "int" "tuple" = false:=by decide
theorem iM:bw "bool" "tuple" = false:=by decide
theorem fm0 {a n:Int}(h:0 < n):0<=a.fmod n:=Int.fmod_nonneg_of_pos a h
theorem fm1 {a n:Int}(h:0 < n):a.fmod n < n:=Int.fmod_lt_of_pos a h
theorem Cb (A B:Prop):kIf true A B=A:=rfl
theorem Dg (A B:Prop):kIf false A B=B:=rfl
theorem BE (p:Prop) [Decidable p] (A B:Prop):kIf (decide p) A B=if p then A else B:=by by_cases h:p<;>simp[h,kIf]
theorem Df (c:Bool)(A B:Prop):kIf (!c) A B=kIf c B A:=by cases c<;>rfl
theorem Bm (c:Bool)(f):kB (.bl c) f=f c:=rfl
theorem wI (c:Int)(f):kI (.int c) f=f c:=rfl
theorem sG (c:D)(f):kO (some c) f=f c:=rfl
theorem wQ (c:List D)(f):kS (.tup c) f=f c:=rfl
theorem DG (c:List D)(f):kS (.ls c) f=f c:=rfl
theorem xg (a b:D)(f):k2 [a,b] f=f a b:=rfl
theorem sS (c:Nat)(f):kN (some c) f=f c:=rfl
theorem yS (μ:Mu)(a:Addr)(ds:List D)(f):kL (up μ a (.lst ds)) a f=f ds:=by unfold kL;rw[bp]
theorem G6 {μ:Mu}{a:Addr}{ds:List D}(h:μ a=some (.lst ds))(f):kL μ a f=f ds:=by unfold kL;rw[h]
theorem mV (a:Addr)(n:Int)(y:D)(μ:Mu)(f):EE (.obj a) (.int n) y μ f=kL μ a λds=>kN (L2.ixN ds.length n) λj=>f (up μ a (.lst (ds.set j y))):=rfl
theorem xJ (i j:Int)(μ Q):rH (.int i) (.int j) μ Q=Q (.int (i - j)) μ:=rfl
theorem yg (i j:Int)(μ Q):gG (.int i) (.int j) μ Q=(MulOk i j/\Q (.int (i*j)) μ):=rfl
theorem wB (i j:Int)(μ Q):g5 (.int i) (.int j) μ Q=(ie j/\Q (.int (i.fdiv j)) μ):=rfl
theorem xp (i j:Int)(μ Q):gj (.int i) (.int j) μ Q=(j≠0/\Q (.int (i.fmod j)) μ):=rfl
theorem xx (i j:Int)(μ Q):ny (.int i) (.int j) μ Q=(oJ i j/\Q (.int (i ^ j.toNat)) μ):=rfl
theorem xl (i:Int)(μ Q):z6 (.int i) μ Q=Q (.int (-i)) μ:=rfl
theorem CU (i j:Int)(μ Q):rLt (.int i) (.int j) μ Q=Q (.bl (decide (i < j))) μ:=rfl
theorem Cy (i j:Int)(μ Q):rLe (.int i) (.int j) μ Q=Q (.bl (decide (i<=j))) μ:=rfl
theorem BA (i j:Int)(μ Q):rGt (.int i) (.int j) μ Q=Q (.bl (decide (j < i))) μ:=rfl
theorem Cr (i j:Int)(μ Q):rGe (.int i) (.int j) μ Q=Q (.bl (decide (j<=i))) μ:=rfl
theorem Dq (x y:D)(μ Q):L3.rEq x y μ Q=((okD 40 x=true/\okD 40 y=true)/\Q (.bl (eqD x y)) μ):=rfl
theorem DD (x y:D)(μ Q):L3.rNe x y μ Q=((okD 40 x=true/\okD 40 y=true)/\Q (.bl (!eqD x y)) μ):=rfl
theorem j3 (ds:List D)(i:Int)(μ Q):L3.rIx (.tup ds) (.int i) μ Q=kO (atD ds i) λd=>Q d μ:=rfl
theorem Cw (ds:List D)(i:Int)(μ Q):L3.rIx (.ls ds) (.int i) μ Q=kO (atD ds i) λd=>Q d μ:=rfl
theorem DB (a:Addr)(i:Int)(μ Q):L3.rIx (.obj a) (.int i) μ Q=kL μ a λds=>kO (atD ds i) λd=>Q d μ:=rfl
theorem wR (c:String)(i:Int)(μ Q):zC c (.int i) μ Q=Q (.bl (bw "int" c)) μ:=rfl
theorem xu (c:String)(i:Bool)(μ Q):zC c (.bl i) μ Q=Q (.bl (bw "bool" c)) μ:=rfl
theorem xT (c:String)(i:List D)(μ Q):zC c (.tup i) μ Q=Q (.bl (bw "tuple" c)) μ:=rfl
theorem ya (i:Int)(μ Q):rn [.int i] μ Q=Q (.int (if i < 0 then -i else i)) μ:=rfl
theorem yf (i j:Int)(μ Q):Mo [.int i,.int j] μ Q=Q (.int (if j > i then j else i)) μ:=rfl
theorem wW (i j:Int)(μ Q):KQ [.int i,.int j] μ Q=Q (.int (if j < i then j else i)) μ:=rfl
theorem wc (i:Int)(μ Q):z9 [.int i] μ Q=Q (.int i) μ:=rfl
theorem xR (i:Bool)(μ Q):z9 [.bl i] μ Q=Q (.int (if i then 1 else 0)) μ:=rfl
theorem xD (i:List D)(μ Q):cX [.tup i] μ Q=Q (.int i.length) μ:=rfl
theorem xj (i:List D)(μ Q):cX [.ls i] μ Q=Q (.int i.length) μ:=rfl
local macro_rules | `(tactic| walk_at "rd")=>zzS "L3.ah L3.TC L3.ao L3.TUn L3.cK L3.Ac L3.kZ L3.TB L3.IT L3.TOr L3.cb L3.zm L3.fJ L3.ak L3.ae L3.aG L3.bR L3.xC L3.ar L3.aU L3.aE L3.w4 L3.BD L3.lb L3.aR L3.Dx L3.bF L3.az L3.aQ L3.xF L3.fb L3.tF L3.gw L3.iT L3.Cb L3.Dg L3.BE L3.Df L3.Bm L3.wI L3.sG L3.wQ L3.DG L3.xg L3.sS L3.yS L3.mV L3.su L3.rG L3.sY L3.sf L3.vd L3.kz L3.Aa L3.nj L3.mU L3.oB L3.ni L3.mS L3.oI L3.nF L3.nc L3.mP L3.TSl L3.ONo L3.fE L3.Cc L3.DC L3.DU L3.CT L3.D7 L3.DX L3.wz L3.yd L3.CZ L3.D6 L3.DS L3.nP L3.ng L3.mC L3.xt L3.wy L3.xy L3.xJ L3.yg L3.wB L3.xp L3.xx L3.xl L3.CU L3.Cy L3.BA L3.Cr L3.Dq L3.DD L3.j3 L3.Cw L3.DB L3.wR L3.xu L3.xT L3.ya L3.yf L3.wW L3.wc L3.xR L3.xD L3.xj L3.lk L3.ini Vf PM NZ UH VI QI QZ Ua Tr RJ L3.t9 L3.uw L3.yI L3.zd L3.yV L3.yD L3.yZ L3.zf L3.yJ Ql Qm L3.bp Sh RQ if_true if_false true_and and_true Ts SK SM RR QU So decide_eq_true_eq PV ite_false ite_true ne_eq not_false_eq_true Ss Tu Tv Tx Tz TF Ub L3.okD L3.bB L3.eqD L3.fX TH RK NW L3.iO L3.iI L3.iK L3.iJ L3.iL L3.iH L3.iM"
local macro_rules | `(tactic| walk_at "ok")=>`(tactic| (simp only[L3.ie,L3.MulOk,L3.S64,L3.bz,L3.oJ] at *;omega))
def Box (μ:Mu)(b:Addr):Prop:=∃ g s c:Int,μ b=some (.lst [.int g,.int s,.int c])/\0<=s/\s < 2147483647
structure cF (b:Addr) (μ μ':Mu):Prop where
 box:Box μ' b
 oth:∀ a,a≠b->μ' a=μ a
theorem cF.trans {b:Addr}{μ μ1 μ2:Mu}(x:cF b μ μ1)(y:cF b μ1 μ2):cF b μ μ2:=⟨y.box,λa h=>(y.oth a h).trans (x.oth a h)⟩
theorem vn (x y:Int):Oh y (x.fmod y)=Oh x y:=by
 rw[Int.fmod_def,Int.gcd_sub_mul_left_right,VA]
theorem CB (a:Int):(if a < 0 then -a else a)=(a.natAbs:Int):=by
 split<;>omega
def mz (i:Nat):ST->Mu->Nat:=λρ _=>match lk ρ i with
 | some (.int z)=>z.toNat
 | _=>0
structure Fr (p q:Int):Prop where
 q0:0 < q
 q1:q < 100000000000
 p0:-100000000000 < p
 p1:p < 100000000000
 g:Oh p q=1
theorem cP {a b:Int}(h:0 < b):a.fdiv b=a / b:=Int.fdiv_eq_ediv_of_nonneg a (Int.le_of_lt h)
theorem at2 {a b:D}{k:Int}(h0:0<=k)(h1:k < 2):(k=0/\atD [a,b] k=some a)∨(k=1/\atD [a,b] k=some b):=by
 have:k=0∨k=1:=by omega
 rcases this with rfl | rfl
 ·exact .inl ⟨rfl,by rw[t9];rfl⟩
 ·exact .inr ⟨rfl,by rw[uw];rfl⟩
theorem Cq {ns:List Int}{k:Int}(h0:0<=k)(h1:k < (ns.length:Int)):∃ z,atD (ns.map D.int) k=some (.int z):=by
 rcases O3 h0 with ⟨j,rfl⟩
 rw[bP]
 have hj:j < ns.length:=by omega
 exact ⟨ns[j],by simp[hj]⟩
theorem xN {lo:Int}{n:Nat}{d:D}(h:d∈d8 lo n):∃ k:Int,d=.int k/\lo<=k/\k < lo+n:=by
 unfold d8 at h
 rcases N5.mp h with ⟨i,hi,rfl⟩
 have:=PD.mp hi
 exact ⟨_,rfl,by omega,by omega⟩
def fL:FSp:=λds μ Q=>kcL ds λxs ds=>kcN ds ((∃ ns:List Int,xs=ns.map .int/\ns.length<=63)/\∀ μ',Q (.bl true) μ')
theorem rK:∀ ds μ Q,fL ds μ Q->ds.length=1:=λ_ _ _ h=>lcL h λ_ _ h=>by rw[(ecN h).1];rfl
theorem kC (ns:List Int)(h:ns.length<=63)(μ:Mu):fL [.ls (ns.map .int)] μ (λd _=>d=.bl true):=⟨⟨ns,rfl,h⟩,λ_=>rfl⟩
local macro_rules | `(tactic| walk_at "rd")=>zzS "L3.ah L3.TC L3.ao L3.TUn L3.cK L3.Ac L3.kZ L3.TB L3.IT L3.TOr L3.cb L3.zm L3.fJ L3.ak L3.ae L3.aG L3.bR L3.xC L3.ar L3.aU L3.aE L3.w4 L3.BD L3.lb L3.aR L3.Dx L3.bF L3.az L3.aQ L3.xF L3.fb L3.tF L3.gw L3.iT L3.df L3.ix L3.kc L3.jq L3.Mf L3.ILs L3.Cb L3.Dg L3.BE L3.Df L3.Bm L3.wI L3.sG L3.wQ L3.DG L3.xg L3.sS L3.yS L3.mV L3.su L3.rG L3.sY L3.sf L3.vd L3.kz L3.Aa L3.nj L3.mU L3.oB L3.ni L3.mS L3.oI L3.nF L3.nc L3.mP L3.TSl L3.ONo L3.fE L3.Cc L3.DC L3.DU L3.CT L3.D7 L3.DX L3.wz L3.yd L3.CZ L3.D6 L3.DS L3.nP L3.ng L3.mC L3.xt L3.wy L3.xy L3.xJ L3.yg L3.wB L3.xp L3.xx L3.xl L3.CU L3.Cy L3.BA L3.Cr L3.Dq L3.DD L3.j3 L3.Cw L3.DB L3.wR L3.xu L3.xT L3.ya L3.yf L3.wW L3.wc L3.xR L3.xD L3.xj L3.lk L3.ini Vf PM NZ UH VI QI QZ Ua Tr RJ L3.t9 L3.uw L3.yI L3.zd L3.yV L3.yD L3.yZ L3.zf L3.yJ Ql Qm L3.bp L3.nt Sh RQ if_true if_false true_and and_true Ts SK SM RR QU So decide_eq_true_eq PV ite_false ite_true ne_eq not_false_eq_true Ss Tu Tv Tx Tz TF Ub L3.okD L3.bB L3.eqD L3.fX TH RK NW L3.iO L3.iI L3.iK L3.iJ L3.iL L3.iH L3.iM"
structure IsPart (a b p q:Int):Prop where
 q0:0 < q
 g:Oh p q=1
 e:p*b=a*q
 pa:p.natAbs<=a.natAbs
 qb:q.natAbs<=b.natAbs
def eV:FSp:=λds μ Q=>kcI ds λa ds=>kcI ds λb ds=>kcN ds (Q (.int (Oh a b)) μ)
theorem oS:∀ ds μ Q,eV ds μ Q->ds.length=2:=λ_ _ _ h=>lcI h λ_ _ h=>lcI h λ_ _ h=>by rw[(ecN h).1];rfl
def k8:STr:=aE (aQ (ar rn (ae (ah 0) (ak))) (az 2)) (aE (aQ (ar rn (ae (ah 1) (ak))) (az 3)) (aE (xA (TB (ao rGt (ah 3) (TC (.int 0)))) (aE (aQ (ao gj (ah 2) (ah 3)) (az 4)) (aE (aQ (ah 3) (az 2)) (aQ (ah 4) (az 3))))) (aR (ah 2))))
theorem qJ:∀ ds μ Q,eV ds μ Q->k8 { nx:=λ_ μ'=>RT Q .non μ',rt:=RT Q } (ini 5 ds) μ:=by
 intro ds μ Q k
 replace k:=ecI k
 obtain ⟨a,ds,rfl,k⟩:=k
 replace k:=ecI k
 obtain ⟨b,ds,rfl,k⟩:=k
 replace k:=ecN k
 obtain ⟨rfl,k⟩:=k
 unfold k8
 walk_at "rd"
 refine ⟨λρ μ'=>μ'=μ/\∃ (x y:Int) (z:Option D),ρ=[some (.int a),some (.int b),some (.int x),some (.int y),z]/\0<=x/\0<=y/\Oh x y=Oh a b,mz 3,⟨rfl,_,_,_,rfl,?_,?_,?_⟩,?_⟩
 ·split<;>omega
 ·split<;>omega
 ·rw[CB,CB];unfold Oh;rw[TQ,TQ]
 ·rintro ρ _ ⟨rfl,x,y,z,rfl,x0,y0,e⟩
  walk_at "rd"
  split
  ·rename_i hy
   refine ⟨by omega,⟨_,_,_,rfl,y0,fm0 hy,?_⟩,?_⟩
   ·rw[vn];exact e
   ·have:=fm1 (a:=x) hy
    have:=fm0 (a:=x) hy
    simp only[mz,lk]
    omega
  ·rename_i hy
   have hy0:y=0:=by omega
   subst hy0
   rw[TR] at e
   have hx:x=(Oh a b:Int):=by omega
   subst hx
   exact ⟨_,.refl _,k⟩
structure FrB (lo hi p q:Int):Prop where
 q0:0 < q
 q1:q<=10000002
 g:Oh p q=1
 ge:lo*q<=p
 le:p<=hi*q
structure FrA (lo hi p q:Int):Prop extends FrB lo hi p q where
 ab:lo*q < p
structure FrL (hi p q:Int):Prop extends FrB 0 hi p q where
 ab:0 < p
 be:p < hi*q
theorem kJ {a b:Int}(b0:0 < b):∃ g p q:Int,0 < g/\a=g*p/\b=g*q/\a.fdiv (Oh a b)=p/\b.fdiv (Oh a b)=q/\0 < q/\q<=b/\Oh p q=1:=by
 have gp:0 < Oh a b:=Q1 a (by omega)
 have gz:0 < (Oh a b:Int):=by omega
 obtain ⟨c,hc⟩:=Int.gcd_dvd_left a b
 obtain ⟨d,hd⟩:=Int.gcd_dvd_right a b
 have g1:=Int.gcd_ediv_gcd_ediv_gcd gp
 have e1:a / (Oh a b:Int)=c:=Rb (by omega) hc
 have e2:b / (Oh a b:Int)=d:=Rb (by omega) hd
 rw[e1,e2] at g1
 refine ⟨_,c,d,gz,hc,hd,by rw[cP gz];exact e1,by rw[cP gz];exact e2,?_,?_,g1⟩
 all_goals generalize (Oh a b:Int)=g at *
 ·rcases Uc d 0 with h | h | h
  ·have:=Rt gz h;omega
  ·subst h;omega
  ·exact h
 ·have d0:0 < d:=by
   rcases Uc d 0 with h | h | h
   ·have:=Rt gz h;omega
   ·subst h;omega
   ·exact h
  have h:=Ob (show (1:Int)<=g by omega) (show (0:Int)<=d by omega)
  omega
theorem jj:(Nr "still" = Nr "step")=False:=eq_false (by decide +kernel)
theorem iz:(Nr "still" = Nr "swell")=False:=eq_false (by decide +kernel)
theorem i9:(Nr "still" = Nr "heed")=False:=eq_false (by decide +kernel)
theorem jc:(Nr "still" = Nr "calm")=False:=eq_false (by decide +kernel)
theorem pN:(Nr "step" = Nr "still")=False:=eq_false (by decide +kernel)
theorem fG:(Nr "step" = Nr "swell")=False:=eq_false (by decide +kernel)
theorem eW:(Nr "step" = Nr "heed")=False:=eq_false (by decide +kernel)
theorem jN:(Nr "step" = Nr "calm")=False:=eq_false (by decide +kernel)
theorem n5:(Nr "swell" = Nr "still")=False:=eq_false (by decide +kernel)
theorem oV:(Nr "swell" = Nr "step")=False:=eq_false (by decide +kernel)
theorem dO:(Nr "swell" = Nr "heed")=False:=eq_false (by decide +kernel)
theorem jf:(Nr "swell" = Nr "calm")=False:=eq_false (by decide +kernel)
theorem pL:(Nr "heed" = Nr "still")=False:=eq_false (by decide +kernel)
theorem rk:(Nr "heed" = Nr "step")=False:=eq_false (by decide +kernel)
theorem ja:(Nr "heed" = Nr "swell")=False:=eq_false (by decide +kernel)
theorem jO:(Nr "heed" = Nr "calm")=False:=eq_false (by decide +kernel)
theorem pP:(Nr "calm" = Nr "still")=False:=eq_false (by decide +kernel)
theorem qM:(Nr "calm" = Nr "step")=False:=eq_false (by decide +kernel)
theorem jd:(Nr "calm" = Nr "swell")=False:=eq_false (by decide +kernel)
theorem sQ:(Nr "calm" = Nr "heed")=False:=eq_false (by decide +kernel)
theorem ko:N6 (Nr "still")=true:=by decide +kernel
theorem mJ:N6 (Nr "step")=true:=by decide +kernel
theorem kG:N6 (Nr "swell")=true:=by decide +kernel
theorem ou:N6 (Nr "heed")=true:=by decide +kernel
theorem nG:N6 (Nr "calm")=true:=by decide +kernel
abbrev fr (p q:Int):D:=.tup [.int p,.int q]
inductive uK:Str->D->Prop
 | lE {p q:Int} (w:FrB 1 60 p q):uK (Nr "still") (.tup [.str "still", fr p q])
 | calm {p q r s x y l h:Int} (w:FrB 1 60 p q) (t:FrB 1 60 r s) (wt:p*s<=r*q) (u:FrA 0 60 x y) (l0:0<=l) (lh:l<=h) (h1:h<=60):uK (Nr "calm") (.tup [.str "calm", fr p q,fr x y,.int l,.int h,fr r s])
 | Du {p q r s x y a b:Int} (w:FrB 1 60 p q) (t:FrB 1 60 r s) (wt:p*s<=r*q) (u:FrA 0 60 x y) (g:FrA 0 1 a b):uK (Nr "heed") (.tup [.str "heed", fr p q,fr x y,fr a b,fr r s])
 | step {p q r s x y a b:Int} (w:FrB 1 60 p q) (t:FrB 1 60 r s) (wt:p*s<=r*q) (u:FrA 0 60 x y) (g:FrL 1 a b):uK (Nr "step") (.tup [.str "step", fr p q,fr x y,fr a b,fr r s])
 | m9 {p q r s x y a b:Int} (w:FrB 1 60 p q) (t:FrB 1 60 r s) (wt:p*s<=r*q) (u:FrA 1 60 x y) (g:FrL 1 a b):uK (Nr "swell") (.tup [.str "swell", fr p q,fr x y,fr a b,fr r s])
def dh:List Str:=[Nr "still", Nr "step", Nr "swell", Nr "heed", Nr "calm"]
section
open PySem PySem.Spec PyProof.Rows L2
def Cn (x:D)(f:Str->Prop):Prop:=match x with
 | .str s=>f s
 | _=>False
def bH (kvs:List (Str×D))(s:Str):Option D:=(kvs.find? λkv=>decide (kv.1=s)).map (·.2)
def jE (K:Nt):List Pf->List (Str×D)->Prop
 | [],[]=>True
 | e::es,(x,d)::r=>(∃ t,e.key=.str x t)/\(∃ v,RelV v e.val/\∀ H,Dp K H v d)/\jE K es r
 | _,_=>False
theorem tP (s x:Str)(t:Tok):Om s (.str x t)=decide (x=s):=by
 by_cases h:x=s
 ·subst h;simp[Om]
 ·rw[decide_eq_false h];simp[Om];first | exact h | exact λz=>h z.symm
theorem jE.find {K:Nt}(s:Str):∀ {es:List Pf} {kvs:List (Str×D)},jE K es kvs->
  match bH kvs s with
  | none=>(es.find? λe=>Om s e.key)=none
  | some d=>∃ e v,(es.find? λe=>Om s e.key)=some e/\RelV v e.val/\∀ H,Dp K H v d
 | [],[],_=>rfl
 | e::es,(x,d)::r,h=>by
  obtain ⟨⟨t,ht⟩,⟨v,rv,pv⟩,hr⟩:=h
  have ih:=jE.find s hr
  unfold bH at ih ⊢
  rw[Ov,Ov,ht,tP]
  by_cases hx:x=s
  ·simp only[decide_eq_true hx,Option.map_some]
   exact ⟨e,v,rfl,rv,pv⟩
  ·simp only[decide_eq_false hx]
   exact ih
 | [],_::_,h=>Ny h
 | _::_,[],h=>Ny h
structure GT (P:U8) (K:Nt) (mg:Str->Option Nu) (x:Str) (kvs:List (Str×D)):Prop where
 ex:∃ (a:Addr) (es:Array Pf) (n:Nat),mg x=some (.ref a)/\K.lookup a=some ⟨.type "dict", none,.dict es n,#[]⟩/\Q2 P es.toList/\(a == QF)=false/\jE K es.toList kvs
section
variable {X:Cx} {a b c e:NX} {Ta Tb Te:ETr} {pos gpos:Pos} {x:Str} {kvs:List (Str×D)}
theorem Bt {K:Nt}{es:Array Pf}{s:Str}(h:jE K es.toList kvs):match bH kvs s with
  | none=>TU Om es s=none
  | some d=>∃ u v,TU Om es s=some u/\RelV v u/\∀ H,Dp K H v d:=by
 have q:=h.find s
 have e:TU Om es s=(es.toList.find? λe=>Om s e.key).map (·.val):=by
  unfold TU;rw[← Array.find?_toList]
 rw[e]
 split at q
 ·rw[q];rfl
 ·rename_i d hn
  obtain ⟨e,v,h1,h2,h3⟩:=q
  exact ⟨_,v,by rw[h1];rfl,h2,h3⟩
def Ja (p:Addr)(es:Array Pf):L2.R2:=λx y H Q=>∃ s u v,x=.ref p/\y=.str s/\TU Om es s=some u/\RelV v u/\Q v H
theorem HG {p:Addr}{es:Array Pf}{n:Nat}(hl:X.K.lookup p=some ⟨.type "dict", none,.dict es n,#[]⟩)(hk:Q2 X.w.params es.toList):IxR X (Ja p es):=by
 intro value slice pins s σ H x y v u Q I rx ry h hs
 obtain ⟨z,u',v',rfl,rfl,hf,rv,q⟩:=h
 cases (show v=OK p from rx)
 obtain ⟨t,rfl⟩:=(show ∃ t,u=QE z t from ry)
 have hm:=UN (prog:=X.prog) I.kIn hl hk
 exact tail_any hm.typeIs slot_dict_getitem.lookup (wpAny_getItem_of (strKind_is X.prog X.w z t) hm hf ⟨v',H,I.tok _,rv,q⟩) hs
def v5 (kvs:List (Str×D))(Te:ETr):ETr:=λρ μ Q=>Te ρ μ λx μ1=>Cn x λs=>kO (bH kvs s) λd=>Q d μ1
theorem BO (hg:Gl X x)(h:GT X.w.params X.K X.mg x kvs)(hb:LE X b Tb)(hs:ml b:=by intro _ _;rfl)(hd:(x == ("__debug__" : Str))=false:=by decide):LE X (.Subscript (.Name x gpos) b pos) (v5 kvs Tb):=by
 obtain ⟨p,es,n,hm,hl,hk,hn,hr⟩:=h.ex
 obtain ⟨tb,pb,sb⟩:=hb.ex
 refine ⟨_,CO (HG hl hk) (sU hg hm (v:=.ref p) rfl hd) pb hs,λσ H ρ μ Q Q' rl hh k=>sb σ H ρ μ _ _ rl hh λy H2 dy μ2 t2 m2 p2 h2=>?_⟩
 cases p2 with
 | str s=>
  have q:=Bt (s:=s) hr
  obtain ⟨d,ed,h3⟩:=rN (show kO (bH kvs s) λd=>Q d μ2 from h2)
  rw[ed] at q
  obtain ⟨u,v,h4,h5,h6⟩:=q
  exact ⟨s,u,v,rfl,rfl,h4,h5,k v H2 d μ2 t2 m2 (h6 H2) h3⟩
 | _=>exact Ny h2
def Cu (neg:Bool)(p:Addr)(es:Array Pf):L2.R2:=λx y H Q=>∃ s,y=.ref p/\x=.str s/\Q (.bl (if neg then !(TU Om es s).isSome else (TU Om es s).isSome)) H
theorem vv {p:Addr}{es:Array Pf}{n:Nat}(hl:X.K.lookup p=some ⟨.type "dict", none,.dict es n,#[]⟩)(hk:Q2 X.w.params es.toList)(hn:(p == QF)=false):OpR X (Ou .NotIn) (Cu true p es):=by
 intro pins s σ H x y v u Q I rx ry h
 obtain ⟨z,rfl,rfl,q⟩:=h
 cases (show u=OK p from ry)
 obtain ⟨t,rfl⟩:=(show ∃ t,v=QE z t from rx)
 exact wpAny_notIn_of (strKind_is X.prog X.w z t) hn (UN (prog:=X.prog) I.kIn hl hk) ⟨.bl _,H,I.tok _,rfl,q⟩
def rR (neg:Bool)(kvs:List (Str×D))(Te:ETr):ETr:=λρ μ Q=>Te ρ μ λx μ1=>Cn x λs=>Q (.bl (if neg then !(bH kvs s).isSome else (bH kvs s).isSome)) μ1
theorem Bz {K:Nt}{es:Array Pf}{s:Str}(h:jE K es.toList kvs):(TU Om es s).isSome=(bH kvs s).isSome:=by
 have q:=Bt (s:=s) h
 cases e:bH kvs s with
 | none=>rw[e] at q;simp only at q;rw[q];rfl
 | some d=>rw[e] at q;obtain ⟨u,v,h1,_⟩:=q;rw[h1];rfl
theorem AJ {K:Nt}{p:Addr}{es:Array Pf}{ta:TE}{neg:Bool}(h:jE K es.toList kvs)(sa:Sim K ta Ta):Sim K (tOp (Cu neg p es) ta (tC (.ref p))) (rR neg kvs Ta):=λσ H ρ μ Q Q' rl hh k=>
 sa σ H ρ μ _ _ rl hh λy H2 dy μ2 t2 m2 p2 h2=>by
  cases p2 with
  | str s=>exact ⟨s,rfl,rfl,k _ H2 _ μ2 t2 m2 (.bl _) (by rw[Bz h];exact h2)⟩
  | _=>exact Ny h2
theorem ve (hg:Gl X x)(h:GT X.w.params X.K X.mg x kvs)(ha:LE X a Ta)(hm':Pd .NotIn (.Name x gpos)=false:=by rfl)(hd:(x == ("__debug__" : Str))=false:=by decide):LT X (.Compare a [.NotIn] [.Name x gpos] pos) (TB (rR true kvs Ta)):=by
 obtain ⟨p,es,n,hm,hl,hk,hn,hr⟩:=h.ex
 obtain ⟨ta,pa,sa⟩:=ha.ex
 exact ⟨_,yY (vv hl hk hn) pa (sU hg hm (v:=.ref p) rfl hd) hm',wC (AJ hr sa)⟩
end
mutual
def yz (K:Nt):Nat->Nu->D->Bool
 | _,.none,.non=>true
 | _,.bool b,.bl c=>b == c
 | _,.int i _,.int j=>decide (i=j)
 | _,.str x _,.str y=>decide (x=y)
 | n+1,.ref a,.tup ds=>match K.lookup a with
  | some ⟨.type "tuple", none,.seq its _,_⟩=>decide (its.size<=sizeLine)&&sW K n its.toList ds
  | _=>false
 | _,_,_=>false
def sW (K:Nt):Nat->List Nu->List D->Bool
 | _,[],[]=>true
 | n,u::us,d::ds=>yz K n u d&&sW K n us ds
 | _,_,_=>false
end
mutual
theorem uC {K:Nt}:∀ {n:Nat} {u:Nu} {d:D},yz K n u d=true->∃ v,RelV v u/\∀ H,Dp K H v d:=by
 intro n u d h
 unfold yz at h
 split at h
 ·exact ⟨.non,rfl,λ_=>.non⟩
 ·obtain rfl:=beq_iff_eq.mp h;exact ⟨.bl _,rfl,λ_=>.bl _⟩
 ·obtain rfl:=of_decide_eq_true h;exact ⟨.int _,⟨_,rfl⟩,λ_=>.int _⟩
 ·obtain rfl:=of_decide_eq_true h;exact ⟨.str _,⟨_,rfl⟩,λ_=>.str _⟩
 ·split at h
  ·rename_i hl
   simp only[Nz,decide_eq_true_eq] at h
   obtain ⟨vs,r,p⟩:=qi h.2
   exact ⟨.ref _,rfl,λH=>.tup (.inr ⟨_,_,_,hl,rfl,rfl,rfl,h.1,r⟩) (p H)⟩
  ·cases h
 ·cases h
theorem qi {K:Nt}:∀ {n:Nat} {us:List Nu} {ds:List D},sW K n us ds=true->∃ vs,Vals vs us/\∀ H,DpL K H vs ds:=by
 intro n us ds h
 unfold sW at h
 split at h
 ·exact ⟨[],.nil,λ_=>.nil⟩
 ·simp only[Nz] at h
  obtain ⟨v,r,p⟩:=uC h.1
  obtain ⟨vs,rs,ps⟩:=qi h.2
  exact ⟨v::vs,.cons r rs,λH=>.cons (p H) (ps H)⟩
 ·cases h
end
def p5 (K:Nt):List Pf->List (Str×D)->Bool
 | [],[]=>true
 | e::es,(x,d)::r=>(match e.key with
  | .str y _=>decide (y=x)
  | _=>false)&&yz K 9 e.val d&&p5 K es r
 | _,_=>false
theorem vy {K:Nt}:∀ {es:List Pf} {kvs:List (Str×D)},p5 K es kvs=true->jE K es kvs
 | [],[],_=>Qg
 | e::es,(x,d)::r,h=>by
  unfold p5 at h
  simp only[Nz] at h
  obtain ⟨⟨h1,h2⟩,h3⟩:=h
  refine ⟨?_,uC h2,vy h3⟩
  split at h1
  ·rename_i y t hk
   obtain rfl:=of_decide_eq_true h1
   exact ⟨t,hk⟩
  ·cases h1
 | [],_::_,h=>by simp[p5] at h
 | _::_,[],h=>by simp[p5] at h
theorem Me {K:Nt}{w:N0}{h:Heap}{mg:Str->Option Nu}{x:Str}{p:Addr}{es:Array Pf}{n:Nat}{kvs:List (Str×D)}(X:K.In h)(G:h.Ns Oq mg)(a:Sf K Oq x=some (some (.ref p)))
  (l:K.lookup p=some ⟨.type "dict", none,.dict es n,#[]⟩) (hk:Q2 w.params es.toList) (hn:(p == QF)=false) (r:p5 K es.toList kvs=true):GT w.params K mg x kvs:=⟨p,es,n,RI X G a,l,hk,hn,vy r⟩
section
variable {X:Cx} {a b:NX} {Ta Tb:ETr} {pos:Pos}
end
end
section
open PySem PySem.Spec PyProof.Rows L2
def putD {κ:Type} [DecidableEq κ] (kvs:List (κ×D))(k:κ)(v:D):List (κ×D):=
 if (kvs.any λkv=>decide (kv.1=k))=true then kvs.map (λkv=>if kv.1=k then (kv.1,v) else kv) else kvs++[(k,v)]
theorem DpK.nil {κ:Type}{K:Nt}{H:Hp}:DpK (κ:=κ) K H [] []:=⟨rfl,.nil⟩
theorem DpK.cons {κ:Type}{K:Nt}{H:Hp}{k:κ}{v:V}{d:D}{xs:List (κ×V)}{kvs:List (κ×D)}(h:Dp K H v d)(r:DpK K H xs kvs):DpK K H ((k,v)::xs) ((k,d)::kvs):=
 ⟨by simp[r.1],.cons h r.2⟩
theorem DpK.ind {κ:Type}{K:Nt}{H:Hp}{P:List (κ×V)->List (κ×D)->Prop}(h0:P [] [])(h1:∀ k v d xs kvs,Dp K H v d->DpK K H xs kvs->P xs kvs->P ((k,v)::xs) ((k,d)::kvs)) :
  ∀ {xs:List (κ×V)} {kvs:List (κ×D)},DpK K H xs kvs->P xs kvs
 | [],[],_=>h0
 | [],_::_,h=>by cases h.1
 | _::_,[],h=>by cases h.1
 | (k,v)::xs,(k',d)::kvs,h=>by
  obtain ⟨h2,h3⟩:=h
  simp only[N7,Su] at h2
  obtain ⟨rfl,h2⟩:=h2
  cases h3 with
  | cons p l=>exact h1 k v d xs kvs p ⟨h2,l⟩ (DpK.ind h0 h1 ⟨h2,l⟩)
theorem DpK.any {κ:Type} [DecidableEq κ] {K:Nt}{H:Hp}{xs:List (κ×V)}{kvs:List (κ×D)}(h:DpK K H xs kvs)(k:κ):(xs.any λkv=>decide (kv.1=k))=kvs.any λkv=>decide (kv.1=k):=by
 refine DpK.ind (P:=λxs kvs=>(xs.any λkv=>decide (kv.1=k))=kvs.any λkv=>decide (kv.1=k)) rfl (λj v d xs kvs p _ ih=>?_) h
 rw[QP,QP,ih]
theorem DpK.length {κ:Type}{K:Nt}{H:Hp}{xs:List (κ×V)}{kvs:List (κ×D)}(h:DpK K H xs kvs):xs.length=kvs.length:=by
 have:=h.2.length
 simpa using this
theorem ER {K:Nt}{H:Hp}{μ:Mu}{q:Addr}{ys:List (Key×V)}{ds:List (Key×D)}(m:bW K H μ)(hq:H q=none)(l:DpK K H ys ds):bW K (L2.upd H q (.dK ys)) (up μ q (.dct ds)):=λz y ez=>by
 by_cases zq:z=q
 ·subst zq
  rw[bp] at ez;cases ez
  exact ⟨ys,aP,l.mono (.new hq)⟩
 ·rw[cW zq] at ez
  exact di m hq z y ez
section
variable {X:Cx} {o i a b c e value:NX} {To Ti Ta Tb Te:ETr} {pos tpos:Pos}
theorem ES:LE X (.Dict [] [] pos) (λρ μ Q=>∀ p,μ p=none->Q (.obj p) (up μ p (.dct []))):=
 ⟨_,BS,λσ H ρ μ Q Q' rl h k p hp=>k _ _ _ _ (.new hp) (ER rl.mu hp .nil) (.obj p) (h p (rl.mu.free hp))⟩
theorem DpK.zip {K:Nt}{H:Hp}:∀ {ks:List Key} {vs:List V} {ds:List D},DpL K H vs ds->DpK K H (ks.zip vs) (ks.zip ds)
 | [],_,_,_=>by simp;exact .nil
 | _::_,_,_,.nil=>by simp;exact .nil
 | k::ks,_,_,.cons p l=>.cons p (DpK.zip l)
end
end
section
open PySem PySem.Spec PyProof.Rows L2
inductive gD {prog:NO} {w:N0} {κ:Type} [DecidableEq κ] (knd:S5 prog w κ) (h:Heap):List Nu->List (κ×Nu)->Prop
 | nil:gD knd h [] []
 | cons {a:Addr} {u v:Nu} {k:κ} {us:List Nu} {r:List (κ×Nu)}:IsTup h a #[u,v]->knd.is k u=true->gD knd h us r->gD knd h (.ref a::us) ((k,v)::r)
section
variable {prog:NO} {w:N0} {κ:Type} [DecidableEq κ] {knd:S5 prog w κ}
theorem gD.keeps {h h':Heap}(kp:∀ b o,h.get? b=some o->o.cls=.type "tuple" -> h'.get? b=some o):∀ {us:List Nu} {r:List (κ×Nu)},gD knd h us r->gD knd h' us r
 | _,_,.nil=>.nil
 | _,_,.cons t k r=>.cons (by obtain ⟨o,e,c,n,d⟩:=t;exact ⟨o,kp _ o e c,c,n,d⟩) k (r.keeps kp)
end
end
section
open PySem PySem.Spec PyProof.Rows L2
section
variable {prog:NO} {w:N0} {κ:Type} [DecidableEq κ] {knd:S5 prog w κ}
end
def dK:Key->D
 | .inl i=>.int i
 | .inr s=>.str s
def IC (kv:Key×D):D:=.tup [dK kv.1,kv.2]
inductive gI (K:Nt) (H:Hp):List V->List (Key×V)->Prop
 | nil:gI K H [] []
 | cons {a:Addr} {k:Key} {v:V} {ys:List V} {r:List (Key×V)}:SqT K H a [kV k,v]->gI K H ys r->gI K H (.ref a::ys) ((k,v)::r)
theorem gI.at {X:Cx}{pins:List (Addr×Obj)}{σ:L2.St}{H:Hp}{s:Nv}(I:Inv X pins σ H s):∀ {ys:List V} {kvs:List (Key×V)} {us:List Nu},gI X.K H ys kvs->Vals ys us->∃ r,gD (dB X.prog X.w) s.heap us r/\KV kvs r
 | _,_,_,.nil,.nil=>⟨[],.nil,.nil⟩
 | _,_,_,@gI.cons _ _ a k v ys r sq h,.cons ru rs=>by
  cases (show _=OK a from ru)
  obtain ⟨r,p,q⟩:=h.at I rs
  obtain ⟨its,vs,it,_⟩:=I.tuple sq
  cases vs with | @cons _ u1 _ _ r1 vs=>cases vs with | @cons _ u2 _ _ r2 vs=>
  cases vs
  exact ⟨(k,u2)::r,.cons it (GW r1) p,.cons ⟨rfl,r2⟩ q⟩
theorem Ip {K:Nt}{H:Hp}{v:V}{k:Key}(h:Dp K H v (dK k)):v=kV k:=by
 cases k with
 | inl i=>cases h;rfl
 | inr s=>cases h;rfl
theorem gI.of {K:Nt}{H:Hp}:∀ {kvs:List (Key×D)} {xs:List V},DpL K H xs (kvs.map IC)->∃ r,gI K H xs r/\DpK K H r kvs
 | [],_,h=>by cases h;exact ⟨[],.nil,.nil⟩
 | kv::kvs,_,h=>by
  obtain ⟨k,d⟩:=kv
  cases h with
  | cons p l=>
   obtain ⟨r,h1,h2⟩:=gI.of l
   cases p with
   | tup sq lp=>
    cases lp with | cons p1 lp=>cases lp with | cons p2 lp=>
    cases lp
    cases Ip p1
    exact ⟨(k,_)::r,.cons sq h1,.cons p2 h2⟩
end
section
open PySem PySem.Spec PyProof.Rows L2
section
variable {X:Cx} {o i a b c e value:NX} {To Ti Ta Tb Te:ETr} {pos tpos apos cpos:Pos}
end
noncomputable def oA (h:Heap) (dx:PyData) (y:Nu):Bool:=@decide (∃ d as,Reads h y d as/\Va d=true/\Py d dx=true) (Qn _)
theorem E6 {h:Heap}{dx d:PyData}{y:Nu}{as:List Addr}(r:Reads h y d as)(hd:d.canLay0=true):oA h dx y=Py d dx:=by
 unfold oA
 cases e:Py d dx with
 | true=>exact @decide_eq_true _ (Qn _) ⟨d,as,r,hd,e⟩
 | false=>
  refine @decide_eq_false _ (Qn _) ?_
  rintro ⟨d',as',r',hd',e'⟩
  cases SeqAt.Reads.unique _ _ _ _ _ hd r r'
  rw[e] at e';cases e'
theorem zi {n:Nat}:∀ {ds:List D} {d:D},bB n ds=true->d∈ds->okD n d=true
 | x::r,d,h,hm=>by
  have h':okD n x=true/\bB n r=true:=by simpa[bB] using h
  rcases NT.mp hm with rfl | hm
  ·exact h'.1
  ·exact zi h'.2 hm
section
variable {X:Cx} {pins:List (Addr×Obj)} {σ:L2.St} {H:Hp} {s:Nv}
theorem item_at (I:Inv X pins σ H s){vs:List V}{ds:List D}{us:List Nu}(l:DpL X.K H vs ds)(r:Vals vs us)(ok:bB 38 ds=true){dy:D}{y:Nu}{bs:List Addr}(oy:okD 38 dy=true)(ry:Reads s.heap y (toP dy) bs)(hu:X.A.units+64 < cLine)
  {m:Nat} {u:Nu} (hm:us[m]? = some u):∃ d,ds[m]? = some d/\oA s.heap (toP dy) u=eqD d dy/\Vg X.A.in1 s u y (oA s.heap (toP dy) u):=by
 have hlt:m < vs.length:=by rw[r.length];exact (Ot.mp hm).1
 obtain ⟨u',e1,rv⟩:=r.get (N2 hlt)
 rw[hm] at e1;cases e1
 obtain ⟨d,ed,pd⟩:=l.get' (N2 hlt)
 have od:=zi ok (QT ed)
 obtain ⟨as,ra⟩:=cJ I pd od rv
 obtain ⟨l1,d1⟩:=gJ 38 d od
 obtain ⟨l2,d2⟩:=gJ 38 dy oy
 have e:=E6 (dx:=toP dy) ra l1
 refine ⟨d,ed,by rw[e,mf 38 38 d dy od oy],?_⟩
 rw[e]
 exact SeqAt.eqAt_reads _ _ _ s _ _ _ _ ra ry l1 l2 (by have:=Sm (toP d).depth (toP dy).depth;rw[Around.in1_units];omega)
end
def Aw (ds:List D)(x:D):Option Nat:=ds.findIdx? λy=>eqD y x
theorem Ce {X:Cx}(hu:X.A.units+64 < cLine):MtM X "list.index" (λx vs H Q=>∃ p xs y ds dy,∃ j:Nat,x=.ref p/\vs=[y]/\SqL X.K H p xs/\DpL X.K H xs ds/\Dp X.K H y dy/\bB 38 ds=true/\okD 38 dy=true/\Aw ds dy=some j/\j < 1000000/\Q (.int j) H):=by
 intro pins s σ H x vs v us Q I rx rv h
 obtain ⟨p,xs,y,ds,dy,j,rfl,rfl,sq,l,py,ok,oy,hj,hj2,q⟩:=h
 cases (show v=OK p from rx)
 obtain ⟨u,rfl,ru⟩:=rv.one
 obtain ⟨its,r,⟨o,n,e,c,hd,hdat⟩,_⟩:=I.list sq
 obtain ⟨bs,rb⟩:=cJ I py oy ru
 have he:s.heap.get? p=some ⟨.type "list", none,.seq its.toArray n,o.slots⟩:=by
  rw[e];obtain ⟨c',dd,dt,sl⟩:=o;simp only at c hd hdat;subst c hd hdat;rfl
 unfold Aw at hj
 rw[List.findIdx?_eq_some_iff_getElem] at hj
 obtain ⟨h1,h2,h3⟩:=hj
 have hl:ds.length=its.length:=by rw[← l.length,r.length]
 have at':∀ m (hm:m < its.toArray.size),∃ d,ds[m]? = some d/\oA s.heap (toP dy) its.toArray[m]=eqD d dy/\Vg X.A.in1 s its.toArray[m] u (oA s.heap (toP dy) its.toArray[m]):=λm hm=>
  item_at I l r ok oy rb hu (by simp at hm ⊢)
 refine call_meets F.slot_list_index ⟨_,he,rfl⟩ F.entry_list_index (F.args_list_index_2 _ _) (SeqAt.list_indexAt p its.toArray n none o.slots u (oA s.heap (toP dy)) j (by simp;omega) (by omega) ?_ ?_) ⟨he,λw hw=>?_,?_⟩
 ·obtain ⟨d,e1,e2,_⟩:=at' j (by simp;omega)
  rw[e2]
  rw[N2 h1] at e1;cases e1
  exact h2
 ·intro m hm hlt
  obtain ⟨d,e1,e2,_⟩:=at' m hm
  rw[e2]
  have hm':m < ds.length:=by simp at hm;omega
  rw[N2 hm'] at e1;cases e1
  have:=h3 m hlt
  simpa using this
 ·obtain ⟨m,hm,rfl⟩:=Sx.mp hw
  obtain ⟨d,_,_,e3⟩:=at' m hm
  exact e3
 ·exact ⟨.int j,H,I.tok _,⟨_,rfl⟩,q⟩
section
variable {X:Cx} {o i a b c e value:NX} {To Ti Ta Tb Te:ETr} {pos tpos apos cpos:Pos}
def Af (μ:Mu)(x:D)(f:List D->Prop):Prop:=match x with
 | .ls ds=>f ds
 | .obj a=>kL μ a f
 | _=>False
theorem vA {K:Nt}{H:Hp}{μ:Mu}{x:V}{dx:D}{f:List D->Prop}(m:bW K H μ)(p:Dp K H x dx)(h:Af μ dx f):∃ q xs ds,x=.ref q/\SqL K H q xs/\DpL K H xs ds/\f ds:=by
 cases p with
 | ls sq l=>exact ⟨_,_,_,rfl,sq.sq,l,h⟩
 | obj q=>
  obtain ⟨ds,e0,h⟩:=cC h
  obtain ⟨xs,ex,l⟩:=m q _ e0
  exact ⟨q,xs,ds,rfl,SqL.of ex,l,h⟩
 | _=>exact Ny h
def xn (To Ti:ETr):ETr:=λρ μ Q=>To ρ μ λx μ1=>Af μ1 x λ_=>Ti ρ μ1 λy μ2=>Af μ2 x λds=>(bB 38 ds=true/\okD 38 y=true)/\kN (Aw ds y) λj=>j < 1000000/\Q (.int j) μ2
theorem C2 (hu:X.A.units+64 < cLine)(ho:LE X o To)(hi:LE X i Ti)
  (hbase:QO o "index" X.env (OF o X.env)=OF o X.env:=by rfl)
  (hfew:((N8 cpos (Nx [i] X.env)).all (λx=>!x.1)&&(T6 cpos (RA [] X.env)).all (λx=>x.1.isSome)
   && decide (([i]:List NX).length+([]:List QN).length+(if ([]:List QN).isEmpty then 0 else 1) < 30))=true:=by rfl)
  (hline:(apos.endLine == cpos.line)=true:=by rfl) (hs:Nx [i] X.env=(false,OF i X.env)::Nx [] X.env:=by rfl) (hplain:(N8 cpos (Nx [] X.env)).any (·.1)=false:=by rfl) :
  LE X (.Call (.Attribute o "index" apos) [i] [] cpos) (xn To Ti):=by
 obtain ⟨to,po,so⟩:=ho.ex
 obtain ⟨ti,pi,si⟩:=hi.ex
 refine ⟨_,G5 RP PySem.F.slot_list_index PySem.F.type_list_index (Ce hu) po (gv pi kK hs) hbase hfew hline hs hplain,λσ H ρ μ Q Q' rl h k=>so σ H ρ μ _ _ rl h λx H1 dx μ1 t1 m1 p1 h1=>?_⟩
 obtain ⟨q,xs0,ds0,rfl,sq0,l0,h1⟩:=vA m1 p1 h1
 refine ⟨.inl ⟨rfl,_,sq0⟩,si σ H1 ρ μ1 _ _ (rl.go t1 m1) h1 λy H2 dy μ2 t2 m2 p2 h2=>?_⟩
 obtain ⟨q',xs,ds,eq,sq,l,h2⟩:=vA m2 (p1.mono t2) h2
 cases eq
 obtain ⟨⟨o1,o2⟩,h2⟩:=h2
 obtain ⟨j,ej,hj,h2⟩:=xf h2
 exact ⟨q,xs,y,ds,dy,j,rfl,rfl,sq,l,p2,o1,o2,ej,hj,k _ H2 _ μ2 (t1.trans t2) m2 (.int _) h2⟩
def inG (x:D)(ds:List D):Bool:=ds.any λy=>eqD y x
def CL (K:Nt)(neg:Bool):L2.R2:=λx y H Q=>∃ p xs ds dx,y=.ref p/\(SqL K H p xs∨SqT K H p xs)/\DpL K H xs ds/\Dp K H x dx/\bB 38 ds=true/\okD 38 dx=true/\Q (.bl (if neg then !inG dx ds else inG dx ds)) H
theorem sd {pins:List (Addr×Obj)}{σ:L2.St}{H:Hp}{s:Nv}(I:Inv X pins σ H s)(hu:X.A.units+64 < cLine){vs:List V}{ds:List D}{us:List Nu}(l:DpL X.K H vs ds)(r:Vals vs us)(ok:bB 38 ds=true){dy:D}{y:Nu}{bs:List Addr}(oy:okD 38 dy=true)(ry:Reads s.heap y (toP dy) bs) :
  (∀ w,w∈us.toArray->Vg X.A.in1 s w y (oA s.heap (toP dy) w))/\us.toArray.any (oA s.heap (toP dy))=inG dy ds:=by
 have hl:ds.length=us.length:=by rw[← l.length,r.length]
 constructor
 ·intro w hw
  obtain ⟨m,hm,rfl⟩:=Sx.mp hw
  obtain ⟨d,_,_,e3⟩:=item_at I l r ok oy ry hu (m:=m) (u:=us.toArray[m]) (by simp at hm ⊢)
  exact e3
 ·unfold inG
  rw[show us.toArray.any (oA s.heap (toP dy))=us.any (oA s.heap (toP dy)) by simp]
  rw[UO,QJ,QJ]
  constructor
  ·rintro ⟨w,hw,e⟩
   obtain ⟨m,hm,rfl⟩:=SN.mp hw
   obtain ⟨d,e1,e2,_⟩:=item_at I l r ok oy ry hu (m:=m) (u:=us[m]) (by simp)
   exact ⟨d,QT e1,by rw[← e2];exact e⟩
  ·rintro ⟨d,hd,e⟩
   obtain ⟨m,hm,rfl⟩:=SN.mp hd
   obtain ⟨d',e1,e2,_⟩:=item_at I l r ok oy ry hu (m:=m) (u:=us[m]'(by omega)) (by simp)
   rw[N2 hm] at e1;cases e1
   exact ⟨us[m]'(by omega),QK _,by rw[e2];exact e⟩
theorem J2 (hu:X.A.units+64 < cLine):OpR X (Ou .In) (CL X.K false):=by
 intro pins s σ H x y v u Q I rx ry h
 obtain ⟨p,xs,ds,dx,rfl,hq,l,px,o1,o2,q⟩:=h
 cases (show u=OK p from ry)
 obtain ⟨bs,rb⟩:=cJ I px o2 rx
 rcases hq with hq | hq
 ·obtain ⟨its,r,pl,hz⟩:=I.list hq
  obtain ⟨h1,h2⟩:=sd I hu l r o1 o2 rb
  exact SeqAt.in_listAt _ pl.isList h1 ⟨.bl _,H,I,rfl,by rw[h2];exact q⟩
 ·obtain ⟨its,r,pl,hz⟩:=I.tuple hq
  obtain ⟨h1,h2⟩:=sd I hu l r o1 o2 rb
  exact SeqAt.in_tupleAt _ pl h1 ⟨.bl _,H,I,rfl,by rw[h2];exact q⟩
theorem zk (hu:X.A.units+64 < cLine):OpR X (Ou .NotIn) (CL X.K true):=by
 intro pins s σ H x y v u Q I rx ry h
 obtain ⟨p,xs,ds,dx,rfl,hq,l,px,o1,o2,q⟩:=h
 cases (show u=OK p from ry)
 obtain ⟨bs,rb⟩:=cJ I px o2 rx
 rcases hq with hq | hq
 ·obtain ⟨its,r,pl,hz⟩:=I.list hq
  obtain ⟨h1,h2⟩:=sd I hu l r o1 o2 rb
  exact SeqAt.notIn_listAt _ pl.isList h1 ⟨.bl _,H,I,rfl,by rw[h2];exact q⟩
 ·obtain ⟨its,r,pl,hz⟩:=I.tuple hq
  obtain ⟨h1,h2⟩:=sd I hu l r o1 o2 rb
  exact SeqAt.notIn_tupleAt _ pl h1 ⟨.bl _,H,I,rfl,by rw[h2];exact q⟩
def MW (μ:Mu)(x:D)(f:List D->Prop):Prop:=match x with
 | .tup ds=>f ds
 | .ls ds=>f ds
 | .obj a=>kL μ a f
 | _=>False
def wo (neg:Bool):DR2:=λx y μ Q=>MW μ y λds=>(bB 38 ds=true/\okD 38 x=true)/\Q (.bl (if neg then !inG x ds else inG x ds)) μ
theorem zg {K:Nt}(neg:Bool):cz K (CL K neg) (wo neg):=λH μ x y dx dy Q Q' m px py h k=>by
 cases py with
 | tup sq l=>exact ⟨_,_,_,dx,rfl,.inr sq,l,px,h.1.1,h.1.2,k _ H _ μ (.refl H) m (.bl _) h.2⟩
 | ls sq l=>exact ⟨_,_,_,dx,rfl,.inl sq.sq,l,px,h.1.1,h.1.2,k _ H _ μ (.refl H) m (.bl _) h.2⟩
 | obj q=>
  obtain ⟨ds,e0,h⟩:=cC (show kL μ q _ from h)
  obtain ⟨xs,ex,l⟩:=m q _ e0
  exact ⟨_,_,_,dx,rfl,.inl (SqL.of ex),l,px,h.1.1,h.1.2,k _ H _ μ (.refl H) m (.bl _) h.2⟩
 | _=>exact Ny h
theorem HA (hu:X.A.units+64 < cLine)(ha:LE X a Ta)(hb:LE X b Tb)(hm:Pd .In b=false:=by rfl):LE X (.Compare a [.In] [b] pos) (ao (wo false) Ta Tb):=gE (J2 hu) (zg false) ha hb hm
theorem Ay (hu:X.A.units+64 < cLine)(ha:LE X a Ta)(hb:LE X b Tb)(hm:Pd .NotIn b=false:=by rfl):LT X (.Compare a [.NotIn] [b] pos) (TB (ao (wo true) Ta Tb)):=j5 (zk hu) (zg true) ha hb hm
end
end
section
open PySem PySem.Spec PyProof.Rows L2
section
variable {X:Cx} {e tg:NX} {es:List NX} {is:List Nat} {pos:Pos} {x:Str} {n:Nat}
end
section
variable {X:Cx} {o i a b c e value:NX} {To Ti Ta Tb Te:ETr} {pos tpos apos cpos:Pos}
end
section
variable {P:NO} {w:N0} {K:Nt} {mg:Str->Option Nu} {base:Heap}
end
end
section
open PySem PySem.Spec PyProof.Rows L2
section
variable {X:Cx} {tg a ea eb:NX} {Ta:ETr} {es:List NX} {ek:Nat} {ep p pos:Pos}
def Nb (K:Nt)(tl:TE):TI:=λσ H R=>tl σ H λx H1=>∃ q,x=.ref q/\(((∃ xs,SqL K H1 q xs)/\R (Itl K q) H1)∨((∃ xs,SqT K H1 q xs)/\R (Itt K q) H1))
theorem IQ {tl:TE}(hl:PE X a tl):PI X tg a (Nb X.K tl):=by
 intro pins s σ H R I h
 refine thn (hl pins s σ H _ I h) λv s1 ⟨x,H1,I1,r1,q,ex,qq⟩=>?_
 subst ex
 cases (show v=OK q from r1)
 have fp:∀ b∈[s1.heap.objs.size],_:=λb hb=>by
  have e:b=s1.heap.objs.size:=by simpa using hb
  subst e
  exact I1.Gw (NN _) (I1.hok.fresh (NN _))
 rcases qq with ⟨⟨xs,sq⟩,qq⟩ | ⟨⟨xs,sq⟩,qq⟩
 ·obtain ⟨its,rv,pl,hz⟩:=I1.list sq
  exact RB pl.isList ⟨s1.heap.objs.size,[s1.heap.objs.size],_,_,H1,rfl,I1.kept (t':=s1.toks) (λb o e=>Nw _ e),z5 q _,⟨_,NH _ rfl,rfl,rfl⟩,fp,qq⟩
 ·obtain ⟨its,rv,pl,hz⟩:=I1.tuple sq
  exact wpAny_pyIter_tuple (show s1.heap.IsTuple q its.toArray from pl) ⟨s1.heap.objs.size,[s1.heap.objs.size],_,_,H1,rfl,I1.kept (t':=s1.toks) (λb o e=>Nw _ e),w8 q _,⟨_,NH _ rfl,rfl,rfl⟩,fp,qq⟩
theorem fM (ha:LE X a Ta):LI X tg a (iT Ta):=by
 obtain ⟨ta,pa,sa⟩:=ha.ex
 refine ⟨_,IQ pa,λσ H ρ μ Q R rl h k=>sa σ H ρ μ _ _ rl h λx H1 d μ1 t1 m1 p1 h1=>?_⟩
 cases p1 with
 | @tup p xs ds q l=>exact ⟨p,rfl,.inr ⟨⟨xs,q⟩,k _ H1 ds μ1 t1 m1 (A0 q l) h1⟩⟩
 | @ls p xs ds q l=>exact ⟨p,rfl,.inl ⟨⟨xs,q.sq⟩,k _ H1 ds μ1 t1 m1 (FF q l) h1⟩⟩
 | _=>exact Ny h1
variable {i o:NX} {Ti To:ETr}
end
end
section
open PySem PySem.Spec PyProof.Rows L2
def ltS (x y:Str):Bool:=decide (x.cps.toList < y.cps.toList)
theorem fv:∀ {us:List Nu} {ss:List Str},Qx us ss->Vals (ss.map V.str) us
 | _,_,.nil=>.nil
 | _,_,.cons n t h=>.cons ⟨t,rfl⟩ (fv h)
theorem sR:∀ {us:List Nu} {ss:List Str},Vals (ss.map V.str) us->Qx us ss
 | _,[],h=>by cases h;exact .nil
 | _,s::r,h=>by
  cases h with
  | cons q h=>obtain ⟨t,rfl⟩:=(show ∃ t,_=QE s t from q);exact .cons s t (sR h)
def IS (K:Nt):List V->Hp->VK->Prop:=λxs H Q=>∃ (p:Addr) (ss:List Str),xs=[.ref p]/\SqL K H p (ss.map V.str)/\ss.length < 64/\∀ ss':List Str,ss'.Perm ss->ss'.Pairwise (λa b=>ltS b a=false)->∀ z,H z=none->Q (.ref z) (L2.upd H z (.lst (ss'.map V.str)))
theorem Av:∀ (p:Str) (l:List Str),risingS p l=true->(p::l).Pairwise (λa b=>ltS b a=false):=by
 have tr:∀ a b c:Str,ltS b a=false->ltS c b=false->ltS c a=false:=by
  intro a b c h1 h2
  unfold ltS at *
  rw[decide_eq_false_iff_not,VJ] at *
  exact List.le_trans h1 h2
 intro p l
 induction l generalizing p with
 | nil=>intro _;exact List.pairwise_singleton _ _
 | cons x r ih=>
  intro h
  have h':ltCps x.cps.toList p.cps.toList=false/\risingS x r=true:=by
   have:(!ltCps x.cps.toList p.cps.toList&&risingS x r)=true:=h
   simpa using this
  have hx:=ih x h'.2
  have hpx:ltS x p=false:=by unfold ltS;rw[← ltCps_eq];exact h'.1
  refine TV.mpr ⟨λy hy=>?_,hx⟩
  rcases NT.mp hy with rfl | hy
  ·exact hpx
  ·exact tr p x y hpx ((TV.mp hx).1 y hy)
theorem qw:∀ (l:List Str),sortedS l=true->l.Pairwise (λa b=>ltS b a=false)
 | [],_=>.nil
 | p::l,h=>Av p l h
theorem xb {X:Cx}:b8 X (.builtin "sorted") (IS X.K):=λpins s σ H xs us Q I rx ⟨p,ss,e1,sq,hl,q⟩=>by
 subst e1
 obtain ⟨u,rfl,ru⟩:=vals1 rx
 cases (show u=OK p from ru)
 obtain ⟨its,rv,pl,hz⟩:=I.list sq
 have hi:Qx its ss:=sR rv
 have hlen:its.length < 64:=by have:=rv.length;simp at this;omega
 refine sorted_strs pl.isList hi hlen λout ss' a1 a2 a3=>?_
 obtain ⟨n,en⟩:=sortedAll_at s.heap its out
 refine ⟨.ref _,_,I.laid (t':=s.toks) (o:=.lst (ss'.map V.str)) (λb o e=>sortedAll_old e) (Nat.le_succ _) ?_,rfl,q ss' a2 (qw _ a3) _ (I.hok.fresh (Nat.le_succ _))⟩
 have z1:ss'.length=ss.length:=a2.length_eq
 exact ⟨by rw[NC,z1];exact R4 (NV hl (by decide)),out.toList,n,fv a1,by simpa[Qh] using en⟩
def we:FSp:=λds μ Q=>match ds with
 | [.ls xs]=>∃ ss:List Str,(xs=ss.map .str/\ss.length < 64)/\∀ ss':List Str,ss'.Perm ss->ss'.Pairwise (λa b=>ltS b a=false)->Q (.ls (ss'.map .str)) μ
 | _=>False
theorem DpL.strs {K:Nt}{H:Hp}:∀ ss:List Str,DpL K H (ss.map V.str) (ss.map D.str)
 | []=>.nil
 | s::r=>.cons (.str s) (DpL.strs r)
theorem DpL.fv {K:Nt}{H:Hp}:∀ {xs:List V} {ss:List Str},DpL K H xs (ss.map .str)->xs=ss.map V.str
 | _,[],.nil=>rfl
 | _,s::r,.cons h l=>by cases h;rw[DpL.fv l];rfl
section
variable {X:Cx} {e a b:NX} {x:Str} {p pos:Pos} {At:ATr} {Ta Tb:ETr}
theorem C9 (hg:Gl X x)(hm:X.mg x=none)(hv:N4 x=some (.builtin "sorted"))(ha:LA X [e] At)(hn:x ≠ "__name__" := by decide)(hdb:(x == ("__debug__" : Str))=false:=by decide)
  (h1:Nx [e] X.env=(false,OF e X.env)::Nx [] X.env:=by rfl) (h2:(N8 pos (Nx [] X.env)).any (·.1)=false:=by rfl):LE X (.Call (.Name x p) [e] [] pos) (ar we At):=by
 obtain ⟨ta,pa,sa⟩:=ha.ex
 refine ⟨_,js (nV xb hg hm hv pa hn hdb h1 h2),λσ H ρ μ Q Q' rl h k=>sa σ H ρ μ _ _ rl h λxs H1 ds μ1 t1 m1 p1 h1=>?_⟩
 unfold we at h1
 split at h1
 ·obtain ⟨ss,⟨rfl,hl⟩,h2⟩:=h1
  cases p1 with | cons p1 p2=>
  cases p2
  cases p1 with
  | @ls a ys _ q l=>
   cases DpL.fv l
   refine ⟨a,ss,rfl,q.sq,hl,λss' a2 a3 z hz=>⟨z,_,rfl,aP,λo=>?_⟩⟩
   have e:L2.upd (L2.upd H1 z (.lst (ss'.map V.str))) z (.frz o (.lst (ss'.map V.str)))=L2.upd H1 z (.frz o (.lst (ss'.map V.str))):=qN
   rw[e]
   exact k _ _ _ μ1 (t1.trans (.new hz)) (di m1 hz) (.ls (.inl ⟨o,aP⟩) (.strs ss')) (h2 ss' a2 a3)
 ·exact Ny h1
end
end
section
open PySem PySem.Spec PyProof.Rows L2
end
section
open PySem PySem.Spec PyProof.Rows L2
section
variable {prog:NO} {w:N0} {A:NY} {E:Nu->Nv->Prop} {s:Nv}
theorem run_plain {id:String}{bi:P5}{args:Args}{R:Ux->Nv->Prop}(hp:plainId id=true)(he:Ud table id=some bi)
  (h:NL (NS prog w) A.in1 (bi args) (λfin s'=>match fin with | .done f=>R (.ok f) s' | .again c'=>c'.quiet=true/\Pt (NS prog w) A c' R s') (λe s'=>R (.error e) s') s):Pt (NS prog w) A (.builtin id args) R s:=
 codeAny_builtin he (by rw[Pw hp];exact h)
end
section
variable {X:Cx} {ea eb:NX} {Ta Tb:ETr} {p p2 pos rpos:Pos}
end
end
section
open PySem PySem.Spec PyProof.Rows L2
section
variable {prog:NO} {w:N0} {A:NY} {E:Nu->Nv->Prop} {s:Nv}
theorem sortedHeap_at {g:Heap}{vs:List Nu}{out:Array Nu}{k:Nat}(e:(g.push (Qh "list" vs.toArray k)).get? g.objs.size=some (Qh "list" vs.toArray k)):(∃ n,(Vh (g.push (Qh "list" vs.toArray k)) g.objs.size vs out).get? g.objs.size=some (Qh "list" out n))/\∀ b o,g.get? b=some o->(Vh (g.push (Qh "list" vs.toArray k)) g.objs.size vs out).get? b=some o:=by
 have lt:g.objs.size < (g.push (Qh "list" vs.toArray k)).objs.size:=by rw[size_push'];omega
 unfold Vh
 constructor
 ·have e1:=get?_update_seq e λ_=>#[]
  have e2:∀ o1 o2:Obj,((((g.push (Qh "list" vs.toArray k)).update g.objs.size (PU λ_=>#[])).push o1).push o2).get? g.objs.size=_:=λo1 o2=>Nw _ (Nw _ e1)
  exact ⟨_,get?_update_seq (e2 _ _) λ_=>out⟩
 ·intro b o hb
  have nb:g.objs.size≠b:=PC (NP (NG hb))
  exact (Og _ _ nb).trans (Nw _ (Nw _ ((Og _ _ nb).trans (Nw _ hb))))
end
end
section
open PySem PySem.Spec PyProof.Rows L2
section
variable {prog:NO} {w:N0} {A:NY} {E:Nu->Nv->Prop} {s:Nv}
end
section
variable {X:Cx} {ea:NX} {es:List NX} {ek:Nat} {ep p pos:Pos}
end
end
section
open PySem PySem.Spec PyProof PyProof.Rows L2
section
variable {w:N0} {prog:NO} {A:NY} {E:Nu->Nv->Prop}
section
variable {R:Ux->Nv->Prop} {I:Addr} {fp wr:List Addr} {n:Nat} {P:Nat->Nu->Prop} {St:Nat->Heap->Prop}
end
variable {s:Nv}
end
section
variable {X:Cx} {e d:NX} {p pos kp:Pos} {Te Td:ETr}
end
end
section
open PySem PySem.Spec PyProof.Rows L2
section
variable {X:Cx} {o i:NX} {To Ti:ETr} {apos cpos:Pos}
end
end
section
open PySem PySem.Spec PyProof.Rows L2
section
variable {X:Cx} {o i:NX} {To Ti:ETr} {apos cpos:Pos}
end
end
section
open PySem PySem.Spec PyProof.Rows L2
end
section
open PySem PySem.Spec PyProof.Rows L2
section
variable {X:Cx} {a b c d:NX} {ta tb tc td:TE} {Ta Tb Tc Td:ETr} {pos:Pos} {o1 o2 o3:TY} {r1 r2 r3:L2.R2} {R1 R2 R3:DR2}
end
end
section
open PySem PySem.Spec PyProof.Rows L2
def Jf (x:Str):It:=⟨λi _=>i < x.cps.size,λi H v H'=>H'=H/\∃ c,x.cps[i]? = some c/\v=.str ⟨#[c]⟩,λi _=>x.cps.size<=i⟩
theorem DP {P:NO}{w:N0}{K:Nt}{tg:NX}(x:Str)(t:Tok)(it:Addr):Turn P w K tg (Jf x) [it] it (λi h=>h.IsStrIter it "str_ascii_iterator" x t i) where
 mem:=NK.mpr rfl
 obj:=λi h st b hb=>by
  obtain rfl:=NK.mp hb
  obtain ⟨o,e,c,d⟩:=st
  exact ⟨o,e,λv z=>by rw[d] at z;cases z⟩
 keep:=λi h h' st k=>let ⟨o,e,r⟩:=st;⟨o,k it (NK.mpr rfl) o e,r⟩
 item:=by
  intro X hP hw hK hc i pins s σ H E I hf st hg
  subst hP hw hK
  have hg:i < x.cps.size:=hg
  obtain ⟨f0,f1,f2,f3,f4,f5⟩:=hf it (NK.mpr rfl)
  refine wpAny_pyNext_ascii_item st (c:=x.cps[i]) (N9 hg) λh' st' sb=>?_
  have I1:Inv X pins σ H { s with heap:=h',toks:=s.toks+1 }:=I.turned (t':=s.toks+1) (λb o hb e=>(sb.2 b hb).trans e) f0 f1 f3 f4 f5
  obtain ⟨o,e,c,d⟩:=id st'
  exact ⟨_,rfl,y8 (s:={ s with heap:=h',toks:=s.toks+1 }) e c d (by decide) ⟨.str ⟨#[x.cps[i]]⟩,H,I1,⟨_,rfl⟩,⟨rfl,_,N9 hg,rfl⟩,st',λb hb=>(hf b hb).1⟩⟩
 done:=by
  intro X hP hw hK hc i pins s σ H E I hf st hg
  subst hP hw hK
  have hg:x.cps.size<=i:=hg
  obtain ⟨f0,f1,f2,f3,f4,f5⟩:=hf it (NK.mpr rfl)
  exact wpAny_pyNext_ascii_end (I.ok.hd hc) st (OS hg) λh' eb=>⟨rfl,I.turned (t':=s.toks) (λb o hb e=>eb b o hb e) f0 f1 f3 f4 f5⟩
 self:=λ_ _ _ _ _ st h=>wpAny_pyIter_striter_ascii st h
section
variable {X:Cx} {tg a b:NX} {Ta Tb:ETr} {pos:Pos}
def ML (tl:TE):TI:=λσ H R=>tl σ H λv H1=>∃ x,v=.str x/\x.cps.all (· < 128)=true/\R (Jf x) H1
theorem Jv {l:NX}{tl:TE}(hl:PE X l tl):PI X tg l (ML tl):=by
 intro pins s σ H R I h
 refine thn (hl pins s σ H _ I h) λv s1 ⟨y,H1,I1,r1,x,e,hx,q⟩=>?_
 subst e
 obtain ⟨t,rfl⟩:=r1
 refine wpAny_pyIter_ascii hx ?_
 refine ⟨s1.heap.objs.size,[s1.heap.objs.size],_,_,H1,rfl,I1.kept (t':=s1.toks) λb o e=>Nw _ e,DP x t _,⟨_,NH _ rfl,rfl,rfl⟩,λb hb=>?_,q⟩
 obtain rfl:=NK.mp hb
 exact I1.Gw (NN _) (I1.hok.fresh (NN _))
def vJ (x:Str):List D:=x.cps.toList.map λc=>.str ⟨#[c]⟩
theorem rL (x:Str):(vJ x).length=x.cps.size:=by simp[vJ]
theorem CG {K:Nt}{H:Hp}(x:Str):AE K (Jf x) H (vJ x) where
 go:=λi H' t hi=>by rw[rL] at hi;exact hi
 yld:=λi H' v H'' t hi ⟨e,c,hc,y⟩=>by
  subst e y
  refine ⟨.refl _,⟨.str ⟨#[c]⟩,?_,.str _⟩,λ_ m=>m⟩
  unfold vJ
  rw[Of,Oz,hc];rfl
 stop:=λi H' t hi=>by rw[rL] at hi;exact hi
def Fc (a:ETr):ATr:=λρ μ Q=>a ρ μ λx μ1=>match x with
 | .str z=>z.cps.all (· < 128)=true/\Q (vJ z) μ1
 | _=>False
theorem JQ (ha:LE X a Ta):LI X tg a (Fc Ta):=by
 obtain ⟨ta,pa,sa⟩:=ha.ex
 refine ⟨_,Jv pa,λσ H ρ μ Q R rl h k=>sa σ H ρ μ _ _ rl h λx H1 d μ1 t1 m1 p1 h1=>?_⟩
 cases p1 with
 | str z=>exact ⟨z,rfl,h1.1,k _ H1 _ μ1 t1 m1 (CG z) h1.2⟩
 | _=>exact Ny h1
def p7:DR2:=λx y μ Q=>match x,y with
 | .str z,.int i=>z.length<=1000000/\kN (atI z.cps.toList i) λc=>Q (.str ⟨#[c]⟩) μ
 | _,_=>False
theorem Fl {K:Nt}:cz K L2.Iz p7:=λH μ x y dx dy Q Q' m px py h k=>by
 cases px with
 | str z=>
  cases py with
  | int i=>
   obtain ⟨h1,h2⟩:=h
   obtain ⟨c,ec,h3⟩:=xf h2
   exact ⟨z,i,c,rfl,rfl,OD h1 (by decide),ec,k _ H _ μ (.refl H) m (.str _) h3⟩
  | _=>exact Ny h
 | _=>exact Ny (by cases py<;>exact h)
theorem vZ (ha:LE X a Ta)(hb:LE X b Tb)(hs:ml b:=by intro _ _;rfl):LE X (.Subscript a b pos) (ao p7 Ta Tb):=by
 obtain ⟨ta,pa,sa⟩:=ha.ex
 obtain ⟨tb,pb,sb⟩:=hb.ex
 exact ⟨_,CO DI pa pb hs,jS Fl sa sb⟩
def D8 (x y:Str):Bool:=!(Qi x y 0 x.length 1).isEmpty
def EO:DR2:=λx y μ Q=>match x,y with
 | .str i,.str j=>Q (.bl (D8 j i)) μ
 | _,_=>False
theorem Fo {K:Nt}:cz K (λx y H Q=>∃ i j,x=.str i/\y=.str j/\Q (.bl (!(Qi j i 0 j.length 1).isEmpty)) H) EO:=λH μ x y dx dy Q Q' m px py h k=>by
 cases px with
 | str z=>
  cases py with
  | str i=>exact ⟨z,i,rfl,rfl,k _ H _ μ (.refl H) m (.bl _) h⟩
  | _=>exact Ny h
 | _=>exact Ny (by cases py<;>exact h)
theorem I0 (ha:LE X a Ta)(hb:LE X b Tb)(hm:S3 [.In] [b]=false:=by with_unfolding_all rfl):LE X (.Compare a [.In] [b] pos) (ao EO Ta Tb):=gE An Fo ha hb hm
def oq (x:Str)(n:Nat):Str:=⟨(NZ n x.cps).foldl (· ++ ·) #[]⟩
theorem vz:∀ (n:Nat),(NZ n (#[]:Array Nat)).foldl (· ++ ·) #[] = #[]
 | 0=>rfl
 | n+1=>by
  rw[Qa,Sv]
  exact vz n
theorem vk (xs:Array Nat):∀ (n:Nat) (a:Array Nat),((NZ n xs).foldl (· ++ ·) a).size=a.size+n*xs.size
 | 0,a=>by simp
 | n+1,a=>by
  rw[Qa,Sv,vk xs n,Array.size_append,VB];omega
theorem fold_list (xs:Array Nat):∀ (n:Nat) (a:Array Nat),((NZ n xs).foldl (· ++ ·) a).toList=a.toList++(NZ n xs.toList).flatten
 | 0,a=>by simp
 | n+1,a=>by
  rw[Qa,Sv,fold_list xs n,Qa,List.flatten_cons,S8,O4]
theorem zP (x:Str)(n:Nat):(oq x n).cps.toList=(NZ n x.cps.toList).flatten:=by
 unfold oq
 rw[fold_list];rfl
theorem vY:OpR X (Pq .Mult) (λx y H Q=>∃ z n,x=.str z/\y=.int n/\(n<=1000/\-1000<=n/\z.length<=1000)/\Q (.str (oq z n.toNat)) H):=by
 intro pins s σ H x y v u Q I rx ry h
 obtain ⟨z,n,rfl,rfl,⟨n1,n0,hz⟩,q⟩:=h
 obtain ⟨t,rfl⟩:=rx
 obtain ⟨t',rfl⟩:=ry
 have big:∀ {m:Int},¬ m < 1->m<=1000->¬ ((z.length:Int) > (2 ^ 63 - 1) / m):=λ{m} h1 h2=>by
  have:(1000:Int)<=(2 ^ 63 - 1) / m:=by
   rw[Si (by omega)]
   omega
  omega
 have hlen:∀ {k:Nat},k<=1000->S9 (z.length*k)=false:=λ{k} hk=>by
  have:z.length*k<=1000*1000:=Vi hz hk
  unfold S9
  have:1000*1000<=sizeLine:=by decide
  exact decide_eq_false (by omega)
 refine PySem.P.mul_str (by
  rw[decide_eq_false (by omega),decide_eq_false (by omega)];rfl) (λh1 _=>big h1 n1) (λ_ _=>hlen (by omega)) ?_
 split
 ·rename_i h1
  have e:oq z n.toNat=Uw:=by rw[show n.toNat=0 by omega];rfl
  rw[e] at q
  exact ⟨by decide,.str Uw,H,I.tok _,⟨_,rfl⟩,q⟩
 ·rename_i h1
  split
  ·rename_i h2
   have e:oq z n.toNat=z:=by
    simp only[UP,beq_iff_eq] at h2
    obtain ⟨c⟩:=z
    unfold oq
    rcases h2 with h2 | h2
    ·rw[show n.toNat=1 by omega];simp
    ·have:c = #[]:=Array.eq_empty_of_size_eq_zero h2
     subst this
     rw[vz]
   rw[e] at q
   exact ⟨.str z,H,I,⟨t,rfl⟩,q⟩
  ·refine ⟨?_,.str _,H,I.tok _,⟨_,rfl⟩,q⟩
   show ((NZ n.toNat z.cps).foldl (· ++ ·) #[]).size<=sizeLine
   rw[vk]
   have hz':z.cps.size<=1000:=hz
   have:n.toNat*z.cps.size<=1000*1000:=Vi (by omega) hz'
   have:1000*1000<=sizeLine:=by decide
   simp
   omega
def nE:DR2:=λx y μ Q=>match x,y with
 | .str z,.int n=>(n<=1000/\-1000<=n/\z.length<=1000)/\Q (.str (oq z n.toNat)) μ
 | _,_=>False
theorem Dk {K:Nt}:cz K (λx y H Q=>∃ z n,x=.str z/\y=.int n/\(n<=1000/\-1000<=n/\z.length<=1000)/\Q (.str (oq z n.toNat)) H) nE:=λH μ x y dx dy Q Q' m px py h k=>by
 cases px with
 | str z=>
  cases py with
  | int i=>exact ⟨z,i,rfl,rfl,h.1,k _ H _ μ (.refl H) m (.str _) h.2⟩
  | _=>exact Ny h
 | _=>exact Ny (by cases py<;>exact h)
theorem mi (ha:LE X a Ta)(hb:LE X b Tb):LE X (.BinOp a .Mult b pos) (ao nE Ta Tb):=km vY Dk ha hb
def Lk (Ta:ETr)(Tl Th:OTr):ETr:=λρ μ Q=>Ta ρ μ λx μ1=>Tl ρ μ1 λi μ2=>Th ρ μ2 λj μ3=>match x with
 | .str z=>z.length<=1000000/\Q (.str (Txt.slice z i j)) μ3
 | _=>False
end
end
section
open PySem PySem.Spec PyProof.Rows L2
def tyO (μ:Mu):D->Option String
 | .obj a=>(match μ a with
  | some (.dct _)=>some "dict"
  | some (.lst _)=>some "list"
  | _=>none)
 | d=>tyD d
theorem F9 (K:Nt):∀ c∈yi,Vb K (.type "dict") (.type c)=some (bw "dict" c):=by
 intro c hc
 simp only[yi,NT,Oy,or_false] at hc
 rcases hc with rfl | rfl | rfl | rfl | rfl | rfl<;>with_unfolding_all rfl
def Kb (K:Nt):List V->Hp->VK->Prop:=λxs H Q=>G4 K xs H Q∨∃ a t c,xs=[.ref a,.ty c]/\((∃ ys,H a=some (.lst ys))/\t = "list" ∨ (∃ ys,H a=some (.dK ys))/\t = "dict")/\c∈yi/\Q (.bl (bw t c)) H
theorem zS {X:Cx}:b8 X (.builtin "isinstance") (Kb X.K):=λpins s σ H xs us Q I rx h=>by
 rcases h with h | ⟨a,t,c,ex,ha,hc,q⟩
 ·exact Bn pins s σ H xs us Q I rx h
 subst ex
 cases rx with | @cons _ u _ _ r1 r2=>cases r2 with | cons r2 r3=>
 cases r3
 cases (show _=RZ c from r2)
 cases (show u=OK a from r1)
 have fin:∀ tk,EP X pins σ Q (.bool (bw t c)) { s with toks:=tk }:=λtk=>⟨.bl _,H,I.tok tk,rfl,q⟩
 rcases ha with ⟨⟨ys,ea⟩,rfl⟩ | ⟨⟨ys,ea⟩,rfl⟩
 ·obtain ⟨_,_,_,_,_,e⟩:=I.LY ea
  exact O7 T9 I.kIn ⟨_,e,rfl⟩ (yU X.K "list" (by decide) c hc) (λz=>nomatch z) fin
 ·obtain ⟨_,_,_,_,o,es,ep,h1,h2,_⟩:=(show dW X.prog X.w H s.heap a (.dK ys) from I.hok a _ ea)
  exact O7 PySem.W.kitx_dict I.kIn ⟨o,h1,h2.1⟩ (F9 X.K c hc) (λz=>nomatch z) fin
def cE (c:String):DR:=λx μ Q=>match tyO μ x with
 | some t=>Q (.bl (bw t c)) μ
 | none=>False
theorem cH {X:Cx}{x y:Str}{p p2 pos:Pos}{c:String}{e:NX}{Ta:ETr}(hg:Gl X x)(hm:X.mg x=none)(hv:N4 x=some (.builtin "isinstance"))(ha:LE X e Ta)(hg2:Gl X y)(hm2:X.mg y=none)(hv2:N4 y=some (.type c))(hc:c∈yi:=by decide)
  (hn:x ≠ "__name__" := by decide) (hdb:(x == ("__debug__" : Str))=false:=by decide) (hn2:y ≠ "__name__" := by decide) (hdb2:(y == ("__debug__" : Str))=false:=by decide)
  (h0:Nx [.Name y p2] X.env=[(false,OF (.Name y p2) X.env)]:=by rfl) (h1:Nx (e::[.Name y p2]) X.env=(false,OF e X.env)::Nx [.Name y p2] X.env:=by rfl) (h2:(N8 pos (Nx [.Name y p2] X.env)).any (·.1)=false:=by rfl) :
  LE X (.Call (.Name x p) [e,.Name y p2] [] pos) (TUn (cE c) Ta):=by
 obtain ⟨ta,pa,sa⟩:=ha.ex
 refine ⟨_,nV zS hg hm hv (gv pa (gv (F3 hg2 hm2 hv2 (v:=.ty c) rfl hn2 hdb2) kK h0) h1) hn hdb h1 h2,λσ H ρ μ Q Q' rl h k=>sa σ H ρ μ _ _ rl h λv H1 d μ1 t1 m1 p1 h1=>?_⟩
 have h1':(match tyO μ1 d with | some t=>Q (.bl (bw t c)) μ1 | none=>False):=h1
 cases p1 with
 | obj a=>
  cases e:μ1 a with
  | none=>simp only[tyO,e] at h1'
  | some o=>
   cases o with
   | lst ds=>
    simp only[tyO,e] at h1'
    obtain ⟨ys,ea,_⟩:=m1 a _ e
    exact .inr ⟨a,_,c,rfl,.inl ⟨⟨ys,ea⟩,rfl⟩,hc,k _ H1 _ μ1 t1 m1 (.bl _) h1'⟩
   | dcT ds=>simp only[tyO,e] at h1'
   | dcF ds=>simp only[tyO,e] at h1'
   | dct ds=>
    simp only[tyO,e] at h1'
    obtain ⟨ys,ea,_⟩:=m1 a _ e
    exact .inr ⟨a,_,c,rfl,.inr ⟨⟨ys,ea⟩,rfl⟩,hc,k _ H1 _ μ1 t1 m1 (.bl _) h1'⟩
 | non=>exact .inl ⟨_,_,_,c,rfl,.non,rfl,hc,k _ H1 _ μ1 t1 m1 (.bl _) h1'⟩
 | bl b=>exact .inl ⟨_,_,_,c,rfl,.bl b,rfl,hc,k _ H1 _ μ1 t1 m1 (.bl _) h1'⟩
 | int b=>exact .inl ⟨_,_,_,c,rfl,.int b,rfl,hc,k _ H1 _ μ1 t1 m1 (.bl _) h1'⟩
 | str b=>exact .inl ⟨_,_,_,c,rfl,.str b,rfl,hc,k _ H1 _ μ1 t1 m1 (.bl _) h1'⟩
 | ty b=>exact Ny h1'
 | tup a l=>exact .inl ⟨_,_,_,c,rfl,.tup a l,rfl,hc,k _ H1 _ μ1 t1 m1 (.bl _) h1'⟩
 | ls a l=>exact .inl ⟨_,_,_,c,rfl,.ls a l,rfl,hc,k _ H1 _ μ1 t1 m1 (.bl _) h1'⟩
def Ea:ETr:=λρ μ Q=>∀ p,μ p=none->Q (.obj p) (up μ p (.dct []))
theorem Jr {X:Cx}{pos:Pos}:LE X (.Dict [] [] pos) Ea:=ES
end
section
open PySem PySem.Spec PyProof.Rows L2
section
variable {X:Cx} {o e value:NX} {es:List NX} {To Te:ETr} {Ta:ATr} {pos tpos ppos apos cpos:Pos} {x1:Nat}
end
end
section
open PySem PySem.Spec PyProof.Rows L2
section
variable {X:Cx} {o i:NX} {apos cpos:Pos}
theorem IV {e:NX}{es:List NX}{to:TE}{t:TA}{name:Str}{id:String}{r:V->List V->Hp->VK->Prop}(slot:Slot "str" name id)(hty:typeOf (.builtin id)=pure (.type "method_descriptor"))(hm:MtM X id r)(ho:PE X o to)(ha:PA X (e::es) t)
  (hbase:QO o name X.env (OF o X.env)=OF o X.env:=by rfl)
  (hfew:((N8 cpos (Nx (e::es) X.env)).all (λx=>!x.1)&&(T6 cpos (RA [] X.env)).all (λx=>x.1.isSome)
   && decide ((e::es).length+([]:List QN).length+(if ([]:List QN).isEmpty then 0 else 1) < 30))=true:=by rfl)
  (hline:(apos.endLine == cpos.line)=true:=by rfl) (hs:Nx (e::es) X.env=(false,OF e X.env)::Nx es X.env:=by rfl) (hplain:(N8 cpos (Nx es X.env)).any (·.1)=false:=by rfl) :
  PE X (.Call (.Attribute o name apos) (e::es) [] cpos) (λσ H Q=>to σ H λx H1=>(∃ z,x=.str z)/\t σ H1 λxs H2=>r x xs H2 Q):=by
 intro pins s σ H Q I h
 refine R9 hbase hfew hline rfl (thn (ho pins s σ H _ I h) λv s1 ⟨x,H1,I1,r1,⟨z,ex⟩,q1⟩=>?_)
 subst ex
 obtain ⟨tk,rfl⟩:=r1
 refine ⟨"str", id,PySem.F.plainAttrs_str,slot,hty,U7 _ _ _,(λa e=>nomatch e),?_⟩
 have hA:=ha cpos pins s1 σ H1 _ I1 q1
 rw[hs] at hA ⊢
 refine Sa (by show (false || (N8 cpos (Nx es X.env)).any (·.1))=false;rw[hplain]<;>rfl) (SI ?_)
 exact thn hA λus s2 ⟨vs,H2,I2,r2,q2⟩=>hm pins s2 σ H2 (.str z) vs _ us Q I2 ⟨tk,rfl⟩ r2 q2
def hU:List D->Option (List Str)
 | []=>some []
 | .str z::r=>(hU r).map (z::·)
 | _::_=>none
theorem ze {K:Nt}{H:Hp}:∀ {xs:List V} {ds:List D} {zs:List Str},DpL K H xs ds->hU ds=some zs->xs=zs.map V.str
 | _,_,_,.nil,e=>by simp only[hU,Ue] at e;subst e;rfl
 | _,d::ds,zs,.cons h l,e=>by
  cases h with
  | str z=>
   simp only[hU] at e
   cases e1:hU ds with
   | none=>rw[e1] at e;cases e
   | some ys=>
    rw[e1] at e
    cases e
    rw[ze l e1];rfl
  | _=>cases e
def G7 (To Ti:ETr):ETr:=λρ μ Q=>To ρ μ λx μ1=>match x with
 | .str sep=>Ti ρ μ1 λy μ2=>match y with
  | .ls ds=>∃ zs,hU ds=some zs/\JoinOk sep zs=true/\Q (.str (Txt.join sep zs)) μ2
  | _=>False
 | _=>False
end
end
section
open PySem PySem.Spec PyProof PyProof.Rows L2
section
variable {X:Cx} {o:NX} {apos cpos pos p:Pos} {x:Str}
end
end
section
open PySem PySem.Spec PyProof.Rows L2
end
section
open PySem PySem.Spec PyProof.Rows L2
section
variable {X:Cx} {i o:NX} {pos:Pos} {Ti To:ETr}
end
end
section
open PySem PySem.Spec PyProof.Rows L2
section
variable {X:Cx} {tg o a i e:NX} {T To Ta Ti:ETr} {pos:Pos}
end
section
variable {X:Cx} {tg a:NX} {Ta:ETr}
end
section
variable {X:Cx} {es:List NX} {o:NX} {Ta:ATr} {To:ETr} {ppos pos:Pos} {x1:Nat}
end
end
section
open PySem PySem.Spec PyProof PyProof.Rows L2
def ddS {κ:Type} [DecidableEq κ]:List κ->List κ->List κ
 | σ,[]=>σ
 | σ,k::r=>ddS (if k∈σ then σ else σ++[k]) r
theorem qK {prog:NO}{w:N0}{A:NY}{E:Nu->Nv->Prop}{s:Nv}{T newId initId:String}{Bi:P5}{args:List Nu}{Q Q₁:Nu->Nv->Prop}
  (ft:TypeCalled T newId initId) (hct:checkTypeCall T { pos:=args }=pure ()) (entryI:Ud table initId=some Bi)
  (AU:Pt (NS prog w) A.in1 (.call (.builtin newId) { pos:=.type T::args }) (Vj Q₁ E) s)
  (hnext:∀ obj s₁,Q₁ obj s₁->s₁.TypeIs obj T/\(∀ (A':NY) (E':Nu->Nv->Prop) (R':Unit->Nv->Prop),R' () s₁->NL (NS prog w) A' (checkBuiltinCall initId { pos:=obj::args }) R' E' s₁)/\
   NL (NS prog w) A.in1.in1 (Bi { pos:=obj::args }) (λfin s'=>match fin with
    | .done f=>Vj (λr s₂=>r=.none/\Q obj s₂) E (.ok f) s'
    | .again c'=>c'.quiet=true/\Pt (NS prog w) A.in1 c' (Vj (λr s₂=>r=.none/\Q obj s₂) E) s') (λe s'=>Vj (λr s₂=>r=.none/\Q obj s₂) E (.error e) s') s₁) :
  NL (NS prog w) A (Ro (RZ T) args) Q E s:=by
 obtain ⟨m0,ms,em⟩:=ft.mro
 refine TM <| codeAny_of_tree <| id <| wpAny_pure ⟨Code.quiet_builtin ⟨.type T::args,[]⟩ (by decide +kernel),codeAny_builtin F.entry_type_call ?_⟩
 rw[Around.under_plain (A:=A) (weight_type_call_type T args []) rfl]
 refine id (Pp ?_ (Pp ?_ (wpAny_bind (PN hct (wpAny_bind (PN em (Pp rfl (wpAny_bind (PN ft.made (wpAny_bind (wpAny_pure (wpAny_bind (wpAny_holding (TM (Ra AU λr s₁ hr=>?_)))))))))))))))
 ·simp[ft.notType]
 ·simp[ft.canCreate]
 cases r with
 | error e=>exact hr
 | ok fl=>
  cases fl with
  | ret v=>
   obtain ⟨ty,chk,body⟩:=hnext v s₁ hr
   refine wpAny_bind (PK ty ft.sub (Pp rfl (wpAny_bind (wpAny_holding ?_))))
   unfold callSpecial?
   refine wpAny_bind (Q3 ty ft.init.lookup (wpAny_holding (wpAny_bind (PN (ft.init.bind v) (wpAny_bind (TM (Ra (codeAny_call_builtin ft.init.plain entryI (chk _ _ _ body)) λr₂ s₂ hr₂=>?_)))))))
   cases r₂ with
   | error e=>exact hr₂
   | ok fl₂=>
    cases fl₂ with
    | ret v₂=>
     obtain ⟨rfl,hq⟩:=(show v₂=.none/\Q v s₂ from hr₂)
     exact wpAny_pure (Pp rfl (wpAny_pure hq))
    | next=>exact hr₂
    | brk=>exact hr₂
    | cont=>exact hr₂
  | next=>exact hr
  | brk=>exact hr
  | cont=>exact hr
theorem pB {prog:NO}{w:N0}{A:NY}{E:Nu->Nv->Prop}{s:Nv}(a:Nu){Q₁:Nu->Nv->Prop}
  (h:Q₁ (.ref s.heap.objs.size) { s with heap:=s.heap.push { cls:=.type "set", data:=.set #[] 0 (Ow 0 0 !w.params.followText "set-order") } }) :
  Pt (NS prog w) A (.call (.builtin "set.__new__") { pos:=[.type "set", a] }) (Vj Q₁ E) s:=by
 refine codeAny_of_tree (id (wpAny_bind (PN (F.newCall_set_1 a) (wpAny_pure ⟨Pz UQ _,codeAny_builtin F.entry_set_new ?_⟩))))
 rw[Pw (A:=A) UQ ⟨[.type "set", a],[]⟩]
 have MK:=sub_set_self
 refine id (wpAny_bind (wpAny_bind (id (wpAny_pure (Pp rfl (wpAny_bind (PN MK (Pp rfl (wpAny_pure (wpAny_bind ?_))))))))))
 refine id (wpAny_bind (id (wpAny_bind (wpAny_askSetting (wpAny_pure ?_)))))
 refine (show NL (NS prog w) A.in1 (newObj (.type "set") (.set #[] 0 (Ow 0 0 !w.params.followText "set-order"))) _ _ s from ?_)
 unfold newObj
 dsimp only
 rw[if_neg (by simp:¬ (#[]:Array (Int×Nu)).size > sizeLine)]
 exact wpAny_bind (wpAny_alloc (wpAny_pure (wpAny_pure h)))
def oe {prog:NO}{w:N0}{κ:Type} [DecidableEq κ] (knd:S5 prog w κ)(led:Bool)(h:Heap)(a:Addr)(σ:List κ):Prop:=
 ∃ o es ep t,h.get? a=some o/\o.ExactSet/\o.data=.set es ep t/\ElemsOf knd es.toList/\(∀ k,k∈σ↔∃ e∈es.toList,knd.is k e.2=true)/\es.size < scanBound/\t.fits es.size=true/\es.size=σ.length/\t.led=led/\(es.size=0∨t.plain=false)
theorem GK (t:OT)(es:Array (Int×Nu))(h:Int)(x:Nu):(layNew t es h x).2.1.led=t.led:=by
 unfold layNew
 split
 ·rename_i slot wd e
  simp only[SetTable.orStandIn]
  split<;>rfl
 ·rfl
theorem zQ (t:OT)(es:Array (Int×Nu))(n:Nat):(RS t es n).2.1.led=t.led/\(t.plain=false->(RS t es n).2.1.plain=false):=by
 unfold RS
 split
 ·rename_i t' order e
  have:t'.led=t.led/\t'.plain=t.plain:=by
   unfold SetTable.relaid SetTable.laid at e
   simp only[Option.bind_eq_bind,Option.bind_eq_some_iff] at e
   obtain ⟨o,_,e⟩:=e
   cases e
   exact ⟨rfl,rfl⟩
  dsimp only
  split
  ·exact ⟨this.1,λh=>by rw[← h];exact this.2⟩
  ·exact ⟨rfl,λ_=>rfl⟩
 ·exact ⟨rfl,λ_=>rfl⟩
section
variable {prog:NO} {w:N0} {κ:Type} [DecidableEq κ] {knd:S5 prog w κ} {led:Bool}
theorem tj {h:Heap}{a:Addr}{o:Obj}{es es1:Array (Int×Nu)}{ep:Nat}{t t2:OT}{σ:List κ}(ho:h.get? a=some o)(ex:o.ExactSet)(hd:o.data=.set es ep t)
  (E1:ElemsOf knd es1.toList) (m:∀ k,k∈σ↔∃ e∈es1.toList,knd.is k e.2=true) (z:es1.size < scanBound) (f:t2.fits es1.size=true) (l:es1.size=σ.length) (ld:t2.led=led) (pl:t2.plain=false) :
  ∃ o',(h.update a (Obj.putSet es1 t2)).get? a=some o'/\o'.ExactSet/\o'.data=.set es1 (ep+1) t2/\oe knd led (h.update a (Obj.putSet es1 t2)) a σ:=by
 have e:=(SetOf_store (knd:=knd) (S':=λk=>decide (k∈σ)) ho ex hd E1 (λk=>by rw[decide_eq_true_iff];exact m k) z f).1
 exact ⟨_,e,ex,rfl,_,es1,ep+1,t2,e,ex,rfl,E1,m,z,f,l,ld,.inr pl⟩
theorem wx {M:U0}{A:NY}{E:Nu->Nv->Prop}{s:Nv}{m:Sem Unit}{tag:String}{Q:Unit->Nv->Prop}(hm:m=pure ()∨m=rule tag)(q:Q () s):NL M A m Q E s:=by
 rcases hm with e | e
 ·rw[e];exact wpAny_pure q
 ·rw[e];exact wpAny_rule q
theorem DH {A:NY}{E:Nu->Nv->Prop}{s:Nv}{a:Addr}{σ:List κ}{k:κ}{x:Nu}{Q:Bool->Nv->Prop}(hk:knd.is k x=true)(sc:x.scannable=true)(hb:SO 8 x=pure false)
  (hm:oe knd led s.heap a σ) (hz:σ.length+1 < scanBound) (h:∀ h' b,PR a s.heap h'->oe knd led h' a (if k∈σ then σ else σ++[k])->Q b { s with heap:=h' }) :
  NL (NS prog w) A (PySem.setAddHashed a x (KeyKind.hash knd k)) Q E s:=by
 have hm0:=hm
 obtain ⟨o,es,ep,t,ho,ex,hd,el,ks,zs,ft,zl,ld,pl⟩:=hm
 unfold setAddHashed
 refine wpAny_holding ?_
 rw[VF]
 refine wpAny_bind (OU ho hd ft ?_)
 dsimp only
 rw[if_pos (byScan_of sc zs el)]
 refine wpAny_bind ?_
 unfold setAddByScan
 refine wpAny_bind (wpAny_rule (wpAny_bind (wpAny_setScan_of hk ho hd ft el ?_)))
 by_cases q:k∈σ
 ·obtain ⟨e,he,hke⟩:=(ks k).mp q
  obtain ⟨j,ej⟩:=Qc.mp (show (Vp (λe:Int×Nu=>knd.is k e.2) es.toList).isSome=true by rw[List.findIdx?_isSome];exact QJ.mpr ⟨e,he,hke⟩)
  rw[ej]
  rw[if_pos q] at h
  exact wpAny_pure (wpAny_pure (h s.heap _ (VQ ..) hm0))
 ·have ej:Vp (λe:Int×Nu=>knd.is k e.2) es.toList=none:=by
   rw[List.findIdx?_eq_none_iff]
   intro e he
   by_cases z:knd.is k e.2=true
   ·exact absurd ((ks k).mpr ⟨e,he,z⟩) q
   ·simpa using z
  rw[ej]
  rw[if_neg q] at h
  have pm:=layNew_perm t es (knd.hash k) x
  have fl:=layNew_fits t es (knd.hash k) x
  have ll:=GK t es (knd.hash k) x
  dsimp only
  generalize layNew t es (knd.hash k) x=L at *
  obtain ⟨es1,t1,wd,gave⟩:=L
  simp only at pm fl ll
  have E1:ElemsOf knd es1.toList:=(el.push hk sc).perm (by simpa using pm)
  have z1:es1.size=es.size+1:=by have:=pm.length_eq;simpa using this
  have m1:∀ k',k'∈σ++[k]↔∃ e∈es1.toList,knd.is k' e.2=true:=λk'=>by
   rw[N1,NK,ks k']
   constructor
   ·rintro (⟨e,he,hke⟩ | rfl)
    ·exact ⟨e,pm.mem_iff.mpr (by simp at he ⊢;exact .inl he),hke⟩
    ·exact ⟨(knd.hash k',x),pm.mem_iff.mpr (by simp),hk⟩
   ·rintro ⟨e,he,hke⟩
    have:=pm.mem_iff.mp he
    simp at this
    rcases this with he | rfl
    ·exact .inl ⟨e,by simpa using he,hke⟩
    ·exact .inr (knd.inj x k' k hke hk)
  have zb:es1.size < scanBound:=by rw[z1,zl];exact hz
  have zl1:es1.size=(σ++[k]).length:=by rw[z1,zl,NQ];rfl
  have fin:∀ t2:OT,t2.fits es1.size=true->t2.led=led->t2.plain=false->∀ (R:Option Bool->Nv->Prop),(∀ h',PR a s.heap h'->oe knd led h' a (σ++[k])->R (some true) { s with heap:=h' })->∀ g:Bool->Sem Unit,(∀ b (s₁:Nv) (Q':Unit->Nv->Prop),Q' () s₁->NL (NS prog w) A (g b) Q' E s₁)->NL (NS prog w) A (do
    storeSet a es1 t2
    if (!wd&&t2.tooFull)=true then do
      g (RS t2 es1 (PL es1.size)).2.2;storeSet a (RS t2 es1 (PL es1.size)).1 (RS t2 es1 (PL es1.size)).2.1;pure (some true)
     else pure (some true)) R E s:=λt2 f2 l2 p2 R hR g hg=>by
   obtain ⟨o',e1,e2,e3,e4⟩:=tj (knd:=knd) ho ex hd E1 m1 zb f2 zl1 l2 p2
   refine wpAny_bind (Ug ho hd ?_ (Uh zb))
   split
   ·refine wpAny_bind (hg _ _ _ ?_)
    have pm2:=relayAll_perm t2 es1 (PL es1.size)
    have fl2:=relayAll_fits t2 es1 (PL es1.size)
    have ll2:=zQ t2 es1 (PL es1.size)
    generalize RS t2 es1 (PL es1.size)=L2' at *
    obtain ⟨es3,t3,g3⟩:=L2'
    simp only at pm2 fl2 ll2 ⊢
    have z3:es3.size=es1.size:=by have:=pm2.length_eq;simpa using this
    obtain ⟨o2,d1,d2,d3,d4⟩:=tj (knd:=knd) e1 e2 e3 (E1.perm pm2) (λk'=>by rw[m1 k'];exact ⟨λ⟨e,he,q⟩=>⟨e,pm2.mem_iff.mpr he,q⟩,λ⟨e,he,q⟩=>⟨e,pm2.mem_iff.mp he,q⟩⟩) (by rw[z3];exact zb) fl2 (z3.trans zl1) (ll2.1.trans l2) (ll2.2 p2)
    refine wpAny_bind (Ug e1 e3 ?_ (Uh (by rw[z3];exact zb)))
    exact wpAny_pure (hR _ ((OH ..).trans (OH ..)) d4)
   ·exact wpAny_pure (hR _ (OH ..) e4)
  refine wpAny_bind (wx (tag := "set.scan.the-table-gave-way") (by cases gave<;>first | exact .inl rfl | exact .inr rfl) ?_)
  dsimp only
  by_cases p1:t1.plain=true
  ·rw[if_pos p1]
   refine wpAny_bind (PN hb ?_)
   simp only[if_false,PV]
   refine fin _ (SetTable.fits_plain_off fl) (ll.trans ld) rfl _ (λh' sb sq=>wpAny_pure (h h' true sb sq)) _ λb s₁ Q' q=>wx (tag := "set.scan.the-table-gave-way") (by cases b<;>first | exact .inl rfl | exact .inr rfl) q
  ·rw[if_neg p1]
   refine wpAny_bind (wpAny_pure ?_)
   simp only[if_true]
   exact fin t1 fl (ll.trans ld) (by simpa using p1) _ (λh' sb sq=>wpAny_pure (h h' true sb sq)) _ λb s₁ Q' q=>wx (tag := "set.scan.the-table-gave-way") (by cases b<;>first | exact .inl rfl | exact .inr rfl) q
end
section
variable {prog:NO} {w:N0} {κ:Type} [DecidableEq κ] {knd:S5 prog w κ} {led:Bool}
theorem G3 {A:NY}{R:Ux->Nv->Prop}{s:Nv}{as:Args}(h:NL (NS prog w) A.in1 (P5.«set.update.loop» as) (λfin s'=>match fin with | .done f=>R (.ok f) s' | .again c'=>c'.quiet=true/\Pt (NS prog w) A c' R s') (λe s'=>R (.error e) s') s):Pt (NS prog w) A (.builtin "set.update.loop" as) R s:=
 codeAny_builtin F.entry_set_update_loop (by rw[Pw RV as];exact h)
theorem Dj {A:NY}{R:Ux->Nv->Prop}{S it l:Addr}{items:Array Nu}(hA:A.handled=none)(n1:S≠it)(n2:l≠it)(n3:l≠S) :
  ∀ (us:List Nu) (ks:List κ) (i:Nat) (σ:List κ) (s:Nv),items.toList.drop i=us->U9 knd ks us->(∀ u∈us,u.scannable=true/\SO 8 u=pure false)->s.heap.IsListIter it l i->s.heap.IsList l items->oe knd led s.heap S σ->σ.length+ks.length+1 < scanBound->
   (∀ h' tk,oe knd led h' S (ddS σ ks)->(∀ b o,b≠it->b≠S->s.heap.get? b=some o->h'.get? b=some o)->R (.ok (.ret .none)) { s with heap:=h',toks:=tk })->
   Pt (NS prog w) A (.builtin "set.update.loop" ⟨[.ref S,.ref it],[]⟩) R s:=by
 intro us
 induction us with
 | nil=>
  intro ks i σ s hd P hs hit hl hm hz h
  cases P
  have hx:items[i]? = none:=by
   have:items.toList.length<=i:=by
    have:=congrArg PM hd
    simp at this;simp;omega
   simpa using this
  refine G3 (show NL _ _ (Qs (.ref it) >>= _) _ _ _ from ?_)
  refine wpAny_bind (Sw (by exact hA) hit hl hx λh' k=>?_)
  refine wpAny_pure ?_
  refine h h' s.toks ?_ λb o hb _ e=>k b o hb e
  obtain ⟨o,es,ep,t,ho,rest⟩:=hm
  exact ⟨o,es,ep,t,k S o n1 ho,rest⟩
 | cons u us ih=>
  intro ks i σ s hd P hs hit hl hm hz h
  cases P with
  | @cons k _ ks _ hk P=>
  have hx:items[i]? = some u:=by
   have:items.toList[i]? = some u:=by
    have:=congrArg (λl=>l[0]?) hd
    simpa using this
   simpa using this
  have hd':items.toList.drop (i+1)=us:=by
   have:=congrArg List.tail hd
   simpa using this
  refine G3 (show NL _ _ (Qs (.ref it) >>= _) _ _ _ from ?_)
  refine wpAny_bind (R5 hit hl hx λh1 it1 k1=>?_)
  have hm1:oe knd led h1 S σ:=by
   obtain ⟨o,es,ep,t,ho,rest⟩:=hm
   exact ⟨o,es,ep,t,(k1.2 S n1).trans ho,rest⟩
  have hl1:h1.IsList l items:=by
   obtain ⟨o,e,c,n,dd⟩:=hl
   exact ⟨o,(k1.2 l n2).trans e,c,n,dd⟩
  dsimp only
  rw[ND] at hz
  unfold setAdd
  refine wpAny_bind <| wpAny_holding <| wpAny_holding (wpAny_bind (knd.pyHash hk ?_))
  refine DH hk (hs u NB).1 (hs u NB).2 hm1 (by omega) λh2 _ sb hm2=>?_
  refine wpAny_pure ⟨Pz RV _,?_⟩
  refine ih ks (i+1) _ _ hd' P (λu hu=>hs u (NF _ hu)) ?_ ?_ hm2 ?_ λh' tk hm' kp=>?_
  ·obtain ⟨o,e,c,d⟩:=it1
   exact ⟨o,(sb.2 it (PC n1)).trans e,c,d⟩
  ·obtain ⟨o,e,c,n,dd⟩:=hl1
   exact ⟨o,(sb.2 l n3).trans e,c,n,dd⟩
  ·by_cases q:k∈σ
   ·rw[if_pos q];omega
   ·rw[if_neg q,NQ,Pl];omega
  ·refine h h' tk hm' λb o b1 b2 e=>kp b o b1 b2 ?_
   rw[sb.2 b b2,k1.2 b b1]
   exact e
end
section
variable {prog:NO} {w:N0} {κ:Type} [DecidableEq κ] {knd:S5 prog w κ}
theorem oP {A:NY}{E:Nu->Nv->Prop}{s:Nv}{l:Addr}{o:Obj}{items:Array Nu}{k:Nat}{ks:List κ}{Q:Nu->Nv->Prop}(hA:A.handled=none)
  (hx:s.heap.get? l=some o) (hc:o.cls=.type "list") (hdat:o.data=.seq items k) (P:U9 knd ks items.toList) (hs:∀ u∈items.toList,u.scannable=true/\SO 8 u=pure false) (hz:ks.length+1 < scanBound)
  (h:∀ h' tk,oe knd (!w.params.followText "set-order") h' s.heap.objs.size (ddS [] ks)->(∀ b o,s.heap.get? b=some o->h'.get? b=some o)->Q (.ref s.heap.objs.size) { s with heap:=h',toks:=tk }) :
  NL (NS prog w) A (Ro (RZ "set") [.ref l]) Q E s:=by
 refine qK (Q₁:=λobj s₁=>obj=.ref s.heap.objs.size/\s₁={ s with heap:=s.heap.push { cls:=.type "set", data:=.set #[] 0 (Ow 0 0 !w.params.followText "set-order") } }) F.called_set (F.typeCall_set_1 _) F.entry_set_init (pB _ ⟨rfl,rfl⟩) ?_
 rintro obj s₁ ⟨rfl,rfl⟩
 generalize Nq:(!w.params.followText "set-order")=led at *
 have AU:(s.heap.push { cls:=.type "set", data:=.set #[] 0 (Ow 0 0 led) }).get? s.heap.objs.size=some { cls:=.type "set", data:=.set #[] 0 (Ow 0 0 led) }:=NH _ rfl
 have fit:(Ow 0 0 led).fits (#[]:Array (Int×Nu)).size=true:=by cases led<;>decide
 have MS:oe knd led (s.heap.push { cls:=.type "set", data:=.set #[] 0 (Ow 0 0 led) }) s.heap.objs.size []:=⟨_,_,_,_,AU,⟨rfl,rfl,rfl⟩,rfl,λe he=>by simp at he,λk=>by simp,by decide,fit,rfl,rfl,.inl rfl⟩
 have ty:TJ { s with heap:=s.heap.push { cls:=.type "set", data:=.set #[] 0 (Ow 0 0 led) } } (.ref s.heap.objs.size) "set" := ⟨_,AU,rfl⟩
 have hx1:(s.heap.push { cls:=.type "set", data:=.set #[] 0 (Ow 0 0 led) }).get? l=some o:=Nw _ hx
 have ll:l < s.heap.objs.size:=NG hx
 refine ⟨ty,λA' E' R' hR=>check_set_init_1 ty hR,?_⟩
 unfold P5.«set.__init__»
 refine wpAny_bind (wpAny_pure ?_)
 show NL _ _ (typeNameOfCut 200 (.ref s.heap.objs.size) >>= _) _ _ _
 refine wpAny_bind ?_
 unfold typeNameOfCut
 refine wpAny_bind ?_
 unfold shownTypeOf
 refine wpAny_bind (wpAny_typeOf ty ?_)
 rw[if_neg (by decide)]
 refine wpAny_pure ?_
 show NL _ _ (typeNameCut 200 (.type "set")) _ _ _
 refine wpAny_pure ?_
 refine wpAny_bind (wpAny_pure ?_)
 refine wpAny_bind (wpAny_pure ?_)
 refine wpAny_bind ?_
 unfold setUsed
 refine wpAny_bind (OU AU rfl fit (wpAny_pure ?_))
 rw[if_neg (by cases led<;>decide)]
 dsimp only
 refine wpAny_bind ?_
 unfold UR Vk
 have tl:TJ { s with heap:=s.heap.push { cls:=.type "set", data:=.set #[] 0 (Ow 0 0 led) } } (.ref l) "list" := ⟨o,hx1,hc⟩
 refine wpAny_bind (wpAny_bind (PK tl F.sub_list_set ?_))
 show NL _ _ (isInstance (.ref l) (.type "frozenset")) _ _ _
 refine PK tl F.sub_list_frozenset ?_
 rw[if_neg (by decide)]
 refine wpAny_bind (wpAny_typeOf tl ?_)
 rw[if_neg (by decide)]
 have hl2:(s.heap.push { cls:=.type "set", data:=.set #[] 0 (Ow 0 0 led) }).IsList l items:=⟨o,hx1,hc,k,hdat⟩
 refine wpAny_bind (RB hl2 (wpAny_bind (SQ ?_)))
 have lt1:s.heap.objs.size < (s.heap.push { cls:=.type "set", data:=.set #[] 0 (Ow 0 0 led) }).objs.size:=NG AU
 refine Dj (A:=A.in1.in1) (knd:=knd) (led:=led) (S:=s.heap.objs.size) (it:=(s.heap.push { cls:=.type "set", data:=.set #[] 0 (Ow 0 0 led) }).objs.size) (l:=l) (items:=items) hA (NP lt1) (NP (Qw ll lt1)) (NP ll) items.toList ks 0 [] _ rfl P hs ?_ ?_ ?_ (by simpa using hz) ?_
 ·exact ⟨_,NH _ rfl,rfl,rfl⟩
 ·exact ⟨o,Nw _ hx1,hc,k,hdat⟩
 ·obtain ⟨o',es,ep,t,ho,rest⟩:=MS
  exact ⟨o',es,ep,t,Nw _ ho,rest⟩
 ·intro h' tk hm' kp'
  refine wpAny_pure (wpAny_pure ⟨rfl,h h' tk hm' λb o q=>?_⟩)
  have hb:b < s.heap.objs.size:=NG q
  exact kp' b o (NP (Qw hb lt1)) (NP hb) (Nw _ (Nw _ q))
end
end
section
open PySem PySem.Spec PyProof PyProof.Rows L2
theorem wp_choose {M:U0}{A:NY}{E:Nu->Nv->Prop}{s:Nv}{src:Source}{n:Nat}{Q:Nat->Nv->Prop}(hn:n≠0)(h:∀ i d,i < n->Q i { s with drawn:=d }):NL M A (choose src n) Q E s:=by
 intro Γ p hΓ
 unfold choose Sem.wp
 refine ⟨hn,?_⟩
 exact wpAny_pure (M:=M) (A:=A) (E:=E) (h _ _ (Nat.mod_lt _ (Nat.pos_of_ne_zero hn))) Γ p hΓ
theorem uU {α:Type}:∀ (l:List α) (i:Nat) (h:i < l.length),(l[i]::l.eraseIdx i).Perm l:=by
 intro l
 induction l with
 | nil=>intro i h;cases h
 | cons a r ih=>
  intro i h
  cases i with
  | zero=>exact .refl _
  | succ i=>exact (List.Perm.swap ..).trans ((ih i (by simpa using h)).cons a)
theorem qZ {M:U0}{A:NY}{E:Nu->Nv->Prop}{α:Type}:∀ (n:Nat) (xs:List α) (s:Nv) (Q:List α->Nv->Prop),xs.length=n->(∀ ys d,ys.Perm xs->Q ys { s with drawn:=d })->NL M A (drawOrder n xs) Q E s:=by
 intro n
 induction n with
 | zero=>
  intro xs s Q hl h
  have:xs=[]:=PQ hl
  subst this
  exact wpAny_pure (h [] s.drawn (.refl _))
 | succ n ih=>
  intro xs s Q hl h
  cases xs with
  | nil=>cases hl
  | cons x r=>
  show NL M A (choose Source.order (x::r).length >>= _) Q E s
  refine wpAny_bind (wp_choose (by simp) λi d hi=>?_)
  rw[N2 hi]
  refine wpAny_bind (ih _ _ _ (by rw[SR,if_pos hi];omega) λys d' pm=>wpAny_pure ?_)
  exact h _ d' (((pm.cons _).trans (uU _ _ hi)))
theorem F8 {α:Type}(next:Nat->Nat):∀ (n k:Nat) (left:List α) (out:Array α),left.length=n->(Ui next n k left out).toList.Perm (out.toList++left):=by
 intro n
 induction n with
 | zero=>
  intro k left out hl
  have:left=[]:=PQ hl
  subst this
  rw[OC]
  exact .refl _
 | succ n ih=>
  intro k left out hl
  have hi:next k % left.length < left.length:=Nat.mod_lt _ (by omega)
  have e:Ui next (n+1) k left out=Ui next n (k+1) (left.eraseIdx (next k % left.length)) (out.push left[next k % left.length]):=by
   show (match left[next k % left.length]? with | some x=>_ | none=>_)=_
   rw[N2 hi]
  rw[e]
  refine (ih _ _ _ (by rw[SR,if_pos hi];omega)).trans ?_
  rw[Array.toList_push,O4]
  exact List.Perm.append_left _ (uU _ _ hi)
theorem iF {α:Type}(next:Nat->Nat)(xs:Array α):(Qo next xs).toList.Perm xs.toList:=by
 have:=F8 next xs.size 0 xs.toList #[] (by simp)
 unfold Qo
 simpa using this
theorem qX:Ud table "set.__iter__" = some P5.«frozenset.__iter__»:=entryFor_alias (id' := "frozenset.__iter__") (by kernel_rfl) rfl (by decide +kernel) (by kernel_rfl)
theorem cG:Ud table "set_iterator.__next__" = some P5.«set_iterator.__next__»:=entryFor_of_fast (by kernel_rfl)
theorem yo:Manifest.owners.lookup (String.ofList "rotareti_tes".toList.reverse)=some Manifest.sig_set_iterator:=by kernel_rfl
theorem bS:Slot "set_iterator" "__next__" "set_iterator.__next__" :=
 Slot.of (T := "set_iterator") (owner := "set_iterator") (n := "__next__") (by (rw[Q4,PX]);kernel_rfl) (by decide +kernel) (by decide +kernel) (by decide +kernel) (by first | exact .inl (by decide +kernel) | exact .inr (by decide +kernel)) (by (rw[SS]);kernel_rfl)
theorem hW (a:Nu):argsOk "set_iterator.__next__" ⟨[a],[]⟩:=by
 unfold argsOk
 rw[signature?_of (id := "set_iterator.__next__") (n := "__txen__".toList) (o := "rotareti_tes".toList) (by kernel_rfl) yo]
 kernel_rfl
theorem j6 {M:U0}{A:NY}{E:Nu->Nv->Prop}{s:Nv}{ty:String}{vs:List Nu}{Q:Nu->Nv->Prop}(hz:vs.length<=10)(h:Q (.ref s.heap.objs.size) { s with heap:=s.heap.push { cls:=.type ty,data:=.fields vs.toArray } }):NL M A (newFields ty vs) Q E s:=by
 unfold newFields newObj
 dsimp only
 rw[if_neg (by rw[NJ,Rz];omega)]
 exact wpAny_bind (wpAny_alloc (wpAny_pure h))
end
section
open PySem PySem.Spec PyProof PyProof.Rows L2
def SIt (h:Heap)(it S:Addr)(first:Nu)(i n ep:Nat):Prop:=∃ o,h.get? it=some o/\o.cls=.type "set_iterator" /\ o.data=.fields #[first,.int i 0,.ref S,.int n 0,.int ep 0]
theorem Ao {prog:NO}{w:N0}{A:NY}{E:Nu->Nv->Prop}{s:Nv}{it S tp:Addr}{i n ep:Nat}{o ot:Obj}{es:Array (Int×Nu)}{t:OT}{pl:List Nat}{kt j:Nat}{y:Int×Nu}{Q:Option Nu->Nv->Prop}
  (hit:SIt s.heap it S (.ref tp) i n ep) (ho:s.heap.get? S=some o) (hd:o.data=.set es ep t) (ft:t.fits es.size=true) (hn:es.size=n)
  (ht:s.heap.get? tp=some ot) (hc:ot.cls=.type "tuple") (hdt:ot.data=.seq (pl.map λj:Nat=>P9 j).toArray kt) (hj:pl[i]? = some j) (hy:es[j]? = some y)
  (h:∀ h',SIt h' it S (.ref tp) (i+1) n ep->PR it s.heap h'->Q (some y.2) { s with heap:=h' }):NL (NS prog w) A (Qs (.ref it)) Q E s:=by
 obtain ⟨oi,e1,e2,e3⟩:=hit
 have ty:s.TypeIs (.ref it) "set_iterator" := ⟨oi,e1,e2⟩
 unfold Qs
 refine wpAny_bind (QR (OB (name := "__next__") ty bS (OE bS ty cG ?_ (hW _))))
 unfold P5.«set_iterator.__next__»
 refine wpAny_bind (wpAny_pure (wpAny_bind (Qy e1 e3 ?_)))
 dsimp only
 refine wpAny_bind (Pb ho hd ft ?_)
 rw[if_neg (by rw[hn];simp)]
 refine wpAny_bind (wpAny_seqItems ht hdt ?_)
 have ep':((pl.map λj:Nat=>P9 j).toArray)[((i:Nat):Int).toNat]? = some (.int (j:Int) 0):=by
  rw[Oo,Sy,Of,hj]
  rfl
 dsimp only
 rw[ep']
 dsimp only
 unfold setNextDrawn
 refine wpAny_bind (wpAny_bind (OU ho hd ft ?_))
 dsimp only
 rw[if_neg (by simp),Oo,hy]
 refine wpAny_pure ?_
 refine wpAny_bind (Pk e1 e3 (by simp) (wpAny_pure ⟨_,rfl,wpAny_pure (h _ ?_ (OH ..))⟩))
 exact ⟨_,Oj _ e1 (OZ (N3 e3 _)),(PZ ..).trans e2,by rw[N3 e3];simp[P9]⟩
theorem gc {prog:NO}{w:N0}{A:NY}{E:Nu->Nv->Prop}{s:Nv}{Q:Bool->Nv->Prop}(h:Q (w.params.followText "set-order") s):NL (NS prog w) A setsByText Q E s:=wpAny_bind (wpAny_askSetting (wpAny_pure h))
theorem jY {prog:NO}{w:N0}{A:NY}{E:Nu->Nv->Prop}{s:Nv}{S:Addr}{o:Obj}{es:Array (Int×Nu)}{ep:Nat}{t:OT}{Q:Array (Int×Nu)->Nv->Prop}(bt:w.params.followText "set-order" = true)(ho:s.heap.get? S=some o)(hd:o.data=.set es ep t)(ft:t.fits es.size=true)
  (h:Q (Qo (w.params.setOrder S ep) es) s):NL (NS prog w) A (setWalk S) Q E s:=by
 unfold setWalk
 refine wpAny_bind (OU ho hd ft (wpAny_bind (gc ?_)))
 rw[if_pos bt]
 exact wpAny_bind <| wpAny_askSetting <| wpAny_pure h
theorem Dc {prog:NO}{w:N0}{A:NY}{E:Nu->Nv->Prop}{s:Nv}{it S:Addr}{i n ep:Nat}{o:Obj}{es:Array (Int×Nu)}{t:OT}{y:Int×Nu}{Q:Option Nu->Nv->Prop}(bt:w.params.followText "set-order" = true)
  (hit:SIt s.heap it S (.int 0 0) i n ep) (ho:s.heap.get? S=some o) (hd:o.data=.set es ep t) (ft:t.fits es.size=true) (hn:es.size=n) (hy:(Qo (w.params.setOrder S ep) es)[i]? = some y)
  (h:∀ h',SIt h' it S (.int 0 0) (i+1) n ep->PR it s.heap h'->Q (some y.2) { s with heap:=h' }):NL (NS prog w) A (Qs (.ref it)) Q E s:=by
 obtain ⟨oi,e1,e2,e3⟩:=hit
 have ty:s.TypeIs (.ref it) "set_iterator" := ⟨oi,e1,e2⟩
 unfold Qs
 refine wpAny_bind (QR (OB (name := "__next__") ty bS (OE bS ty cG ?_ (hW _))))
 unfold P5.«set_iterator.__next__»
 refine wpAny_bind (wpAny_pure (wpAny_bind (Qy e1 e3 ?_)))
 dsimp only
 refine wpAny_bind (Pb ho hd ft ?_)
 rw[if_neg (by rw[hn];simp)]
 refine wpAny_bind ?_
 unfold S6
 refine wpAny_bind (OU ho hd ft (wpAny_bind (gc ?_)))
 rw[if_pos bt]
 dsimp only
 rw[if_neg (by simp)]
 refine wpAny_bind (jY bt ho hd ft (wpAny_pure ?_))
 rw[Oo,hy]
 refine (show NL _ _ (setField (.ref it) 0 (P9 ((0:Nat):Int)) >>= _) _ _ _ from ?_)
 have g1:=Oj (λo=>Pe (·.setIfInBounds 0 (P9 ((0:Nat):Int))) o) e1 (OZ (N3 e3 _))
 refine wpAny_bind (Pk e1 e3 (by simp) ?_)
 refine wpAny_bind (Pk g1 (N3 e3 _) (by simp) (wpAny_pure ⟨_,rfl,wpAny_pure (h _ ?_ ((OH ..).trans (OH ..)))⟩))
 refine ⟨_,Oj _ g1 (OZ (N3 (N3 e3 _) _)),(PZ ..).trans ((PZ ..).trans e2),?_⟩
 rw[N3 (N3 e3 _)]
 simp[P9]
end
section
open PySem PySem.Spec PyProof PyProof.Rows L2
theorem ue {prog:NO}{w:N0}{A:NY}{E:Nu->Nv->Prop}{s:Nv}{Q:Option Nu->Nv->Prop}{R:PySem.Fin->Nv->Prop}(hA:A.handled=none)
  (h:∀ h',(∀ b o,s.heap.get? b=some o->h'.get? b=some o)->Q none { s with heap:=h' }) :
  NL (NS prog w) A.in1 (newExc (.type "StopIteration") [] >>= λe=>(raiseNew e:Sem PySem.Fin)) R (λe s'=>NL (NS prog w) A (isInstance e (.type "StopIteration") >>= λb=>if b=true then pure none else throw e) Q E s') s:=by
 refine wpAny_bind ?_
 simp only[newExc,newTuple]
 refine wpAny_bind <| (λq=>OA q (by size_fits)) ?_
 refine wpAny_bind (m:=firstArgMember _ _) (PN (a:=Pg) (by first | rfl | (simp only[firstArgMember];rfl)) (OA ?_ (by size_fits)))
 simp only[raiseNew]
 refine wpAny_bind <| wpAny_handled ?_
 have hA':A.in1.handled=none:=hA
 rw[hA']
 refine wpAny_bind <| wpAny_pure <| wpAny_throw ?_
 refine wpAny_bind (PK (b:=true) (show TJ _ _ "StopIteration" from ⟨_,NH _ rfl,rfl⟩) isSubtype_stop ?_)
 exact wpAny_pure (h _ λb o e=>Nw _ (Nw _ e))
theorem pF {prog:NO}{w:N0}{A:NY}{E:Nu->Nv->Prop}{s:Nv}{it S tp:Addr}{i n ep:Nat}{o ot:Obj}{es:Array (Int×Nu)}{t:OT}{pl:List Nat}{kt:Nat}{Q:Option Nu->Nv->Prop}(hA:A.handled=none)
  (hit:SIt s.heap it S (.ref tp) i n ep) (ho:s.heap.get? S=some o) (hd:o.data=.set es ep t) (ft:t.fits es.size=true) (hn:es.size=n)
  (ht:s.heap.get? tp=some ot) (hc:ot.cls=.type "tuple") (hdt:ot.data=.seq (pl.map λj:Nat=>P9 j).toArray kt) (hj:pl[i]? = none)
  (h:∀ h',VL it s.heap h'->Q none { s with heap:=h' }):NL (NS prog w) A (Qs (.ref it)) Q E s:=by
 obtain ⟨oi,e1,e2,e3⟩:=hit
 have ty:s.TypeIs (.ref it) "set_iterator" := ⟨oi,e1,e2⟩
 unfold Qs
 refine wpAny_bind (QR (OB (name := "__next__") ty bS (OE bS ty cG ?_ (hW _))))
 unfold P5.«set_iterator.__next__»
 refine wpAny_bind (wpAny_pure (wpAny_bind (Qy e1 e3 ?_)))
 dsimp only
 refine wpAny_bind (Pb ho hd ft ?_)
 rw[if_neg (by rw[hn];simp)]
 refine wpAny_bind (wpAny_seqItems ht hdt ?_)
 have ep':((pl.map λj:Nat=>P9 j).toArray)[((i:Nat):Int).toNat]? = none:=by
  rw[Oo,Sy,Of,hj]
  rfl
 dsimp only
 rw[ep']
 have g1:=Oj (λo=>Pe (·.setIfInBounds 0 (P9 0)) o) e1 (OZ (N3 e3 _))
 refine wpAny_bind (Pk e1 e3 (by simp) (wpAny_bind (Pk g1 (N3 e3 _) (by simp) ?_)))
 dsimp only
 have kpH:∀ b o,b≠it->s.heap.get? b=some o->((s.heap.update it (Pe λx=>x.setIfInBounds 0 (P9 0))).update it (Pe λx=>x.setIfInBounds 2 Pg)).get? b=some o:=λb o hb e=>by
  rw[Og _ _ (PC hb),Og _ _ (PC hb)]
  exact e
 generalize (s.heap.update it (Pe λx=>x.setIfInBounds 0 (P9 0))).update it (Pe λx=>x.setIfInBounds 2 Pg)=H at kpH ⊢
 exact ue (s:=⟨H,s.gens,s.drawn,s.toks,s.os⟩) hA λh' kp=>h h' λb o hb e=>kp b o (kpH b o hb e)
theorem vS {prog:NO}{w:N0}{A:NY}{E:Nu->Nv->Prop}{s:Nv}{it S:Addr}{sl:Int}{i n ep:Nat}{o:Obj}{es:Array (Int×Nu)}{t:OT}{Q:Option Nu->Nv->Prop}(hA:A.handled=none)
  (hit:SIt s.heap it S (.int sl 0) i n ep) (ho:s.heap.get? S=some o) (hd:o.data=.set es ep t) (ft:t.fits es.size=true) (hn:es.size=n)
  (hx:∀ (E':Nu->Nv->Prop) (R:Option (Nu×Nat)->Nv->Prop),R none s->NL (NS prog w) A.in1 (S6 S sl.toNat ((i:Nat):Int).toNat ((ep:Nat):Int).toNat) R E' s)
  (h:∀ h',VL it s.heap h'->Q none { s with heap:=h' }):NL (NS prog w) A (Qs (.ref it)) Q E s:=by
 obtain ⟨oi,e1,e2,e3⟩:=hit
 have ty:s.TypeIs (.ref it) "set_iterator" := ⟨oi,e1,e2⟩
 unfold Qs
 refine wpAny_bind (QR (OB (name := "__next__") ty bS (OE bS ty cG ?_ (hW _))))
 unfold P5.«set_iterator.__next__»
 refine wpAny_bind (wpAny_pure (wpAny_bind (Qy e1 e3 ?_)))
 dsimp only
 refine wpAny_bind (Pb ho hd ft ?_)
 rw[if_neg (by rw[hn];simp)]
 refine wpAny_bind (hx _ _ ?_)
 dsimp only
 refine wpAny_bind (Pk e1 e3 (by simp) ?_)
 have kpH:∀ b o,b≠it->s.heap.get? b=some o->(s.heap.update it (Pe λx=>x.setIfInBounds 2 Pg)).get? b=some o:=λb o hb e=>by
  rw[Og _ _ (PC hb)]
  exact e
 generalize s.heap.update it (Pe λx=>x.setIfInBounds 2 Pg)=H at kpH ⊢
 exact ue (s:=⟨H,s.gens,s.drawn,s.toks,s.os⟩) hA λh' kp=>h h' λb o hb e=>kp b o (kpH b o hb e)
theorem pO {prog:NO}{w:N0}{A:NY}{E:Nu->Nv->Prop}{s:Nv}{S:Addr}{sl i ep:Nat}{o:Obj}{es:Array (Int×Nu)}{t:OT}{Q:Option (Nu×Nat)->Nv->Prop}(bt:w.params.followText "set-order" = true)
  (ho:s.heap.get? S=some o) (hd:o.data=.set es ep t) (ft:t.fits es.size=true) (hi:es.size<=i) (h:Q none s):NL (NS prog w) A (S6 S sl i ep) Q E s:=by
 unfold S6
 refine wpAny_bind (OU ho hd ft (wpAny_bind (gc ?_)))
 rw[if_pos bt]
 dsimp only
 rw[if_neg (by simp)]
 refine wpAny_bind (jY bt ho hd ft (wpAny_pure ?_))
 have:(Qo (w.params.setOrder S ep) es)[i]? = none:=by
  have pm:=(iF (w.params.setOrder S ep) es).length_eq
  rw[Rq]
  simp only[Oa] at pm
  omega
 rw[this]
 exact h
theorem FK (j:Nat):OV #[j] 0=0:=by
 unfold OV
 simp[Uj]
theorem below_1 (j:Nat):OV #[j] (j+1)=1:=by
 unfold OV
 simp[Uj]
theorem uX {prog:NO}{w:N0}{A:NY}{E:Nu->Nv->Prop}{s:Nv}{S:Addr}{sl i ep:Nat}{o:Obj}{es:Array (Int×Nu)}{t:OT}{Q:Option (Nu×Nat)->Nv->Prop}(bt:w.params.followText "set-order" = false)
  (ho:s.heap.get? S=some o) (hd:o.data=.set es ep t) (ft:t.fits es.size=true) (ld:t.led=true) (hz:es.size<=1) (h:Q (match es[OV t.place sl]?,t.place[OV t.place sl]? with | some (_,x),some j=>some (x,j+1) | _,_=>none) s):NL (NS prog w) A (S6 S sl i ep) Q E s:=by
 unfold S6
 refine wpAny_bind (OU ho hd ft (wpAny_bind (gc ?_)))
 rw[if_neg (by rw[bt];simp)]
 dsimp only
 refine (show NL _ _ (if ((!t.plain)&&decide (es.size > 1))=true then _ else _) _ _ _ from ?_)
 rw[if_neg (by simp;omega)]
 refine wpAny_bind ?_
 refine (show NL _ _ (if (!t.led && !es.isEmpty)=true then _ else pure ()) _ _ _ from ?_)
 rw[if_neg (by rw[ld];simp)]
 exact wpAny_pure <| wpAny_pure h
end
section
open PySem PySem.Spec PyProof PyProof.Rows L2
theorem D2 {prog:NO}{w:N0}{A:NY}{E:Nu->Nv->Prop}{s:Nv}{it S:Addr}{sl:Int}{i n ep nx:Nat}{o:Obj}{es:Array (Int×Nu)}{t:OT}{v:Nu}{Q:Option Nu->Nv->Prop}
  (hit:SIt s.heap it S (.int sl 0) i n ep) (ho:s.heap.get? S=some o) (hd:o.data=.set es ep t) (ft:t.fits es.size=true) (hn:es.size=n)
  (hx:∀ (E':Nu->Nv->Prop) (R:Option (Nu×Nat)->Nv->Prop),R (some (v,nx)) s->NL (NS prog w) A.in1 (S6 S sl.toNat ((i:Nat):Int).toNat ((ep:Nat):Int).toNat) R E' s)
  (h:∀ h',SIt h' it S (.int nx 0) (i+1) n ep->PR it s.heap h'->Q (some v) { s with heap:=h' }):NL (NS prog w) A (Qs (.ref it)) Q E s:=by
 obtain ⟨oi,e1,e2,e3⟩:=hit
 have ty:s.TypeIs (.ref it) "set_iterator" := ⟨oi,e1,e2⟩
 unfold Qs
 refine wpAny_bind (QR (OB (name := "__next__") ty bS (OE bS ty cG ?_ (hW _))))
 unfold P5.«set_iterator.__next__»
 refine wpAny_bind (wpAny_pure (wpAny_bind (Qy e1 e3 ?_)))
 dsimp only
 refine wpAny_bind (Pb ho hd ft ?_)
 rw[if_neg (by rw[hn];simp)]
 refine wpAny_bind (hx _ _ ?_)
 dsimp only
 have g1:=Oj (λo=>Pe (·.setIfInBounds 0 (P9 (nx:Int))) o) e1 (OZ (N3 e3 _))
 refine wpAny_bind (Pk e1 e3 (by simp) ?_)
 refine wpAny_bind (Pk g1 (N3 e3 _) (by simp) (wpAny_pure ⟨_,rfl,wpAny_pure (h _ ?_ ((OH ..).trans (OH ..)))⟩))
 refine ⟨_,Oj _ g1 (OZ (N3 (N3 e3 _) _)),(PZ ..).trans ((PZ ..).trans e2),?_⟩
 rw[N3 (N3 e3 _)]
 simp[P9]
theorem BF {prog:NO}{w:N0}{A:NY}{E:Nu->Nv->Prop}{s:Nv}{S:Addr}{o:Obj}{es:Array (Int×Nu)}{ep:Nat}{t:OT}{Q:Nu->Nv->Prop}(ho:s.heap.get? S=some o)(hc:o.cls=.type "set")(hd:o.data=.set es ep t)(ft:t.fits es.size=true)(zs:es.size<=sizeLine)
  (h0:(w.params.followText "set-order" = true∨t.plain=true∨es.size<=1)->Q (.ref s.heap.objs.size) { s with heap:=s.heap.push { cls:=.type "set_iterator", data:=.fields #[.int 0 0,.int 0 0,.ref S,.int es.size 0,.int ep 0] } })
  (h1:w.params.followText "set-order" = false->∀ (pl:List Nat) d,pl.Perm (O6 es.size)->∀ g,g=s.heap.push { cls:=.type "tuple", data:=.seq (pl.map λj:Nat=>P9 j).toArray }->Q (.ref g.objs.size) { s with heap:=g.push { cls:=.type "set_iterator", data:=.fields #[.ref s.heap.objs.size,.int 0 0,.ref S,.int es.size 0,.int ep 0] },drawn:=d }) :
  NL (NS prog w) A (Uu (.ref S)) Q E s:=by
 have ty:s.TypeIs (.ref S) "set" := ⟨o,ho,hc⟩
 refine Uk ty US (OE US ty qX ?_ (F.args_set_iter_1 _))
 unfold P5.«frozenset.__iter__»
 refine wpAny_bind ?_
 unfold Vx
 refine wpAny_bind <| wpAny_pure <| wpAny_pure ?_
 refine wpAny_bind ?_
 unfold Vq
 refine wpAny_bind (Pb ho hd ft (wpAny_pure ?_))
 refine wpAny_bind ?_
 unfold setDrawn
 refine wpAny_bind (OU ho hd ft (wpAny_bind (gc (wpAny_pure ?_))))
 dsimp only
 refine (show NL _ _ (if (!w.params.followText "set-order" && ((!t.plain)&&decide (es.size > 1)))=true then _ else _) _ _ _ from ?_)
 by_cases q:(!w.params.followText "set-order" && ((!t.plain)&&decide (es.size > 1)))=true
 ·rw[if_pos q]
  have bt:w.params.followText "set-order" = false:=by
   simp only[Nz,Bool.not_eq_true'] at q
   exact q.1
  refine wpAny_bind (qZ _ _ _ _ (by simp) λpl d pm=>wpAny_bind (wpAny_newTuple ?_ (by rw[NC,pm.length_eq,Qz];exact zs)))
  refine wpAny_bind (Ul (Nw _ ho) hd ft ?_)
  refine wpAny_bind (j6 (by simp) (wpAny_pure ⟨_,rfl, "set_iterator", _,⟨_,NH _ rfl,rfl⟩,bS.lookup,h1 bt pl d pm _ rfl⟩))
 ·rw[if_neg q]
  refine wpAny_bind (wpAny_pure (wpAny_bind (Ul ho hd ft ?_)))
  refine wpAny_bind (j6 (by simp) (wpAny_pure ⟨_,rfl, "set_iterator", _,⟨_,NH _ rfl,rfl⟩,bS.lookup,h0 ?_⟩))
  by_cases b1:w.params.followText "set-order" = true
  ·exact .inl b1
  ·by_cases b2:t.plain=true
   ·exact .inr (.inl b2)
   ·refine .inr (.inr ?_)
    by_cases b3:es.size<=1
    ·exact b3
    ·exact absurd (by simp[b1,b2];omega) q
end
section
open PySem PySem.Spec PyProof PyProof.Rows L2
theorem rJ:Ud table "set_iterator.__iter__" = some P5.«dict_keyiterator.__iter__»:=entryFor_alias (id' := "dict_keyiterator.__iter__") (by kernel_rfl) rfl (by decide +kernel) (by kernel_rfl)
theorem my:Slot "set_iterator" "__iter__" "set_iterator.__iter__" :=
 Slot.of (T := "set_iterator") (owner := "set_iterator") (n := "__iter__") (by (rw[Q4,PX]);kernel_rfl) (by decide +kernel) (by decide +kernel) (by decide +kernel) (by first | exact .inl (by decide +kernel) | exact .inr (by decide +kernel)) (by (rw[SS]);kernel_rfl)
theorem wZ (a:Nu):argsOk "set_iterator.__iter__" ⟨[a],[]⟩:=by
 unfold argsOk
 rw[signature?_of (id := "set_iterator.__iter__") (n := "__reti__".toList) (o := "rotareti_tes".toList) (by kernel_rfl) yo]
 kernel_rfl
theorem nT {prog:NO}{w:N0}{A:NY}{E:Nu->Nv->Prop}{s:Nv}{it S:Addr}{v:Nu}{i n ep:Nat}{Q:Nu->Nv->Prop}(hit:SIt s.heap it S v i n ep)(h:Q (.ref it) s):NL (NS prog w) A (Uu (.ref it)) Q E s:=by
 obtain ⟨o,e1,e2,e3⟩:=hit
 have ty:s.TypeIs (.ref it) "set_iterator" := ⟨o,e1,e2⟩
 refine Uk ty my (OE my ty rJ (show NL _ _ (ret (.ref it)) _ _ s from ?_) (wZ _))
 exact wpAny_pure ⟨_,rfl,_,_,ty,bS.lookup,h⟩
theorem vx {prog:NO}{w:N0}{A:NY}(hA:A.handled=none){I S tp:Addr}{n ep:Nat}{o ot:Obj}{es:Array (Int×Nu)}{t:OT}{pl:List Nat}{kt:Nat}(n1:S≠I)(n2:tp≠I)
  (hd:o.data=.set es ep t) (ft:t.fits es.size=true) (hn:es.size=n) (hc:ot.cls=.type "tuple") (hdt:ot.data=.seq (pl.map λj:Nat=>P9 j).toArray kt) (pm:pl.Perm (O6 n)) :
  Walks prog w A I [I,S,tp] [I] n (λi v=>∃ j y,pl[i]? = some j/\es[j]? = some y/\v=y.2) (λi h=>SIt h I S (.ref tp) i n ep/\h.get? S=some o/\h.get? tp=some ot) where
 sub:=λb hb=>by simp at hb;subst hb;simp
 frame:=λi h h' ⟨⟨oi,e1,e2,e3⟩,e4,e5⟩ k=>⟨⟨oi,k I (by simp) _ e1,e2,e3⟩,k S (by simp) _ e4,k tp (by simp) _ e5⟩
 item:=λi s Q E hi ⟨hit,e4,e5⟩ hQ=>by
  have hl:pl.length=n:=by rw[pm.length_eq,Qz]
  have hj:pl[i]? = some pl[i]:=N2 (by omega)
  have hb:pl[i] < n:=PD.mp (pm.mem_iff.mp (QK (by omega)))
  have hy:es[pl[i]]? = some es[pl[i]]:=N9 (by omega)
  refine Ao hit e4 hd ft hn e5 hc hdt hj hy λh' hit' sb=>hQ _ h' s.toks ⟨_,_,hj,hy,rfl⟩ ⟨hit',(sb.2 S n1).trans e4,(sb.2 tp n2).trans e5⟩ λb o hb e=>(sb.2 b (by simpa using hb)).trans e
 done:=λs Q E ⟨hit,e4,e5⟩ hQ=>by
  have hl:pl.length=n:=by rw[pm.length_eq,Qz]
  exact pF hA hit e4 hd ft hn e5 hc hdt (PY (by omega)) λh' k=>hQ h' s.toks λb o hb e=>k b o (by simpa using hb) e
 self:=λi s Q E ⟨hit,_,_⟩ q=>nT hit q
theorem xW {prog:NO}{w:N0}{A:NY}(hA:A.handled=none)(bt:w.params.followText "set-order" = true){I S:Addr}{n ep:Nat}{o:Obj}{es:Array (Int×Nu)}{t:OT}(n1:S≠I)
  (hd:o.data=.set es ep t) (ft:t.fits es.size=true) (hn:es.size=n) :
  Walks prog w A I [I,S] [I] n (λi v=>∃ y,(Qo (w.params.setOrder S ep) es)[i]? = some y/\v=y.2) (λi h=>SIt h I S (.int 0 0) i n ep/\h.get? S=some o) where
 sub:=λb hb=>by simp at hb;subst hb;simp
 frame:=λi h h' ⟨⟨oi,e1,e2,e3⟩,e4⟩ k=>⟨⟨oi,k I (by simp) _ e1,e2,e3⟩,k S (by simp) _ e4⟩
 item:=λi s Q E hi ⟨hit,e4⟩ hQ=>by
  have hl:(Qo (w.params.setOrder S ep) es).size=n:=by
   have:=(iF (w.params.setOrder S ep) es).length_eq
   simp only[Oa] at this
   omega
  have hy:(Qo (w.params.setOrder S ep) es)[i]? = some (Qo (w.params.setOrder S ep) es)[i]:=N9 (by omega)
  exact Dc bt hit e4 hd ft hn hy λh' hit' sb=>hQ _ h' s.toks ⟨_,hy,rfl⟩ ⟨hit',(sb.2 S n1).trans e4⟩ λb o hb e=>(sb.2 b (by simpa using hb)).trans e
 done:=λs Q E ⟨hit,e4⟩ hQ=>vS hA hit e4 hd ft hn (λE' R r=>by rw[Oo,Oo];exact pO bt e4 hd ft (by omega) r) λh' k=>hQ h' s.toks λb o hb e=>k b o (by simpa using hb) e
 self:=λi s Q E ⟨hit,_⟩ q=>nT hit q
end
section
open PySem PySem.Spec PyProof PyProof.Rows L2
theorem AI {prog:NO}{w:N0}{A:NY}(hA:A.handled=none)(bt:w.params.followText "set-order" = false){I S:Addr}{n ep:Nat}{o:Obj}{es:Array (Int×Nu)}{t:OT}(n1:S≠I)
  (hd:o.data=.set es ep t) (ft:t.fits es.size=true) (hn:es.size=n) (ld:t.led=true) (hz:es.size<=1) :
  Walks prog w A I [I,S] [I] n (λi v=>∃ y,es[i]? = some y/\v=y.2) (λi h=>SIt h I S (.int (if i=0 then 0 else ((t.place.getD 0 0+1:Nat):Int)) 0) i n ep/\h.get? S=some o) where
 sub:=λb hb=>by simp at hb;subst hb;simp
 frame:=λi h h' ⟨⟨oi,e1,e2,e3⟩,e4⟩ k=>⟨⟨oi,k I (by simp) _ e1,e2,e3⟩,k S (by simp) _ e4⟩
 item:=λi s Q E hi ⟨hit,e4⟩ hQ=>by
  have i0:i=0:=by omega
  subst i0
  have ps:t.place.size=1:=by
   have:=ft
   unfold Vr at this
   simp only[Nz,beq_iff_eq] at this
   omega
  obtain ⟨j,ej⟩:∃ j,t.place = #[j]:=by
   refine ⟨t.place[0],?_⟩
   apply Array.ext
   ·simpa using ps
   ·intro k h1 h2
    have:k=0:=by omega
    subst this
    simp
  have hy:es[0]? = some es[0]:=N9 (by omega)
  rw[if_pos rfl] at hit
  refine D2 (v:=es[0].2) (nx:=j+1) hit e4 hd ft hn (λE' R r=>?_) λh' hit' sb=>hQ _ h' s.toks ⟨_,hy,rfl⟩ ⟨?_,(sb.2 S n1).trans e4⟩ λb o hb e=>(sb.2 b (by simpa using hb)).trans e
  ·rw[Oo]
   refine uX bt e4 hd ft ld hz ?_
   rw[ej]
   show R (match es[OV #[j] 0]?,(#[j]:Array Nat)[OV #[j] 0]? with | some (_,x),some j=>some (x,j+1) | _,_=>none) s
   rw[FK,hy]
   exact r
  ·rw[if_neg (by omega),ej]
   exact hit'
 done:=λs Q E ⟨hit,e4⟩ hQ=>by
  refine vS hA hit e4 hd ft hn (λE' R r=>?_) λh' k=>hQ h' s.toks λb o hb e=>k b o (by simpa using hb) e
  rw[Oo]
  refine uX bt e4 hd ft ld hz ?_
  have ps:t.place.size=n:=by
   have:=ft
   unfold Vr at this
   simp only[Nz,beq_iff_eq] at this
   omega
  have:es[OV t.place (if n=0 then (0:Int) else ((t.place.getD 0 0+1:Nat):Int)).toNat]? = none:=by
   rw[Rq]
   by_cases z:n=0
   ·omega
   ·have z1:n=1:=by omega
    obtain ⟨j,ej⟩:∃ j,t.place = #[j]:=by
     refine ⟨t.place[0],?_⟩
     apply Array.ext
     ·show t.place.size=1;omega
     ·intro k h1 h2
      have:k=0:=by omega
      subst this
      simp
    rw[if_neg z,Oo,ej]
    show es.size<=OV #[j] (j+1)
    rw[below_1]
    omega
  rw[this]
  exact r
 self:=λi s Q E ⟨hit,_⟩ q=>nT hit q
end
section
open PySem PySem.Spec PyProof PyProof.Rows L2
theorem Cm {prog:NO}{w:N0}{A:NY}{E:Nu->Nv->Prop}{s:Nv}{r:Addr}{Q:Bool->Nv->Prop}(ty:s.TypeIs (.ref r) "set")(h:Q false s):NL (NS prog w) A (Pc (.ref r)) Q E s:=by
 unfold Pc -- a set has its own len
 refine wpAny_bind (Q3 ty PySem.F.slot_set_len.lookup ?_)
 generalize hid:("set.__len__" : String)=nm
 wp_delta
 rw[show splitId nm=some ("set", "__len__") by subst hid;decide +kernel]
 subst hid
 refine wpAny_bind (PK (T := "set") (b:=true) ty sub_set_self ?_)
 refine Q5 (λz=>absurd z (by decide)) λ_=>Q5 (λ_=>?_) λz=>absurd (by decide +kernel) z
 exact wpAny_bind (wpAny_typeOf ty (wpAny_pure h))
theorem Gh {prog:NO}{w:N0}{A:NY}{R:Ux->Nv->Prop}{s:Nv}{L r:Addr}{res:Nu}{c₀:Nat}{es:Array (Int×Nu)}(hA:A.handled=none)(zs:es.size<=sizeLine)(ne:L≠r)
  (iter:∀ (E':Nu->Nv->Prop) (Q':Nu->Nv->Prop),(∀ (I:Addr) (h1:Heap) (d:Drawn) (fp:List Addr) (P:Nat->Nu->Prop) (St:Nat->Heap->Prop),Walks prog w A.in1 I fp [I] es.size P St->St 0 h1->L ∉ fp->(∀ b o,s.heap.get? b=some o->b≠I/\h1.get? b=some o)->(∀ acc,UX P acc es.size->acc.toList.Perm (es.toList.map (·.2)))->Q' (.ref I) { s with heap:=h1,drawn:=d })->NL (NS prog w) A.in1 (Uu (.ref r)) Q' E' s)
  (hr:∃ o,s.heap.get? r=some o/\o.cls=.type "set") (hL:s.heap.get? L=some { cls:=.type "list", data:=.seq #[] c₀ })
  (hR:∀ h' tk d acc c,(∀ b o,b≠L->s.heap.get? b=some o->h'.get? b=some o)->h'.get? L=some { cls:=.type "list", data:=.seq acc c }->acc.toList.Perm (es.toList.map (·.2))->R (.ok (.ret res)) { s with heap:=h',toks:=tk,drawn:=d }) :
  NL (NS prog w) A.in1 (OP (.ref L) (.ref r) res) (λfin s'=>match fin with | .done f=>R (.ok f) s' | .again c'=>c'.quiet=true/\Pt (NS prog w) A c' R s') (λe s'=>R (.error e) s') s:=by
 obtain ⟨o,ho,hc⟩:=hr
 unfold OP -- neither a list nor a tuple
 refine wpAny_bind (wpAny_typeOf (T := "set") (show s.TypeIs (.ref r) "set" from ⟨o,ho,hc⟩) ?_)
 have h1:PB (.ref L) (.ref r)=false:=by simp[PB,ne]
 rw[if_neg (show ¬ _ by rw[h1];decide)]
 refine wpAny_bind (iter _ _ λI h1 d fp P St W st nf kp fin=>?_)
 have key:∀ (h:Heap) (c tk:Nat),St 0 h->(∀ b o,b≠L->s.heap.get? b=some o->h.get? b=some o)->h.get? L=some { cls:=.type "list", data:=.seq #[] c }->Pt (NS prog w) A (.builtin "list.extend.loop" ⟨[.ref L,.ref I,res],[]⟩) R { s with heap:=h,toks:=tk,drawn:=d }:=λh c tk s0 k0 l0=>by
  refine SU W.toS zs L nf res es.size 0 _ #[] c rfl (OM _) s0 l0 (VM _) λs' acc' c' hm l1 it=>?_
  rw[Vs hm]
  refine hR s'.heap s'.toks d acc' c' (λb o hb e=>hm.heap b o (λz=>?_) (k0 b o hb e)) l1 (fin acc' it)
  rcases NT.mp z with z | z
  ·exact hb z
  ·exact (kp b o e).1 (NK.mp z)
 have hL1:=(kp L _ hL).2
 refine wpAny_bind (wpAny_holding (Cm ⟨o,(kp r o ho).2,hc⟩ ?_))
 refine Q5 (λ_=>?_) λ_=>wpAny_pure ⟨Pz Ru _,key h1 c₀ _ st (λb o _ e=>(kp b o e).2) hL1⟩
 refine wpAny_bind <| wpAny_rule <| wpAny_bind (show NL _ _ (updateSeq L (·.push .none) >>= λ_=>updateSeq L (·.pop)) _ _ _ from ?_)
 have l2:=Oj (PU (·.push Pg)) hL1 rfl
 have l3:=Oj (PU (·.pop)) l2 rfl
 have kpL:∀ b o,b≠L->h1.get? b=some o->((h1.update L (PU (·.push Pg))).update L (PU (·.pop))).get? b=some o:=λb o hb e=>by
  rw[Og _ _ (PC hb),Og _ _ (PC hb)]
  exact e
 refine wpAny_bind <| wpAny_updateSeq hL1 rfl <| wpAny_updateSeq (hz:=by seq_fits) l2 rfl <| wpAny_pure ⟨Pz Ru _,key _ _ _ (W.frame 0 _ _ st λb hb o e=>kpL b o (λz=>nf (z ▸ hb)) e) (λb o hb e=>kpL b o hb (kp b o e).2) l3⟩
end
section
open PySem PySem.Spec PyProof PyProof.Rows L2
theorem qk {xs:Array (Int×Nu)}{acc:Array Nu}{n:Nat}(hn:xs.size=n)(h:UX (λi v=>∃ y,xs[i]? = some y/\v=y.2) acc n):acc.toList=xs.toList.map (·.2):=by
 obtain ⟨h1,h2⟩:=h
 apply QA
 intro i
 rw[Of,Oz,Oz]
 by_cases q:i < n
 ·have e:=N9 (xs:=acc) (i:=i) (by omega)
  obtain ⟨y,e1,e2⟩:=h2 i _ e
  rw[e,e1,e2]
  rfl
 ·rw[OS (by omega),OS (by omega)]
  rfl
theorem Bs {es:Array (Int×Nu)}{acc:Array Nu}{pl:List Nat}(pm:pl.Perm (O6 es.size))(h:UX (λi v=>∃ j y,pl[i]? = some j/\es[j]? = some y/\v=y.2) acc es.size):acc.toList.Perm (es.toList.map (·.2)):=by
 obtain ⟨h1,h2⟩:=h
 have hl:pl.length=es.size:=by rw[pm.length_eq,Qz]
 have e:acc.toList=pl.map λj=>(es[j]?.map (·.2)).getD .none:=by
  apply QA
  intro i
  rw[Of,Oz]
  by_cases q:i < es.size
  ·have e:=N9 (xs:=acc) (i:=i) (by omega)
   obtain ⟨j,y,e0,e1,e2⟩:=h2 i _ e
   rw[e,e0,e2]
   simp[e1]
  ·rw[OS (by omega),PY (by omega)]
   rfl
 rw[e]
 refine (pm.map _).trans ?_
 have:(O6 es.size).map (λj=>(es[j]?.map (·.2)).getD Pg)=es.toList.map (·.2):=by
  apply QA
  intro i
  rw[Of,Of,Oz (xs:=es)]
  by_cases q:i < es.size
  ·rw[List.getElem?_range q,N9 q]
   simp[q]
  ·rw[PY (by simpa using q),OS (by omega)]
   rfl
 rw[this]
theorem Jl {prog:NO}{w:N0}{A:NY}(hA:A.handled=none){s:Nv}{S L:Addr}{o:Obj}{es:Array (Int×Nu)}{ep:Nat}{t:OT}(ho:s.heap.get? S=some o)(hc:o.cls=.type "set")(hd:o.data=.set es ep t)(ft:t.fits es.size=true)(zs:es.size<=sizeLine)
  (ld:t.led = !w.params.followText "set-order") (pl:es.size=0∨t.plain=false) (ne:L≠S) (hL:L < s.heap.objs.size) (E':Nu->Nv->Prop) (Q':Nu->Nv->Prop)
  (q:∀ (I:Addr) (h1:Heap) (d:Drawn) (fp:List Addr) (P:Nat->Nu->Prop) (St:Nat->Heap->Prop),Walks prog w A I fp [I] es.size P St->St 0 h1->L ∉ fp->(∀ b o,s.heap.get? b=some o->b≠I/\h1.get? b=some o)->(∀ acc,UX P acc es.size->acc.toList.Perm (es.toList.map (·.2)))->Q' (.ref I) { s with heap:=h1,drawn:=d }):NL (NS prog w) A (Uu (.ref S)) Q' E' s:=by
 have lS:S < s.heap.objs.size:=NG ho
 refine BF ho hc hd ft zs (λc=>?_) λbt pl' d pm g eg=>?_
 ·by_cases bt:w.params.followText "set-order" = true
  ·refine q s.heap.objs.size _ s.drawn _ _ _ (xW hA bt (I:=s.heap.objs.size) (S:=S) (NP lS) hd ft rfl) ⟨⟨_,NH _ rfl,rfl,rfl⟩,Nw _ ho⟩ ?_ (λb o e=>⟨NP (NG e),Nw _ e⟩) λacc h=>?_
   ·simp only[NT,Oy,or_false,not_or];exact ⟨NP hL,ne⟩
   ·rw[qk (by have:=(iF (w.params.setOrder S ep) es).length_eq;simpa using this) h]
    exact (iF _ _).map _
  ·have bt':w.params.followText "set-order" = false:=by simpa using bt
   have z1:es.size<=1:=by
    rcases c with c | c | c
    ·exact absurd c bt
    ·rcases pl with e | e
     ·omega
     ·rw[e] at c;cases c
    ·exact c
   refine q s.heap.objs.size _ s.drawn _ _ _ (AI hA bt' (I:=s.heap.objs.size) (S:=S) (NP lS) hd ft rfl (by rw[ld,bt'];rfl) z1) ⟨⟨_,NH _ rfl,rfl,rfl⟩,Nw _ ho⟩ ?_ (λb o e=>⟨NP (NG e),Nw _ e⟩) λacc h=>?_
   ·simp only[NT,Oy,or_false,not_or];exact ⟨NP hL,ne⟩
   ·rw[qk rfl h]
 ·have eg1:s.heap.objs.size < g.objs.size:=by rw[eg,Heap.size_push];omega
  have kg:∀ b o,s.heap.get? b=some o->g.get? b=some o:=λb o e=>by rw[eg];exact Nw _ e
  have tg:g.get? s.heap.objs.size=some { cls:=.type "tuple", data:=.seq (pl'.map λj:Nat=>P9 j).toArray }:=by rw[eg];exact NH _ rfl
  refine q g.objs.size _ d _ _ _ (vx hA (I:=g.objs.size) (S:=S) (tp:=s.heap.objs.size) (NP (Qw lS eg1)) (NP eg1) hd ft rfl rfl rfl pm) ⟨⟨_,NH _ rfl,rfl,rfl⟩,Nw _ (kg _ _ ho),Nw _ tg⟩ ?_ (λb o e=>⟨NP (Qw (NG e) eg1),Nw _ (kg _ _ e)⟩) λacc h=>Bs pm h
  simp only[NT,Oy,or_false,not_or]
  exact ⟨NP (Qw hL eg1),ne,NP hL⟩
end
section
open PySem PySem.Spec PyProof PyProof.Rows L2
theorem vG {prog:NO}{w:N0}{A:NY}{E:Nu->Nv->Prop}(hA:A.handled=none){s:Nv}{S:Addr}{o:Obj}{es:Array (Int×Nu)}{ep:Nat}{t:OT}{K:Nu->Nv->Prop}(ho:s.heap.get? S=some o)(hc:o.cls=.type "set")(hd:o.data=.set es ep t)(ft:t.fits es.size=true)(zs:es.size<=sizeLine)
  (ld:t.led = !w.params.followText "set-order") (pl:es.size=0∨t.plain=false)
  (h:∀ h' tk d acc c,(∀ b o,s.heap.get? b=some o->h'.get? b=some o)->h'.get? s.heap.objs.size=some { cls:=.type "list", data:=.seq acc c }->acc.toList.Perm (es.toList.map (·.2))->K (.ref s.heap.objs.size) { s with heap:=h',toks:=tk,drawn:=d }):NL (NS prog w) A (runValue (.builtin "proto.collect" { pos:=[.ref S] })) K E s:=by
 have lS:S < s.heap.objs.size:=NG ho
 refine SQ <| codeAny_builtin Sz ?_
 rw[Pw (A:=A) SA ⟨[.ref S],[]⟩]
 refine (show NL _ A.in1 (newList [] >>= λl=>again (.builtin "list.__iadd__" ⟨[l,.ref S],[]⟩)) _ _ s from wpAny_bind (wpAny_newList (wpAny_pure ⟨Pz QB _,codeAny_builtin Um ?_⟩)))
 rw[Pw (A:=A) QB ⟨[.ref s.heap.objs.size,.ref S],[]⟩]
 refine (show NL _ A.in1 (OP (.ref s.heap.objs.size) (.ref S) (.ref s.heap.objs.size)) _ _ _ from ?_)
 have hL:(s.heap.push (Qh "list" ([]:List Nu).toArray 0)).get? s.heap.objs.size=some { cls:=.type "list", data:=.seq #[] 0 }:=NH _ rfl
 have ho':(s.heap.push (Qh "list" ([]:List Nu).toArray 0)).get? S=some o:=Nw _ ho
 refine Gh (prog:=prog) (R:=λr s'=>match r with | .ok (.ret v)=>K v s' | .ok _=>False | .error e=>E e s') (s:={ s with heap:=s.heap.push (Qh "list" ([]:List Nu).toArray 0) }) (res:=.ref s.heap.objs.size) (es:=es) hA zs (Qr lS) (λE' Q' q=>Jl (A:=A.in1) hA (s:={ s with heap:=s.heap.push (Qh "list" ([]:List Nu).toArray 0) }) (L:=s.heap.objs.size) ho' hc hd ft zs ld pl (Qr lS) (NG hL) E' Q' q) ⟨o,ho',hc⟩ hL λh' tk d acc c kp hl pm=>?_
 exact h h' tk d acc c (λb o e=>kp b o (NP (NG e)) (Nw _ e)) hl pm
theorem tL {prog:NO}{w:N0}{A:NY}{E:Nu->Nv->Prop}(hA:A.handled=none){s:Nv}{S:Addr}{o:Obj}{es:Array (Int×Nu)}{ep:Nat}{t:OT}{Q:List Nu->Nv->Prop}(ho:s.heap.get? S=some o)(hc:o.cls=.type "set")(hd:o.data=.set es ep t)(ft:t.fits es.size=true)(zs:es.size<=sizeLine)
  (ld:t.led = !w.params.followText "set-order") (pl:es.size=0∨t.plain=false)
  (h:∀ h' tk d vs,(∀ b o,s.heap.get? b=some o->h'.get? b=some o)->vs.Perm (es.toList.map (·.2))->Q vs { s with heap:=h',toks:=tk,drawn:=d }):NL (NS prog w) A (UY (.ref S)) Q E s:=by
 unfold UY
 refine wpAny_bind (vG hA ho hc hd ft zs ld pl λh' tk d acc c kp hl pm=>?_)
 exact wpAny_bind (U3 hl (wpAny_pure (h h' tk d acc.toList kp pm)))
end
section
open PySem PySem.Spec PyProof PyProof.Rows L2
theorem zB {vs us:List Nu}(pm:vs.Perm us):∀ {ss:List Str},Qx us ss->∃ ss1,Qx vs ss1/\ss1.Perm ss:=by
 induction pm with
 | nil=>intro ss h;cases h;exact ⟨[],.nil,.refl _⟩
 | cons x _ ih=>
  intro ss h
  cases h with
  | cons y t h=>
  obtain ⟨r,h1,h2⟩:=ih h
  exact ⟨y::r,.cons y t h1,h2.cons y⟩
 | swap a b l=>
  intro ss h
  cases h with
  | cons y t h=>
  cases h with
  | cons y2 t2 h=>exact ⟨_,.cons y2 t2 (.cons y t h),.swap ..⟩
 | trans _ _ ih1 ih2=>
  intro ss h
  obtain ⟨r,h1,h2⟩:=ih2 h
  obtain ⟨r',h3,h4⟩:=ih1 h1
  exact ⟨r',h3,h4.trans h2⟩
theorem Ci {vs:List Nu}{ss:List Str}(h:Qx vs ss):vs.length=ss.length:=by
 induction h with
 | nil=>rfl
 | cons y t _ ih=>rw[ND,ND,ih]
theorem xX {prog:NO}{w:N0}{A:NY}{E:Nu->Nv->Prop}(hA:A.handled=none){s:Nv}{S:Addr}{o:Obj}{es:Array (Int×Nu)}{ep:Nat}{t:OT}{Q:Nu->Nv->Prop}{ss:List Str}(ho:s.heap.get? S=some o)(hc:o.cls=.type "set")(hd:o.data=.set es ep t)(ft:t.fits es.size=true)(few:es.size < 64)
  (ld:t.led = !w.params.followText "set-order") (pl:es.size=0∨t.plain=false) (hS:Qx (es.toList.map (·.2)) ss)
  (h:∀ (g g1:Heap) tk d (out:Array Nu) (n:Nat) (ss':List Str),(∀ b o,s.heap.get? b=some o->g.get? b=some o)->(∀ b o,g.get? b=some o->g1.get? b=some o)->g1.get? g.objs.size=some (Qh "list" out n)->Qx out.toList ss'->ss'.Perm ss->sortedS ss'=true->Q (.ref g.objs.size) { s with heap:=g1,toks:=tk,drawn:=d }) :
  NL (NS prog w) A (Ro (Value.builtin "sorted") [.ref S]) Q E s:=by
 refine Calls.call_function_entry (b:=P5.«sorted») kind_sorted plain_sorted entry_sorted (args_sorted1 _) ?_
 refine (show NL _ _ (do checkCount "sorted" 1 1 1;let xs ← UY (.ref S);let z ← newList xs;let _ ← Ry [z] (call (.builtin "list.sort") [z]);ret z) _ _ s from ?_)
 refine wpAny_bind (wpAny_pure (wpAny_bind (tL (A:=A.in1) hA ho hc hd ft (by rw[Rz];omega) ld pl λg tk d vs kp pm=>?_)))
 obtain ⟨s1,i1,i2⟩:=zB pm hS
 have lv:vs.length < 64:=by rw[pm.length_eq,NC,Oa];exact few
 have at':(g.push (Qh "list" vs.toArray 0)).get? g.objs.size=some (Qh "list" vs.toArray 0):=NH _ rfl
 refine wpAny_bind (wpAny_newList (wpAny_bind (wpAny_holding (OE slot_list_sort ⟨_,at',rfl⟩ entry_list_sort (list_sort_treeK strKind_oneLt at' i1.keysOf (λv₁ v₂ rest e=>keyKind_strs (by rw[← e];exact i1)) lv λst' hp hs=>⟨_,rfl,wpAny_pure ⟨_,rfl,?_⟩⟩) (args_list_sort _)))) (by rw[Rz];omega))
 obtain ⟨ss',a1,a2,a3⟩:=sorted_out_str i1 hp hs
 obtain ⟨⟨m,e⟩,old⟩:=sortedHeap_at (out:=Array.map (λx=>x.2) (arrOf st')) at'
 exact h g _ tk d _ m ss' kp old e a1 (a2.trans i2) a3
end
section
open PySem PySem.Spec PyProof PyProof.Rows L2
theorem vo {α:Type} [DecidableEq α]:∀ (D l:List α),D.Nodup->(∀ d∈D,d∈l)->l.length=D.length->l.Perm D:=by
 intro D
 induction D with
 | nil=>
  intro l _ _ hl
  rw[PQ hl]
 | cons d D ih=>
  intro l nd sub hl
  have ⟨n1,n2⟩:=Qe.mp nd
  have hd:=sub d NB
  refine (List.perm_cons_erase hd).trans ((ih (l.erase d) n2 (λx hx=>?_) ?_).cons d)
  ·exact (List.mem_erase_of_ne (show x≠d from λz=>n1 (by rw[← z];exact hx))).mpr (sub x (NF _ hx))
  ·rw[List.length_erase_of_mem hd,hl]
   rfl
theorem FJ {κ:Type} [DecidableEq κ]:∀ (ks σ:List κ) (k:κ),k∈ddS σ ks↔k∈σ∨k∈ks:=by
 intro ks
 induction ks with
 | nil=>intro σ k;unfold ddS;simp
 | cons a r ih=>
  intro σ k
  unfold ddS
  rw[ih]
  by_cases q:a∈σ
  ·rw[if_pos q,NT]
   constructor
   ·rintro (h | h)
    ·exact .inl h
    ·exact .inr (.inr h)
   ·rintro (h | h | h)
    ·exact .inl h
    ·exact .inl (h ▸ q)
    ·exact .inr h
  ·rw[if_neg q,N1,NK,NT,or_assoc]
theorem Hv {κ:Type} [DecidableEq κ]:∀ (ks σ:List κ),σ.Nodup->(ddS σ ks).Nodup:=by
 intro ks
 induction ks with
 | nil=>intro σ h;exact h
 | cons a r ih=>
  intro σ h
  unfold ddS
  refine ih _ ?_
  by_cases q:a∈σ
  ·rw[if_pos q];exact h
  ·rw[if_neg q]
   refine O5.mpr ⟨h,by simp,λx hx y hy e=>q ?_⟩
   rw[NK] at hy
   rw[← hy,← e];exact hx
theorem Gg {α β:Type} [DecidableEq α] [DecidableEq β] {f:α->β}(inj:∀ a b,f a=f b->a=b):∀ (ks σ:List α),ddS (σ.map f) (ks.map f)=(ddS σ ks).map f:=by
 intro ks
 induction ks with
 | nil=>intro σ;rfl
 | cons a r ih=>
  intro σ
  rw[N7]
  unfold ddS
  have:(f a∈σ.map f)↔a∈σ:=⟨λh=>by obtain ⟨b,hb,e⟩:=N5.mp h;rw[inj _ _ e] at hb;exact hb,λh=>N5.mpr ⟨a,h,rfl⟩⟩
  by_cases q:a∈σ
  ·rw[if_pos q,if_pos (this.mpr q),ih]
  ·rw[if_neg q,if_neg (λz=>q (this.mp z)),← ih,O9];rfl
theorem Et:∀ (l:List (Int×Nu)),(∀ e∈l,∃ y t,e.2=.str y t)->∃ ss,Qx (l.map (·.2)) ss/\∀ y t,(∃ e∈l,e.2=.str y t)->y∈ss:=by
 intro l
 induction l with
 | nil=>intro _;exact ⟨[],.nil,λy t ⟨e,h,_⟩=>nomatch h⟩
 | cons e l ih=>
  intro h
  obtain ⟨ss,h1,h2⟩:=ih λe he=>h e (NF _ he)
  obtain ⟨y,t,e1⟩:=h e NB
  refine ⟨y::ss,?_,λy' t' ⟨e',he',q⟩=>?_⟩
  ·rw[N7,e1];exact .cons y t h1
  ·rcases NT.mp he' with (rfl | he')
   ·rw[e1] at q;cases q;exact NB
   ·exact NF _ (h2 y' t' ⟨e',he',q⟩)
theorem AD {prog:NO}{w:N0}{led:Bool}{h:Heap}{a:Addr}{D:List Str}(nd:D.Nodup)(hm:oe (dB prog w) led h a (D.map Qp)) :
  ∃ o es ep t ss,h.get? a=some o/\o.cls=.type "set" /\ o.data=.set es ep t/\t.fits es.size=true/\es.size=D.length/\t.led=led/\(es.size=0∨t.plain=false)/\Qx (es.toList.map (·.2)) ss/\ss.Perm D:=by
 obtain ⟨o,es,ep,t,ho,ex,hd,el,ks,zs,ft,zl,ld,pl⟩:=hm
 rw[NC] at zl
 have all:∀ e∈es.toList,∃ y t,e.2=.str y t:=λe he=>by
  obtain ⟨⟨k,hk,_⟩,_⟩:=el e he
  have:=(ks k).mpr ⟨e,he,hk⟩
  obtain ⟨y,_,rfl⟩:=N5.mp this
  rcases bD (show kX (.inr y) e.2=true from hk) with ⟨i,t,e1,e2⟩ | ⟨x,t,e1,e2⟩
  ·cases e1
  ·exact ⟨x,t,e2⟩
 obtain ⟨ss,h1,h2⟩:=Et es.toList all
 refine ⟨o,es,ep,t,ss,ho,ex.1,hd,ft,zl,ld,pl,h1,vo D ss nd (λd hd'=>?_) ?_⟩
 ·obtain ⟨e,he,hk⟩:=(ks (.inr d)).mp (N5.mpr ⟨d,hd',rfl⟩)
  rcases bD (show kX (.inr d) e.2=true from hk) with ⟨i,t,e1,e2⟩ | ⟨x,t,e1,e2⟩
  ·cases e1
  ·cases e1;exact h2 d t ⟨e,he,e2⟩
 ·rw[← Ci h1,NC,Oa,zl]
end
section
open PySem PySem.Spec PyProof PyProof.Rows L2
abbrev ddT (ss:List Str):List Str:=ddS [] ss
theorem Bh (ss:List Str):(ddT ss).Nodup:=Hv ss [] .nil
theorem GC {ss:List Str}{s:Str}:s∈ddT ss↔s∈ss:=by rw[ddT,FJ];simp
theorem zM {X:Cx}{pins:List (Addr×Obj)}{σ:List (Option V)}{H:Hp}{s:Nv}{d:Drawn}(I:Inv X pins σ H s):Inv X pins σ H { s with drawn:=d }:=⟨I.ok,I.os,I.bare,I.base,I.loc,I.cell,I.free,I.gR,I.pin,I.hok,I.len⟩
theorem zY:∀ {us:List Nu} {ss:List Str},Qx us ss->∀ u∈us,u.scannable=true/\SO 8 u=pure false:=by
 intro us ss h
 induction h with
 | nil=>intro u hu;cases hu
 | cons y t _ ih=>
  intro u hu
  rcases NT.mp hu with (rfl | hu)
  ·exact ⟨rfl,hashByValue.eq_5 ..⟩
  ·exact ih u hu
section
variable {X:Cx} {e:NX} {x y:Str} {p p' pos cpos:Pos}
theorem Bl {te:TE}{pins:List (Addr×Obj)}{σ:L2.St}{H:Hp}{s:Nv}{R:Nu->Nv->Prop}(hc:X.calm=true)(hg:Gl X y)(hm:X.mg y=none)(hv:N4 y=some (.type "set"))(ho:PE X e te)(I:Inv X pins σ H s)
  {K:VK} (h:te σ H K) (hk:∀ v H1,K v H1->∃ (l:Addr) (ss:List Str),v=.ref l/\SqL X.K H1 l (ss.map V.str)/\ss.length < 4000/\∀ S s2,Inv X pins σ H1 s2->oe (dB X.prog X.w) (!X.w.params.followText "set-order") s2.heap S ((ddT ss).map Qp)->R (.ref S) s2)
  (hn:y ≠ "__name__" := by decide) (hdb:(y == ("__debug__" : Str))=false:=by decide)
  (he:Nx [e] X.env=(false,OF e X.env)::Nx [] X.env:=by rfl) (hpl:(N8 cpos (Nx [] X.env)).any (·.1)=false:=by rfl) (hnil:N8 cpos (Nx [] X.env)=[]:=by rfl) :
  NL (NS X.prog X.w) X.A (OF (.Call (.Name y p') [e] [] cpos) X.env) R X.xe s:=by
 refine OL (gy I hg hm hv ?_ hn hdb)
 refine OO ?_ he hpl
 rw[he]
 show NL _ _ (S2 ((false,OF _ X.env)::N8 cpos (Nx [] X.env))) _ _ s
 rw[hnil]
 refine Pj (thn (ho pins s σ H _ I h) λv s1 ⟨w1,H1,I1,r1,hK⟩=>Pr ?_)
 obtain ⟨l,ss,ey,sq,hz,q⟩:=hk _ _ hK
 subst ey
 cases (show v=OK l from r1)
 obtain ⟨its,rv,pl,_⟩:=I1.list sq
 obtain ⟨o,e1,e2,n,e3⟩:=pl.isList
 have ri:U9 (dB X.prog X.w) (ss.map Qp) its:=qh (by rw[OR];exact rv)
 refine oP (I1.ok.hd hc) e1 e2 e3 (by simpa using ri) (by simpa using zY (sR rv)) (by rw[NC];unfold scanBound;omega) λh' tk hq kp=>?_
 refine q _ _ (I1.kept (t':=tk) kp) ?_
 rw[show ddS ([]:List Key) (ss.map Qp)=(ddT ss).map Qp from Gg (σ:=[]) (λa b e=>by injection e) ss] at hq
 exact hq
theorem xQ {te:TE}(hc:X.calm=true)(hg:Gl X x)(hm:X.mg x=none)(hv:N4 x=some (.builtin "sorted"))(hg':Gl X y)(hm':X.mg y=none)(hv':N4 y=some (.type "set"))(ho:PE X e te)
  (hn:x ≠ "__name__" := by decide) (hdb:(x == ("__debug__" : Str))=false:=by decide) (hn':y ≠ "__name__" := by decide) (hdb':(y == ("__debug__" : Str))=false:=by decide)
  (he:Nx [e] X.env=(false,OF e X.env)::Nx [] X.env:=by rfl) (hpl:(N8 cpos (Nx [] X.env)).any (·.1)=false:=by rfl) (hnil:N8 cpos (Nx [] X.env)=[]:=by rfl)
  (he':Nx [.Call (.Name y p') [e] [] cpos] X.env=(false,OF (.Call (.Name y p') [e] [] cpos) X.env)::Nx [] X.env:=by rfl) (hpl':(N8 pos (Nx [] X.env)).any (·.1)=false:=by rfl) (hnil':N8 pos (Nx [] X.env)=[]:=by rfl) :
  PE X (.Call (.Name x p) [.Call (.Name y p') [e] [] cpos] [] pos) (λσ H Q=>te σ H λv H1=>∃ (l:Addr) (ss:List Str),v=.ref l/\SqL X.K H1 l (ss.map V.str)/\(ss.length < 4000/\(ddT ss).length < 64)/\∀ ss':List Str,ss'.Perm (ddT ss)->ss'.Pairwise (λa b=>ltS b a=false)->∀ q,H1 q=none->Q (.ref q) (upd H1 q (.lst (ss'.map V.str)))):=by
 intro pins s σ H Q I h
 refine OL (gy I hg hm hv ?_ hn hdb)
 refine PH ?_ he' hpl'
 rw[he']
 show NL _ _ (S2 ((false,OF _ X.env)::N8 pos (Nx [] X.env))) _ _ s
 rw[hnil']
 refine Pj (Bl hc hg' hm' hv' ho I h (λv H1 ⟨l,ss,e1,sq,⟨z1,z2⟩,q⟩=>⟨l,ss,e1,sq,z1,λS s2 I2 hq=>Pr ?_⟩) hn' hdb' he hpl hnil)
 obtain ⟨o,es,ep,t,us,a1,a2,a3,a4,a5,a6,a7,a8,a9⟩:=AD (Bh ss) hq
 refine xX (I2.ok.hd hc) a1 a2 a3 a4 (by omega) a6 a7 a8 λg g1 tk d out n ss' k1 k2 k3 k4 k5 k6=>?_
 have I3:Inv X pins σ H1 { s2 with heap:=g }:=I2.kept (t':=s2.toks) k1
 have I4:=I3.laid (t':=tk) (h':=g1) (o:=.lst (ss'.map V.str)) k2 (NN _) (a:=g.objs.size) ⟨by
  have:ss'.length=(ddT ss).length:=(k5.trans a9).length_eq
  rw[NC,this,Rz];omega,out.toList,n,fv k4,by simpa[Qh] using k3⟩
 exact ⟨.ref _,_,zM (d:=d) I4,rfl,q ss' (k5.trans a9) (qw _ k6) _ (I3.hok.fresh (NN _))⟩
theorem Au {te:TE}(hc:X.calm=true)(hg:Gl X x)(hm:X.mg x=none)(hv:N4 x=some (.builtin "len"))(hg':Gl X y)(hm':X.mg y=none)(hv':N4 y=some (.type "set"))(ho:PE X e te)
  (hn:x ≠ "__name__" := by decide) (hdb:(x == ("__debug__" : Str))=false:=by decide) (hn':y ≠ "__name__" := by decide) (hdb':(y == ("__debug__" : Str))=false:=by decide)
  (he:Nx [e] X.env=(false,OF e X.env)::Nx [] X.env:=by rfl) (hpl:(N8 cpos (Nx [] X.env)).any (·.1)=false:=by rfl) (hnil:N8 cpos (Nx [] X.env)=[]:=by rfl)
  (he':Nx [.Call (.Name y p') [e] [] cpos] X.env=(false,OF (.Call (.Name y p') [e] [] cpos) X.env)::Nx [] X.env:=by rfl) (hpl':(N8 pos (Nx [] X.env)).any (·.1)=false:=by rfl) (hnil':N8 pos (Nx [] X.env)=[]:=by rfl) :
  PE X (.Call (.Name x p) [.Call (.Name y p') [e] [] cpos] [] pos) (λσ H Q=>te σ H λv H1=>∃ (l:Addr) (ss:List Str),v=.ref l/\SqL X.K H1 l (ss.map V.str)/\ss.length < 4000/\Q (.int (ddT ss).length) H1):=by
 intro pins s σ H Q I h
 refine OL (gy I hg hm hv ?_ hn hdb)
 refine PH ?_ he' hpl'
 rw[he']
 show NL _ _ (S2 ((false,OF _ X.env)::N8 pos (Nx [] X.env))) _ _ s
 rw[hnil']
 refine Pj (Bl hc hg' hm' hv' ho I h (λv H1 ⟨l,ss,e1,sq,z1,q⟩=>⟨l,ss,e1,sq,z1,λS s2 I2 hq=>Pr ?_⟩) hn' hdb' he hpl hnil)
 obtain ⟨o,es,ep,t,a1,ex,a3,_,_,zs,a4,a5,_⟩:=hq
 rw[NC] at a5
 have zz:(es.size:Int) < 2 ^ 63:=by unfold scanBound at zs;omega
 refine call_len_set a1 ex a3 a4 zz ?_
 rw[a5]
 exact ⟨.int _,H1,I2.kept (h':=s2.heap) λ_ _ e=>e,⟨_,rfl⟩,q⟩
def kLz (x:D)(f:List D->Prop):Prop:=match x with
 | .ls ds=>f ds
 | _=>False
def oK (Te:ETr):ETr:=λρ μ Q=>Te ρ μ λx μ1=>kLz x λxs=>∃ ss:List Str,(xs=ss.map .str/\ss.length < 4000/\(ddT ss).length < 64)/\∀ ss':List Str,ss'.Perm (ddT ss)->ss'.Pairwise (λa b=>ltS b a=false)->Q (.ls (ss'.map .str)) μ1
def rh (Te:ETr):ETr:=λρ μ Q=>Te ρ μ λx μ1=>kLz x λxs=>∃ ss:List Str,(xs=ss.map .str/\ss.length < 4000)/\Q (.int (ddT ss).length) μ1
theorem xr {Te:ETr}(hc:X.calm=true)(hg:Gl X x)(hm:X.mg x=none)(hv:N4 x=some (.builtin "sorted"))(hg':Gl X y)(hm':X.mg y=none)(hv':N4 y=some (.type "set"))(ho:LE X e Te)
  (hn:x ≠ "__name__" := by decide) (hdb:(x == ("__debug__" : Str))=false:=by decide) (hn':y ≠ "__name__" := by decide) (hdb':(y == ("__debug__" : Str))=false:=by decide)
  (he:Nx [e] X.env=(false,OF e X.env)::Nx [] X.env:=by rfl) (hpl:(N8 cpos (Nx [] X.env)).any (·.1)=false:=by rfl) (hnil:N8 cpos (Nx [] X.env)=[]:=by rfl)
  (he':Nx [.Call (.Name y p') [e] [] cpos] X.env=(false,OF (.Call (.Name y p') [e] [] cpos) X.env)::Nx [] X.env:=by rfl) (hpl':(N8 pos (Nx [] X.env)).any (·.1)=false:=by rfl) (hnil':N8 pos (Nx [] X.env)=[]:=by rfl) :
  LE X (.Call (.Name x p) [.Call (.Name y p') [e] [] cpos] [] pos) (oK Te):=by
 obtain ⟨te,pe,se⟩:=ho.ex
 refine ⟨_,js (xQ hc hg hm hv hg' hm' hv' pe hn hdb hn' hdb' he hpl hnil he' hpl' hnil'),λσ H ρ μ Q Q' rl h k=>se σ H ρ μ _ _ rl h λv H1 dx μ1 t1 m1 p1 h1=>?_⟩
 cases p1 with
 | @ls q xs ds sq l=>
  obtain ⟨ss,⟨rfl,z⟩,h2⟩:=h1
  cases DpL.fv l
  exact ⟨q,ss,rfl,sq.sq,z,λss' a2 a3 z hz=>gu m1 (DpL.strs ss') (h2 ss' a2 a3) (k.go t1) hz⟩
 | _=>exact Ny h1
theorem Al {Te:ETr}(hc:X.calm=true)(hg:Gl X x)(hm:X.mg x=none)(hv:N4 x=some (.builtin "len"))(hg':Gl X y)(hm':X.mg y=none)(hv':N4 y=some (.type "set"))(ho:LE X e Te)
  (hn:x ≠ "__name__" := by decide) (hdb:(x == ("__debug__" : Str))=false:=by decide) (hn':y ≠ "__name__" := by decide) (hdb':(y == ("__debug__" : Str))=false:=by decide)
  (he:Nx [e] X.env=(false,OF e X.env)::Nx [] X.env:=by rfl) (hpl:(N8 cpos (Nx [] X.env)).any (·.1)=false:=by rfl) (hnil:N8 cpos (Nx [] X.env)=[]:=by rfl)
  (he':Nx [.Call (.Name y p') [e] [] cpos] X.env=(false,OF (.Call (.Name y p') [e] [] cpos) X.env)::Nx [] X.env:=by rfl) (hpl':(N8 pos (Nx [] X.env)).any (·.1)=false:=by rfl) (hnil':N8 pos (Nx [] X.env)=[]:=by rfl) :
  LE X (.Call (.Name x p) [.Call (.Name y p') [e] [] cpos] [] pos) (rh Te):=by
 obtain ⟨te,pe,se⟩:=ho.ex
 refine ⟨_,Au hc hg hm hv hg' hm' hv' pe hn hdb hn' hdb' he hpl hnil he' hpl' hnil',λσ H ρ μ Q Q' rl h k=>se σ H ρ μ _ _ rl h λv H1 dx μ1 t1 m1 p1 h1=>?_⟩
 cases p1 with
 | @ls q xs ds sq l=>
  obtain ⟨ss,⟨rfl,z⟩,h2⟩:=h1
  cases DpL.fv l
  exact ⟨q,ss,rfl,sq.sq,z,k _ H1 _ μ1 t1 m1 (.int _) h2⟩
 | _=>exact Ny h1
end
end
section
open PySem PySem.Spec PyProof.Rows L2
section
variable {X:Cx} {a b:NX} {Ta Tb:ETr} {pos:Pos}
end
end
section
open PySem PySem.Spec PyProof.Rows L2
end
section
open PySem PySem.Spec PyProof.Rows L2
def k3 (ds:List D)(f:D->D->D->Prop):Prop:=match ds with
 | [u,v,w]=>f u v w
 | _=>False
end
theorem dm (i:Decidable (Nr "still" = Nr "step")):@decide (Nr "still" = Nr "step") i=false:=by cases i with | isTrue h=>exact absurd h (by rw[jj];exact not_false) | isFalse _=>rfl
theorem cO (i:Decidable (Nr "still" = Nr "swell")):@decide (Nr "still" = Nr "swell") i=false:=by cases i with | isTrue h=>exact absurd h (by rw[iz];exact not_false) | isFalse _=>rfl
theorem dQ (i:Decidable (Nr "still" = Nr "heed")):@decide (Nr "still" = Nr "heed") i=false:=by cases i with | isTrue h=>exact absurd h (by rw[i9];exact not_false) | isFalse _=>rfl
theorem dJ (i:Decidable (Nr "still" = Nr "calm")):@decide (Nr "still" = Nr "calm") i=false:=by cases i with | isTrue h=>exact absurd h (by rw[jc];exact not_false) | isFalse _=>rfl
theorem dq (i:Decidable (Nr "step" = Nr "still")):@decide (Nr "step" = Nr "still") i=false:=by cases i with | isTrue h=>exact absurd h (by rw[pN];exact not_false) | isFalse _=>rfl
theorem dF (i:Decidable (Nr "step" = Nr "swell")):@decide (Nr "step" = Nr "swell") i=false:=by cases i with | isTrue h=>exact absurd h (by rw[fG];exact not_false) | isFalse _=>rfl
theorem eJ (i:Decidable (Nr "step" = Nr "heed")):@decide (Nr "step" = Nr "heed") i=false:=by cases i with | isTrue h=>exact absurd h (by rw[eW];exact not_false) | isFalse _=>rfl
theorem eM (i:Decidable (Nr "step" = Nr "calm")):@decide (Nr "step" = Nr "calm") i=false:=by cases i with | isTrue h=>exact absurd h (by rw[jN];exact not_false) | isFalse _=>rfl
theorem cM (i:Decidable (Nr "swell" = Nr "still")):@decide (Nr "swell" = Nr "still") i=false:=by cases i with | isTrue h=>exact absurd h (by rw[n5];exact not_false) | isFalse _=>rfl
theorem dP (i:Decidable (Nr "swell" = Nr "step")):@decide (Nr "swell" = Nr "step") i=false:=by cases i with | isTrue h=>exact absurd h (by rw[oV];exact not_false) | isFalse _=>rfl
theorem dI (i:Decidable (Nr "swell" = Nr "heed")):@decide (Nr "swell" = Nr "heed") i=false:=by cases i with | isTrue h=>exact absurd h (by rw[dO];exact not_false) | isFalse _=>rfl
theorem dD (i:Decidable (Nr "swell" = Nr "calm")):@decide (Nr "swell" = Nr "calm") i=false:=by cases i with | isTrue h=>exact absurd h (by rw[jf];exact not_false) | isFalse _=>rfl
theorem dE (i:Decidable (Nr "heed" = Nr "still")):@decide (Nr "heed" = Nr "still") i=false:=by cases i with | isTrue h=>exact absurd h (by rw[pL];exact not_false) | isFalse _=>rfl
theorem eL (i:Decidable (Nr "heed" = Nr "step")):@decide (Nr "heed" = Nr "step") i=false:=by cases i with | isTrue h=>exact absurd h (by rw[rk];exact not_false) | isFalse _=>rfl
theorem dk (i:Decidable (Nr "heed" = Nr "swell")):@decide (Nr "heed" = Nr "swell") i=false:=by cases i with | isTrue h=>exact absurd h (by rw[ja];exact not_false) | isFalse _=>rfl
theorem eT (i:Decidable (Nr "heed" = Nr "calm")):@decide (Nr "heed" = Nr "calm") i=false:=by cases i with | isTrue h=>exact absurd h (by rw[jO];exact not_false) | isFalse _=>rfl
theorem du (i:Decidable (Nr "calm" = Nr "still")):@decide (Nr "calm" = Nr "still") i=false:=by cases i with | isTrue h=>exact absurd h (by rw[pP];exact not_false) | isFalse _=>rfl
theorem eP (i:Decidable (Nr "calm" = Nr "step")):@decide (Nr "calm" = Nr "step") i=false:=by cases i with | isTrue h=>exact absurd h (by rw[qM];exact not_false) | isFalse _=>rfl
theorem dN (i:Decidable (Nr "calm" = Nr "swell")):@decide (Nr "calm" = Nr "swell") i=false:=by cases i with | isTrue h=>exact absurd h (by rw[jd];exact not_false) | isFalse _=>rfl
theorem eR (i:Decidable (Nr "calm" = Nr "heed")):@decide (Nr "calm" = Nr "heed") i=false:=by cases i with | isTrue h=>exact absurd h (by rw[sQ];exact not_false) | isFalse _=>rfl
theorem mh (a:Str)(i:Decidable (a=a)):@decide (a=a) i=true:=by cases i with | isTrue _=>rfl | isFalse h=>exact absurd rfl h
theorem IsPart.of_eq {a b c d x y:Int}(h:IsPart a b x y)(hb:0 < b)(hd:0 < d)(e:a*d=c*b):IsPart c d x y:=by
 have xd:x*d=c*y:=by
  refine Int.eq_of_mul_eq_mul_right (a:=b) (by omega) ?_
  calc x*d*b=(x*b)*d:=by ac_rfl
   _=(a*y)*d:=by rw[h.e]
   _=(a*d)*y:=by ac_rfl
   _=(c*b)*y:=by rw[e]
   _=c*y*b:=by ac_rfl
 have y0:=h.q0
 have dx:x ∣ c:=by
  have:x ∣ y*c:=⟨d,by rw[Uo y c];exact xd.symm⟩
  have h':=Rc.mpr this
  rw[h.g] at h'
  simpa using h'
 have dy:y ∣ d:=by
  have:y ∣ x*d:=⟨c,by rw[xd,Uo]⟩
  have h':=Rc.mpr this
  rw[VA,h.g] at h'
  simpa using h'
 refine ⟨h.q0,h.g,xd,?_,Vt (by omega) (SD.mpr dy)⟩
 by_cases hc:c=0
 ·subst hc
  have:x=0:=by
   rcases Int.mul_eq_zero.mp (show x*d=0 by rw[xd,Int.zero_mul]) with z | z
   ·exact z
   ·omega
  rw[this];exact NN _
 ·exact Vt (by omega) (SD.mpr dx)
structure Vl (d:D) (a b:Int):Prop where
 ex:∃ p q,d=fr p q/\IsPart a b p q
 b0:0 < b
theorem Vl.of_eq {d:D}{a b a' b':Int}(h:Vl d a b)(hb:0 < b')(e:a*b'=a'*b):Vl d a' b':=by
 obtain ⟨⟨p,q,rfl,P⟩,b0⟩:=h
 exact ⟨⟨p,q,rfl,P.of_eq b0 hb e⟩,hb⟩
def Le (a A:Int):Prop:=-A<=a/\a<=A
theorem Le.mono {a A B:Int}(h:Le a A)(hb:A<=B):Le a B:=⟨by have:=h.1;omega,by have:=h.2;omega⟩
theorem Le.of {a A:Int}(h0:0<=a)(h1:a<=A):Le a A:=⟨by omega,h1⟩
theorem Le.neg {a A:Int}(h:Le a A):Le (-a) A:=⟨by have:=h.2;omega,by have:=h.1;omega⟩
theorem Le.abs {a A:Int}(h:Le a A):(a.natAbs:Int)<=A:=by have:=h.1;have:=h.2;omega
theorem Le.Nn {a A:Int}(h:(a.natAbs:Int)<=A):Le a A:=⟨by omega,by omega⟩
abbrev Bd (a:Int):Prop:=Le a 1000000000000000000000000000000
theorem Bd.m {a:Int}(h:Bd a):bz a:=by have:=h.1;have:=h.2;unfold bz;omega
theorem Bd.mul {a b:Int}(h:Bd a)(k:Bd b):MulOk a b:=.inr ⟨h.m,k.m⟩
inductive Wd | lE | step | m9 | Du | calm
 deriving DecidableEq
structure RN where
 wd:Wd
 p:Int
 q:Int
 x:Int
 y:Int
 a:Int
 b:Int
 l:Int
 h:Int
 r:Int
 s:Int
def Wd.str:Wd->Str
 | .lE=>Nr "still"
 | .step=>Nr "step"
 | .m9=>Nr "swell"
 | .Du=>Nr "heed"
 | .calm=>Nr "calm"
def RN.toD (R:RN):D:=match R.wd with
 | .lE=>.tup [.str "still", fr R.p R.q]
 | .step=>.tup [.str "step", fr R.p R.q,fr R.x R.y,fr R.a R.b,fr R.r R.s]
 | .m9=>.tup [.str "swell", fr R.p R.q,fr R.x R.y,fr R.a R.b,fr R.r R.s]
 | .Du=>.tup [.str "heed", fr R.p R.q,fr R.x R.y,fr R.a R.b,fr R.r R.s]
 | .calm=>.tup [.str "calm", fr R.p R.q,fr R.x R.y,.int R.l,.int R.h,fr R.r R.s]
structure RN.Ok (R:RN):Prop where
 w:FrB 1 60 R.p R.q
 t:FrB 1 60 R.r R.s
 wt:R.p*R.s<=R.r*R.q
 u:FrA 0 60 R.x R.y
 u1:R.wd=.m9->R.y < R.x
 g:FrA 0 1 R.a R.b
 d1:R.wd=.step∨R.wd=.m9->R.a < R.b
 l0:0<=R.l
 lh:R.l<=R.h
 h1:R.h<=60
 st:R.wd=.lE->R.r=R.p/\R.s=R.q
structure Hd where
 good:Int
 mark:Int
 CY:Int
 wt:Int
structure Hd.Ok (h:Hd):Prop where
 g0:0<=h.good
 g1:h.good<=1000000
 m0:0<=h.mark
 m1:h.mark<=1000000
 l0:0<=h.CY
 l1:h.CY<=1000000
 w0:0<=h.wt
def Hd.toD (h:Hd):D:=.tup [.int h.good,.int h.mark,.int h.CY,.int h.wt]
def Hd.bad (h:Hd):Int:=h.mark+h.CY
def Hd.many (h:Hd):Int:=h.good+h.bad
def RN.idle (R:RN)(h:Hd):Prop:=R.wd=.lE∨h.good+h.mark+h.CY=0
instance (R:RN) (h:Hd):Decidable (R.idle h):=by unfold RN.idle;infer_instance
local macro_rules | `(tactic| walk_at "rd")=>zzS "L3.ah L3.TC L3.ao L3.TUn L3.cK L3.Ac L3.kZ L3.TB L3.IT L3.TOr L3.cb L3.zm L3.fJ L3.ak L3.ae L3.aG L3.bR L3.xC L3.ar L3.aU L3.aE L3.w4 L3.BD L3.lb L3.aR L3.Dx L3.bF L3.az L3.aQ L3.xF L3.fb L3.tF L3.gw L3.iT L3.df L3.ix L3.kc L3.jq L3.Mf L3.ILs L3.Cb L3.Dg L3.BE L3.Df L3.Bm L3.wI L3.sG L3.wQ L3.DG L3.xg L3.sS L3.yS L3.mV L3.su L3.rG L3.sY L3.sf L3.vd L3.kz L3.Aa L3.nj L3.mU L3.oB L3.ni L3.mS L3.oI L3.nF L3.nc L3.mP L3.TSl L3.ONo L3.fE L3.Cc L3.DC L3.DU L3.CT L3.D7 L3.DX L3.wz L3.yd L3.CZ L3.D6 L3.DS L3.nP L3.ng L3.mC L3.xt L3.wy L3.xy L3.xJ L3.yg L3.wB L3.xp L3.xx L3.xl L3.CU L3.Cy L3.BA L3.Cr L3.Dq L3.DD L3.j3 L3.Cw L3.DB L3.wR L3.xu L3.xT L3.ya L3.yf L3.wW L3.wc L3.xR L3.xD L3.xj L3.lk L3.ini Vf PM NZ UH VI QI QZ Ua Tr RJ L3.t9 L3.uw L3.yI L3.zd L3.yV L3.yD L3.yZ L3.zf L3.yJ Ql Qm L3.bp L3.nt Sh RQ if_true if_false true_and and_true Ts SK SM RR QU So decide_eq_true_eq PV ite_false ite_true ne_eq not_false_eq_true Ss Tu Tv Tx Tz TF Ub L3.okD L3.bB L3.eqD L3.fX TH RK NW L3.oF L3.jn decide_true decide_false Bool.or_true Tp Bool.true_or Bool.false_or Od NM and_self L3.dm L3.cO L3.dQ L3.dJ L3.dq L3.dF L3.eJ L3.eM L3.cM L3.dP L3.dI L3.dD L3.dE L3.eL L3.dk L3.eT L3.du L3.eP L3.dN L3.eR L3.mh L3.ko L3.mJ L3.kG L3.ou L3.nG L3.iO L3.iI L3.iK L3.iJ L3.iL L3.iH L3.iM"
theorem RN.tup (R:RN)(hst:R.wd=.lE->R.r=R.p/\R.s=R.q):∃ xs,R.toD=.tup xs/\xs[0]? = some (.str R.wd.str)/\xs[1]? = some (fr R.p R.q)/\xs[xs.length - 1]? = some (fr R.r R.s)/\xs≠[]:=by
 obtain ⟨wd,p,q,x,y,a,b,l,h,r,s⟩:=R
 cases wd
 ·obtain ⟨e1,e2⟩:=hst rfl
  dsimp only at e1 e2
  subst e1 e2
  exact ⟨_,rfl,rfl,rfl,rfl,nofun⟩
 all_goals exact ⟨_,rfl,rfl,rfl,rfl,nofun⟩
theorem FrB.bd {lo hi p q:Int}(h:FrB lo hi p q)(l0:0<=lo)(h1:hi<=60):Le p 600000120/\Le q 10000002:=by
 have:=h.q0;have:=h.q1
 have e1:=h.ge;have e2:=h.le
 have a1:0<=lo*q:=SV l0 (by omega)
 have a2:hi*q<=60*q:=Ob h1 (by omega)
 exact ⟨.of (by omega) (by omega),.of (by omega) (by omega)⟩
def kLs (x:D)(f:List D->Prop):Prop:=match x with
 | .ls ds=>f ds
 | _=>False
def hE (sp:FSp)(ds:List D)(μ:Mu)(Q:DK):Prop:=sp ds μ Q
def LEN (ds:List D)(P:Prop):Prop:=ds.length<=1000000/\P
theorem Io (d:D)(r:ST)(μ:Mu)(Q:DK):ah 0 (some d::r) μ Q=Q d μ:=propext NA
theorem FC (x0:Option D)(r:ST)(d:D)(μ:Mu)(k:ST->Mu->Prop):az 0 d (x0::r) μ k=k (some d::r) μ:=propext NA
theorem Kl (x0:Option D)(d:D)(r:ST)(μ:Mu)(Q:DK):ah 1 (x0::some d::r) μ Q=Q d μ:=propext NA
theorem EB (x0 x1:Option D)(r:ST)(d:D)(μ:Mu)(k:ST->Mu->Prop):az 1 d (x0::x1::r) μ k=k (x0::some d::r) μ:=propext NA
theorem IE (x0 x1:Option D)(d:D)(r:ST)(μ:Mu)(Q:DK):ah 2 (x0::x1::some d::r) μ Q=Q d μ:=propext NA
theorem Gp (x0 x1 x2:Option D)(r:ST)(d:D)(μ:Mu)(k:ST->Mu->Prop):az 2 d (x0::x1::x2::r) μ k=k (x0::x1::some d::r) μ:=propext NA
theorem Jo (x0 x1 x2:Option D)(d:D)(r:ST)(μ:Mu)(Q:DK):ah 3 (x0::x1::x2::some d::r) μ Q=Q d μ:=propext NA
theorem FH (x0 x1 x2 x3:Option D)(r:ST)(d:D)(μ:Mu)(k:ST->Mu->Prop):az 3 d (x0::x1::x2::x3::r) μ k=k (x0::x1::x2::some d::r) μ:=propext NA
theorem IW (x0 x1 x2 x3:Option D)(d:D)(r:ST)(μ:Mu)(Q:DK):ah 4 (x0::x1::x2::x3::some d::r) μ Q=Q d μ:=propext NA
theorem Fw (x0 x1 x2 x3 x4:Option D)(r:ST)(d:D)(μ:Mu)(k:ST->Mu->Prop):az 4 d (x0::x1::x2::x3::x4::r) μ k=k (x0::x1::x2::x3::some d::r) μ:=propext NA
theorem J7 (x0 x1 x2 x3 x4:Option D)(d:D)(r:ST)(μ:Mu)(Q:DK):ah 5 (x0::x1::x2::x3::x4::some d::r) μ Q=Q d μ:=propext NA
theorem FD (x0 x1 x2 x3 x4 x5:Option D)(r:ST)(d:D)(μ:Mu)(k:ST->Mu->Prop):az 5 d (x0::x1::x2::x3::x4::x5::r) μ k=k (x0::x1::x2::x3::x4::some d::r) μ:=propext NA
theorem JS (x0 x1 x2 x3 x4 x5:Option D)(d:D)(r:ST)(μ:Mu)(Q:DK):ah 6 (x0::x1::x2::x3::x4::x5::some d::r) μ Q=Q d μ:=propext NA
theorem EF (x0 x1 x2 x3 x4 x5 x6:Option D)(r:ST)(d:D)(μ:Mu)(k:ST->Mu->Prop):az 6 d (x0::x1::x2::x3::x4::x5::x6::r) μ k=k (x0::x1::x2::x3::x4::x5::some d::r) μ:=propext NA
theorem Je (x0 x1 x2 x3 x4 x5 x6:Option D)(d:D)(r:ST)(μ:Mu)(Q:DK):ah 7 (x0::x1::x2::x3::x4::x5::x6::some d::r) μ Q=Q d μ:=propext NA
theorem Gj (x0 x1 x2 x3 x4 x5 x6 x7:Option D)(r:ST)(d:D)(μ:Mu)(k:ST->Mu->Prop):az 7 d (x0::x1::x2::x3::x4::x5::x6::x7::r) μ k=k (x0::x1::x2::x3::x4::x5::x6::some d::r) μ:=propext NA
theorem J8 (x0 x1 x2 x3 x4 x5 x6 x7:Option D)(d:D)(r:ST)(μ:Mu)(Q:DK):ah 8 (x0::x1::x2::x3::x4::x5::x6::x7::some d::r) μ Q=Q d μ:=propext NA
theorem Fy (x0 x1 x2 x3 x4 x5 x6 x7 x8:Option D)(r:ST)(d:D)(μ:Mu)(k:ST->Mu->Prop):az 8 d (x0::x1::x2::x3::x4::x5::x6::x7::x8::r) μ k=k (x0::x1::x2::x3::x4::x5::x6::x7::some d::r) μ:=propext NA
theorem Jm (x0 x1 x2 x3 x4 x5 x6 x7 x8:Option D)(d:D)(r:ST)(μ:Mu)(Q:DK):ah 9 (x0::x1::x2::x3::x4::x5::x6::x7::x8::some d::r) μ Q=Q d μ:=propext NA
theorem EY (x0 x1 x2 x3 x4 x5 x6 x7 x8 x9:Option D)(r:ST)(d:D)(μ:Mu)(k:ST->Mu->Prop):az 9 d (x0::x1::x2::x3::x4::x5::x6::x7::x8::x9::r) μ k=k (x0::x1::x2::x3::x4::x5::x6::x7::x8::some d::r) μ:=propext NA
theorem Fi (x0 x1 x2 x3 x4 x5 x6 x7 x8 x9:Option D)(d:D)(r:ST)(μ:Mu)(Q:DK):ah 10 (x0::x1::x2::x3::x4::x5::x6::x7::x8::x9::some d::r) μ Q=Q d μ:=propext NA
theorem BM (x0 x1 x2 x3 x4 x5 x6 x7 x8 x9 x10:Option D)(r:ST)(d:D)(μ:Mu)(k:ST->Mu->Prop):az 10 d (x0::x1::x2::x3::x4::x5::x6::x7::x8::x9::x10::r) μ k=k (x0::x1::x2::x3::x4::x5::x6::x7::x8::x9::some d::r) μ:=propext NA
theorem MJ (d:D)(ρ:ST)(μ:Mu)(Q:DK):TC d ρ μ Q=Q d μ:=propext NA
theorem Kq (r:DR2)(a b:ETr)(ρ:ST)(μ:Mu)(Q:DK):ao r a b ρ μ Q=a ρ μ λx μ1=>b ρ μ1 λy μ2=>r x y μ2 Q:=propext NA
theorem Mg (r:DR)(a:ETr)(ρ:ST)(μ:Mu)(Q:DK):TUn r a ρ μ Q=a ρ μ λx μ1=>r x μ1 Q:=propext NA
theorem Fn (a b:ETr)(ρ:ST)(μ:Mu)(Q:DK):cK a b ρ μ Q=a ρ μ λx μ1=>kB x λc=>kIf c (b ρ μ1 Q) (Q (.bl false) μ1):=propext NA
theorem Hr (a b:ETr)(ρ:ST)(μ:Mu)(Q:DK):Ac a b ρ μ Q=a ρ μ λx μ1=>kB x λc=>kIf c (Q (.bl true) μ1) (b ρ μ1 Q):=propext NA
theorem E9 (a:ETr)(ρ:ST)(μ:Mu)(Q:DK):kZ a ρ μ Q=a ρ μ λx μ1=>kB x λc=>Q (.bl (!c)) μ1:=propext NA
theorem MB (t:ETr)(ρ:ST)(μ:Mu)(Q:Bool->Mu->Prop):TB t ρ μ Q=t ρ μ λx μ1=>kB x λc=>Q c μ1:=propext NA
theorem Lm (t u:TTr)(ρ:ST)(μ:Mu)(Q:Bool->Mu->Prop):TOr t u ρ μ Q=t ρ μ λc μ1=>kIf c (Q true μ1) (u ρ μ1 Q):=propext NA
theorem HJ (t:TTr)(ρ:ST)(μ:Mu)(Q:Bool->Mu->Prop):cb t ρ μ Q=t ρ μ λc μ1=>Q (!c) μ1:=propext NA
theorem J4 (c:TTr)(a b:ETr)(ρ:ST)(μ:Mu)(Q:DK):zm c a b ρ μ Q=c ρ μ λk μ1=>kIf k (a ρ μ1 Q) (b ρ μ1 Q):=propext NA
theorem C7 (r r':DR2)(a b c:ETr)(ρ:ST)(μ:Mu)(Q:DK):fJ r r' a b c ρ μ Q=a ρ μ λx μ1=>b ρ μ1 λy μ2=>r x y μ2 λz μ3=>kB z λk=>kIf k (c ρ μ3 λy' μ4=>r' y y' μ4 Q) (Q (.bl false) μ3):=propext NA
theorem Iw (ρ:ST)(μ:Mu)(Q:List D->Mu->Prop):ak ρ μ Q=Q [] μ:=propext NA
theorem FG (a:ETr)(r:ATr)(ρ:ST)(μ:Mu)(Q:List D->Mu->Prop):ae a r ρ μ Q=a ρ μ λx μ1=>r ρ μ1 λxs μ2=>Q (x::xs) μ2:=propext NA
theorem HR (t:ATr)(ρ:ST)(μ:Mu)(Q:DK):aG t ρ μ Q=t ρ μ λds μ1=>LEN ds (Q (.tup ds) μ1):=propext NA
theorem JZ (t:ATr)(ρ:ST)(μ:Mu)(Q:DK):bR t ρ μ Q=t ρ μ λds μ1=>LEN ds (Q (.ls ds) μ1):=propext NA
theorem HV (t:ATr)(ρ:ST)(μ:Mu)(Q:DK):xC t ρ μ Q=t ρ μ λds μ1=>LEN ds (∀ p,μ1 p=none->Q (.obj p) (up μ1 p (.lst ds))):=propext NA
theorem F2 (sp:FSp)(t:ATr)(ρ:ST)(μ:Mu)(Q:DK):ar sp t ρ μ Q=t ρ μ λds μ1=>hE sp ds μ1 Q:=propext NA
theorem E8 (nx:ST->Mu->Prop)(rt:DK)(bk ct:ST->Mu->Prop)(ρ:ST)(μ:Mu):aU ⟨nx,rt,bk,ct⟩ ρ μ=nx ρ μ:=propext NA
theorem Hu (t u:STr)(nx:ST->Mu->Prop)(rt:DK)(bk ct:ST->Mu->Prop)(ρ:ST)(μ:Mu):aE t u ⟨nx,rt,bk,ct⟩ ρ μ=t ⟨u ⟨nx,rt,bk,ct⟩,rt,bk,ct⟩ ρ μ:=propext NA
theorem Gv (e:ETr)(nx:ST->Mu->Prop)(rt:DK)(bk ct:ST->Mu->Prop)(ρ:ST)(μ:Mu):lb e ⟨nx,rt,bk,ct⟩ ρ μ=e ρ μ λ_ μ1=>nx ρ μ1:=propext NA
theorem Jq (e:ETr)(nx:ST->Mu->Prop)(rt:DK)(bk ct:ST->Mu->Prop)(ρ:ST)(μ:Mu):aR e ⟨nx,rt,bk,ct⟩ ρ μ=e ρ μ rt:=propext NA
theorem IA (c:TTr)(t u:STr)(nx:ST->Mu->Prop)(rt:DK)(bk ct:ST->Mu->Prop)(ρ:ST)(μ:Mu):bF c t u ⟨nx,rt,bk,ct⟩ ρ μ=c ρ μ λb μ1=>kIf b (t ⟨nx,rt,bk,ct⟩ ρ μ1) (u ⟨nx,rt,bk,ct⟩ ρ μ1):=propext NA
theorem J9 (e:ETr)(g:GTr)(nx:ST->Mu->Prop)(rt:DK)(bk ct:ST->Mu->Prop)(ρ:ST)(μ:Mu):aQ e g ⟨nx,rt,bk,ct⟩ ρ μ=e ρ μ λd μ1=>g d ρ μ1 nx:=propext NA
theorem Ia (i j:Nat)(a:ATr)(nx:ST->Mu->Prop)(rt:DK)(bk ct:ST->Mu->Prop)(ρ:ST)(μ:Mu):xF i j a ⟨nx,rt,bk,ct⟩ ρ μ=a ρ μ λds μ1=>k2 ds λv w=>az i v ρ μ1 λρ2 μ2=>az j w ρ2 μ2 nx:=propext NA
theorem BW (o k e:ETr)(nx:ST->Mu->Prop)(rt:DK)(bk ct:ST->Mu->Prop)(ρ:ST)(μ:Mu):fb o k e ⟨nx,rt,bk,ct⟩ ρ μ=e ρ μ λy μ1=>o ρ μ1 λx μ2=>k ρ μ2 λz μ3=>EE x z y μ3 λμ4=>nx ρ μ4:=propext NA
theorem JM (it:ATr)(g:GTr)(b:STr)(nx:ST->Mu->Prop)(rt:DK)(bk ct:ST->Mu->Prop)(ρ:ST)(μ:Mu):tF it g b ⟨nx,rt,bk,ct⟩ ρ μ=it ρ μ λds μ1=>forR g b ⟨nx,rt,bk,ct⟩ ds ρ μ1:=propext NA
theorem zW (a:ETr)(ρ:ST)(μ:Mu)(Q:List D->Mu->Prop):gw a ρ μ Q=a ρ μ λx μ1=>kI x λj=>(-4611686018427387904<=j/\j < 4611686018427387904)/\Q (d8 0 j.toNat) μ1:=propext NA
theorem qT (a:ETr)(ρ:ST)(μ:Mu)(Q:List D->Mu->Prop):Lz (ae a ak) ρ μ Q=a ρ μ λx μ1=>kLs x λds=>Q (Ho ds) μ1:=propext (Iff.of_eq (congrArg (a ρ μ) (funext λx=>funext λμ1=>by cases x<;>rfl)))
theorem Iq (a:ETr)(ρ:ST)(μ:Mu)(Q:DK):Aa a ρ μ Q=a ρ μ λx μ1=>kObj x λb=>kL μ1 b λds=>Q (.ls ds) (dn μ1 b):=propext NA
theorem IJ (To Te:ETr)(ρ:ST)(μ:Mu)(Q:DK):vd To Te ρ μ Q=To ρ μ λx μ1=>kObj x λa=>kL μ1 a λ_=>Te ρ μ1 λy μ2=>kL μ2 a λds=>ds.length < 1000000/\Q .non (up μ2 a (.lst (ds++[y]))):=propext NA
theorem L4 (a:ETr)(lo hi:OTr)(ρ:ST)(μ:Mu)(Q:DK):TSl a lo hi ρ μ Q=a ρ μ λx μ1=>lo ρ μ1 λl μ2=>hi ρ μ2 λh μ3=>rSl x l h μ3 Q:=propext NA
theorem Lx (ρ:ST)(μ:Mu)(Q:Option Int->Mu->Prop):ONo ρ μ Q=Q none μ:=propext NA
theorem IL (T:ETr)(ρ:ST)(μ:Mu)(Q:Option Int->Mu->Prop):fE T ρ μ Q=T ρ μ λx μ1=>kI x λi=>Q (some i) μ1:=propext NA
theorem JA (i0 i1:Nat)(d0 d1:D)(ρ:ST)(μ:Mu)(k:ST->Mu->Prop):oF [i0,i1] (.tup [d0,d1]) ρ μ k=az i0 d0 ρ μ λρ1 _=>az i1 d1 ρ1 μ λρ2 _=>k ρ2 μ:=by simp[oF,jn,az]
theorem HX (i0 i1 i2:Nat)(d0 d1 d2:D)(ρ:ST)(μ:Mu)(k:ST->Mu->Prop):oF [i0,i1,i2] (.tup [d0,d1,d2]) ρ μ k=az i0 d0 ρ μ λρ1 _=>az i1 d1 ρ1 μ λρ2 _=>az i2 d2 ρ2 μ λρ3 _=>k ρ3 μ:=by simp[oF,jn,az]
theorem IZ (i0 i1 i2 i3 i4 i5:Nat)(d0 d1 d2 d3 d4 d5:D)(ρ:ST)(μ:Mu)(k:ST->Mu->Prop):oF [i0,i1,i2,i3,i4,i5] (.tup [d0,d1,d2,d3,d4,d5]) ρ μ k=az i0 d0 ρ μ λρ1 _=>az i1 d1 ρ1 μ λρ2 _=>az i2 d2 ρ2 μ λρ3 _=>az i3 d3 ρ3 μ λρ4 _=>az i4 d4 ρ4 μ λρ5 _=>az i5 d5 ρ5 μ λρ6 _=>k ρ6 μ:=by simp[oF,jn,az]
theorem LR (P:Prop):LEN [] P=P:=by simp[LEN]
theorem Eu (μ:Mu)(Q:DK):hE cX [.tup []] μ Q=Q (.int 0) μ:=propext NA
theorem KY (x0:D)(P:Prop):LEN [x0] P=P:=by simp[LEN]
theorem Kz (x0 x1:D)(P:Prop):LEN [x0,x1] P=P:=by simp[LEN]
theorem LZ (x0 x1 x2:D)(P:Prop):LEN [x0,x1,x2] P=P:=by simp[LEN]
theorem Ly (x0 x1 x2 x3:D)(P:Prop):LEN [x0,x1,x2,x3] P=P:=by simp[LEN]
theorem KP (x0 x1 x2 x3 x4:D)(P:Prop):LEN [x0,x1,x2,x3,x4] P=P:=by simp[LEN]
theorem KH (x0 x1 x2 x3 x4 x5:D)(P:Prop):LEN [x0,x1,x2,x3,x4,x5] P=P:=by simp[LEN]
theorem K2 (x0 x1 x2 x3 x4 x5 x6:D)(P:Prop):LEN [x0,x1,x2,x3,x4,x5,x6] P=P:=by simp[LEN]
theorem K6 (x0 x1 x2 x3 x4 x5 x6 x7:D)(P:Prop):LEN [x0,x1,x2,x3,x4,x5,x6,x7] P=P:=by simp[LEN]
theorem JR (x0 x1 x2 x3 x4 x5 x6 x7 x8 x9:D)(P:Prop):LEN [x0,x1,x2,x3,x4,x5,x6,x7,x8,x9] P=P:=by simp[LEN]
theorem HF (x0:D)(r:List D)(μ:Mu)(Q:DK):L3.rIx (.tup (x0::r)) (.int 0) μ Q=Q x0 μ:=by rw[j3];exact congrArg (λo=>kO o λd=>Q d μ) (bP 0 _)
theorem Iy (x0 x1:D)(r:List D)(μ:Mu)(Q:DK):L3.rIx (.tup (x0::x1::r)) (.int 1) μ Q=Q x1 μ:=by rw[j3];exact congrArg (λo=>kO o λd=>Q d μ) (bP 1 _)
theorem Il (x0 x1 x2:D)(r:List D)(μ:Mu)(Q:DK):L3.rIx (.tup (x0::x1::x2::r)) (.int 2) μ Q=Q x2 μ:=by rw[j3];exact congrArg (λo=>kO o λd=>Q d μ) (bP 2 _)
theorem Ik (x0 x1 x2 x3:D)(r:List D)(μ:Mu)(Q:DK):L3.rIx (.tup (x0::x1::x2::x3::r)) (.int 3) μ Q=Q x3 μ:=by rw[j3];exact congrArg (λo=>kO o λd=>Q d μ) (bP 3 _)
theorem IX (x0 x1 x2 x3 x4:D)(r:List D)(μ:Mu)(Q:DK):L3.rIx (.tup (x0::x1::x2::x3::x4::r)) (.int 4) μ Q=Q x4 μ:=by rw[j3];exact congrArg (λo=>kO o λd=>Q d μ) (bP 4 _)
theorem JE (x0 x1 x2 x3 x4 x5:D)(r:List D)(μ:Mu)(Q:DK):L3.rIx (.tup (x0::x1::x2::x3::x4::x5::r)) (.int 5) μ Q=Q x5 μ:=by rw[j3];exact congrArg (λo=>kO o λd=>Q d μ) (bP 5 _)
theorem JH (i j:Int)(μ:Mu)(Q:DK):L3.rEq (.int i) (.int j) μ Q=Q (.bl (decide (i=j))) μ:=by simp[L3.rEq,okD,eqD]
theorem IF (i j:Str)(μ:Mu)(Q:DK):L3.rEq (.str i) (.str j) μ Q=((N6 i=true/\N6 j=true)/\Q (.bl (decide (i=j))) μ):=by simp[L3.rEq,okD,eqD]
theorem JL (i:Int)(μ:Mu)(Q:DK):hE rn [.int i] μ Q=Q (.int (if i < 0 then -i else i)) μ:=propext NA
theorem JO (i:Bool)(μ:Mu)(Q:DK):hE z9 [.bl i] μ Q=Q (.int (if i then 1 else 0)) μ:=propext NA
theorem A5 (a:List D)(μ:Mu)(Q:DK):hE d9 [.ls a] μ Q=Q (.tup a) μ:=propext NA
theorem DM (a:List D)(μ:Mu)(Q:DK):hE fB [.tup a] μ Q=Q (.ls a) μ:=propext NA
theorem HZ (a:Addr)(μ:Mu)(Q:DK):hE cX [.obj a] μ Q=kL μ a λxs=>Q (.int xs.length) μ:=propext NA
theorem Ig (x:Str)(μ:Mu)(Q:DK):hE cX [.str x] μ Q=(x.length<=1000000/\Q (.int x.length) μ):=propext NA
theorem xG (a:List D)(μ:Mu)(Q:DK):hE cX [.tup a] μ Q=Q (.int a.length) μ:=propext NA
theorem wN (a:List D)(μ:Mu)(Q:DK):hE cX [.ls a] μ Q=Q (.int a.length) μ:=propext NA
theorem Ir (n:Nat)(i:Int):okD n (.int i)=true:=by cases n<;>simp[okD]
theorem HN (n:Nat)(i:Bool):okD n (.bl i)=true:=by cases n<;>simp[okD]
theorem Jz (n:Nat):okD n .non=true:=by cases n<;>simp[okD]
theorem II (n:Nat)(x:Str):okD n (.str x)=N6 x:=by cases n<;>simp[okD]
theorem Iv (n:Nat)(ds:List D):okD (n+1) (.tup ds)=bB n ds:=by simp[okD]
theorem JN (n:Nat)(ds:List D):okD (n+1) (.ls ds)=bB n ds:=by simp[okD]
theorem qI (n:Nat):bB n []=true:=by simp[bB]
theorem nQ (n:Nat)(d:D)(r:List D):bB n (d::r)=(okD n d&&bB n r):=by simp[bB]
theorem lr (i j:Int):eqD (.int i) (.int j)=decide (i=j):=by simp[eqD]
theorem kW (i j:Str):eqD (.str i) (.str j)=decide (i=j):=by simp[eqD]
theorem Br (i j:Bool):eqD (.bl i) (.bl j)=(i == j):=by simp[eqD]
theorem Dm (a b:List D):eqD (.tup a) (.tup b)=fX a b:=by simp[eqD]
theorem yp (a b:List D):eqD (.ls a) (.ls b)=fX a b:=by simp[eqD]
theorem mj  : fX [] []=true:=by simp[fX]
theorem jU (a b:D)(r s:List D):fX (a::r) (b::s)=(eqD a b&&fX r s):=by simp[fX]
theorem rq (b:D)(s:List D):fX (b::s) []=false:=by simp[fX]
theorem Fx (A B:Prop):kIf true A B=A:=propext NA
theorem FY (A B:Prop):kIf false A B=B:=propext NA
theorem FA (c:Bool)(f):kB (.bl c) f=f c:=propext NA
theorem D3 (c:Int)(f):kI (.int c) f=f c:=propext NA
theorem zO (c:D)(f):kO (some c) f=f c:=propext NA
theorem CD (c:List D)(f):kS (.tup c) f=f c:=propext NA
theorem E7 (c:List D)(f):kS (.ls c) f=f c:=propext NA
theorem A4 (a b:D)(f):k2 [a,b] f=f a b:=propext NA
theorem qr (c:Nat)(f):kN (some c) f=f c:=propext NA
theorem yh (a:Addr)(n:Int)(y:D)(μ:Mu)(f):EE (.obj a) (.int n) y μ f=kL μ a λds=>kN (L2.ixN ds.length n) λj=>f (up μ a (.lst (ds.set j y))):=propext NA
theorem zL (i j:Int)(μ Q):aH (.int i) (.int j) μ Q=Q (.int (i+j)) μ:=propext NA
theorem AY (i j:Str)(μ Q):aH (.str i) (.str j) μ Q=(i.length+j.length<=1000000/\Q (.str (i++j)) μ):=propext NA
theorem zy (a b:List D)(μ Q):aH (.tup a) (.tup b) μ Q=(a.length+b.length<=1000000/\Q (.tup (a++b)) μ):=propext NA
theorem AN (a b:List D)(μ Q):aH (.ls a) (.ls b) μ Q=(a.length+b.length<=1000000/\Q (.ls (a++b)) μ):=propext NA
theorem Cf (i j:Int)(μ Q):rH (.int i) (.int j) μ Q=Q (.int (i - j)) μ:=propext NA
theorem Bb (i j:Int)(μ Q):gG (.int i) (.int j) μ Q=(MulOk i j/\Q (.int (i*j)) μ):=propext NA
theorem Ed (i j:Int)(μ Q):g5 (.int i) (.int j) μ Q=(ie j/\Q (.int (i.fdiv j)) μ):=propext NA
theorem CQ (i j:Int)(μ Q):gj (.int i) (.int j) μ Q=(j≠0/\Q (.int (i.fmod j)) μ):=propext NA
theorem Ck (i j:Int)(μ Q):ny (.int i) (.int j) μ Q=(oJ i j/\Q (.int (i ^ j.toNat)) μ):=propext NA
theorem DL (i:Int)(μ Q):z6 (.int i) μ Q=Q (.int (-i)) μ:=propext NA
theorem EW (i j:Int)(μ Q):rLt (.int i) (.int j) μ Q=Q (.bl (decide (i < j))) μ:=propext NA
theorem Ff (i j:Int)(μ Q):rLe (.int i) (.int j) μ Q=Q (.bl (decide (i<=j))) μ:=propext NA
theorem GI (i j:Int)(μ Q):rGt (.int i) (.int j) μ Q=Q (.bl (decide (j < i))) μ:=propext NA
theorem E4 (i j:Int)(μ Q):rGe (.int i) (.int j) μ Q=Q (.bl (decide (j<=i))) μ:=propext NA
theorem EN (a:Addr)(i:Int)(μ Q):L3.rIx (.obj a) (.int i) μ Q=kL μ a λds=>kO (atD ds i) λd=>Q d μ:=propext NA
theorem Gu (μ Q):rIs .non .non μ Q=Q (.bl true) μ:=propext NA
theorem EM (i:Int)(μ Q):rIs (.int i) .non μ Q=Q (.bl false) μ:=propext NA
theorem F4 (i:List D)(μ Q):rIs (.tup i) .non μ Q=Q (.bl false) μ:=propext NA
theorem Gy (a:List D)(lo hi)(μ Q):rSl (.tup a) lo hi μ Q=Q (.tup (cutD a lo hi)) μ:=propext NA
theorem FT (a:List D)(lo hi)(μ Q):rSl (.ls a) lo hi μ Q=Q (.ls (cutD a lo hi)) μ:=propext NA
theorem sM (ds:List D)(i:Int)(μ Q):L3.rIx (.tup ds) (.int i) μ Q=kO (atD ds i) λd=>Q d μ:=propext NA
theorem qU (ds:List D)(i:Int)(μ Q):L3.rIx (.ls ds) (.int i) μ Q=kO (atD ds i) λd=>Q d μ:=propext NA
theorem r8 (x y:D)(μ Q):L3.rEq x y μ Q=((okD 40 x=true/\okD 40 y=true)/\Q (.bl (eqD x y)) μ):=propext NA
theorem sL (x y:D)(μ Q):L3.rNe x y μ Q=((okD 40 x=true/\okD 40 y=true)/\Q (.bl (!eqD x y)) μ):=propext NA
theorem kif {p:Prop} [Decidable p] {A B:Prop}(h1:p->A)(h2:¬ p->B):kIf (decide p) A B:=by
 by_cases h:p
 ·rw[decide_eq_true h];exact h1 h
 ·rw[decide_eq_false h];exact h2 h
theorem uM {p:Prop} [Decidable p] {A B:Prop}(h1:¬ p->A)(h2:p->B):kIf (!decide p) A B:=by
 by_cases h:p
 ·rw[decide_eq_true h];exact h2 h
 ·rw[decide_eq_false h];exact h1 h
theorem Ml {p:Prop} [Decidable p] {A B:Prop}(h:¬ p)(hB:B):kIf (decide p) A B:=by rw[decide_eq_false h];exact hB
theorem nq {c:Bool}{A B:Prop}(h1:c=true->A)(h2:c=false->B):kIf c A B:=by
 cases c
 ·exact h2 rfl
 ·exact h1 rfl
theorem ef {o:Option D}{d:D}{f:D->Prop}(e:o=some d)(h:f d):kO o f:=by rw[e];exact h
theorem p9 {μ:Mu}{a:Addr}{ds:List D}{f:List D->Prop}(e:μ a=some (.lst ds))(h:f ds):kL μ a f:=by rw[G6 e];exact h
def K8:=Jn @Io <| Jn @FC <| Jn @Kl <| Jn @EB <| Jn @IE <| Jn @Gp <| Jn @Jo <| Jn @FH <| Jn @IW <| Jn @Fw <| Jn @J7 <| Jn @FD <| Jn @JS <| Jn @EF <| Jn @Je <| Jn @Gj <| Jn @J8 <| Jn @Fy <| Jn @Jm <| Jn @EY <| Jn @Fi <| Jn @BM <| Jn @MJ <| Jn @Kq <| Jn @Mg <| Jn @Fn <| Jn @Hr <| Jn @E9 <| Jn @MB <| Jn @Lm <| Jn @HJ <| Jn @J4 <| Jn @C7 <| Jn @Iw <| Jn @FG <| Jn @HR <| Jn @JZ <| Jn @HV <| Jn @F2 <| Jn @E8 <| Jn @Hu <| Jn @Gv <| Jn @Jq <| Jn @IA <| Jn @J9 <| Jn @Ia <| Jn @BW <| Jn @JM <| Jn @zW <| Jn @Iq <| Jn @IJ <| Jn @L4 <| Jn @Lx <| Jn @IL <| Jn @JA <| Jn @HX <| Jn @IZ <| Jn @LR <| Jn @Eu <| Jn @KY <| Jn @Kz <| Jn @LZ <| Jn @Ly <| Jn @KP <| Jn @KH <| Jn @K2 <| Jn @K6 <| Jn @JR <| Jn @HF <| Jn @Iy <| Jn @Il <| Jn @Ik <| Jn @IX <| Jn @JE <| Jn @Fx <| Jn @FY <| Jn @FA <| Jn @D3 <| Jn @zO <| Jn @CD <| Jn @E7 <| Jn @A4 <| Jn @qr <| Jn @yS <| Jn @yh <| Jn @zL <| Jn @AY <| Jn @zy <| Jn @AN <| Jn @Cf <| Jn @Bb <| Jn @Ed <| Jn @CQ <| Jn @Ck <| Jn @DL <| Jn @EW <| Jn @Ff <| Jn @GI <| Jn @E4 <| Jn @EN <| Jn @Gu <| Jn @EM <| Jn @F4 <| Jn @Gy <| Jn @FT <| Jn @JH <| Jn @IF <| Jn @JL <| Jn @JO <| Jn @A5 <| Jn @DM <| Jn @HZ <| @Ig
def Jg:=Jn @ko <| Jn @mJ <| Jn @kG <| Jn @ou <| @nG
local macro_rules | `(tactic| walk_at "go")=>zzS "↓L3.K8 L3.Jg ↓L3.qT ↓L3.kz L3.dm L3.cO L3.dQ L3.dJ L3.dq L3.dF L3.eJ L3.eM L3.cM L3.dP L3.dI L3.dD L3.dE L3.eL L3.dk L3.eT L3.du L3.eP L3.dN L3.eR L3.mh L3.Ir L3.HN L3.Jz L3.II L3.Iv L3.JN L3.qI L3.nQ L3.lr L3.kW L3.Br L3.Dm L3.yp L3.mj L3.jU L3.rq L3.xG L3.wN L3.sM L3.qU L3.r8 L3.sL true_and and_true and_self Bool.not_true Bool.not_false decide_true decide_false Bool.or_true Bool.or_false Bool.true_or Bool.false_or Bool.and_false Bool.false_and Bool.and_true Bool.true_and Int.reduceToNat Int.reducePow Int.reduceNeg Int.reduceSub Int.reduceAdd Int.reduceMul Int.reduceEq Int.reduceLT Int.reduceLE Int.reduceBEq L3.nt L3.iO L3.iI L3.iK L3.iJ L3.iL L3.iH L3.iM if_true if_false Bool.false_eq_true reduceCtorEq decide_eq_true_eq"
local macro_rules | `(tactic| walk_at "ini")=>`(tactic| simp only[ini,List.map,List.length,List.replicate,Nat.reduceSub,Nat.reduceAdd,Nat.sub_self,List.cons_append,List.nil_append,List.append_nil])
theorem cc {xs:List D}{P:D->Prop}(h:∀ d∈xs,P d){k:Int}(k0:0<=k)(k1:k < xs.length):∃ d,atD xs k=some d/\P d:=by
 obtain ⟨j,rfl⟩:=O3 k0
 rw[bP]
 have hj:j < xs.length:=by omega
 exact ⟨xs[j],by simp[hj],h _ (QK hj)⟩
def IsL (hi:Int)(d:D):Prop:=∃ p q,d=fr p q/\FrL hi p q
def IsI (lo hi:Int)(d:D):Prop:=∃ i:Int,d=.int i/\lo<=i/\i<=hi
theorem aK {P:D->Prop}:∀ d∈([]:List D),P d:=λ_ h=>nomatch h
theorem ai {P:D->Prop}{a:D}{xs:List D}(h:P a)(k:∀ d∈xs,P d):∀ d∈a::xs,P d:=λd hd=>by
 rcases NT.mp hd with e | e
 ·rw[e];exact h
 ·exact k d e
local macro_rules | `(tactic| walk_at "all")=>`(tactic| repeat' (first | exact aK | refine ai ?_ ?_))
structure oY (b p:Addr) (xs:List D) (μ μ':Mu):Prop where
 box:Box μ' b
 ne:p≠b
 new:μ p=none
 at':μ' p=some (.lst xs)
 oth:∀ a,a≠b->a≠p->μ' a=μ a
theorem oY.go {b p:Addr}{xs:List D}{μ μ1 μ2:Mu}(h:oY b p xs μ μ1)(B:cF b μ1 μ2):oY b p xs μ μ2:=
 ⟨B.box,h.ne,h.new,by rw[B.oth p h.ne];exact h.at',λa h1 h2=>by rw[B.oth a h1];exact h.oth a h1 h2⟩
theorem oY.set {b p:Addr}{xs ys:List D}{μ μ1:Mu}(h:oY b p xs μ μ1):oY b p ys μ (up μ1 p (.lst ys)):=by
 obtain ⟨g,s,c,e,hh⟩:=h.box
 exact ⟨⟨g,s,c,by rw[cW h.ne.symm];exact e,hh⟩,h.ne,h.new,bp,λa h1 h2=>by rw[cW h2];exact h.oth a h1 h2⟩
theorem HE (μ:Mu)(p:Addr):Sub (dn μ p) μ:=λa o e=>by
 unfold dn at e
 split at e
 ·cases e
 ·exact e
theorem oY.fin {b p:Addr}{xs:List D}{μ μ1:Mu}(h:oY b p xs μ μ1):cF b μ (dn μ1 p):=by
 obtain ⟨g,s,c,e,hh⟩:=h.box
 refine ⟨⟨g,s,c,?_,hh⟩,λa ha=>?_⟩
 ·unfold dn;rw[if_neg h.ne.symm];exact e
 ·unfold dn
  split
  ·rename_i z;subst z;exact h.new.symm
  ·rename_i z;exact h.oth a ha z
theorem oY.rt {b p:Addr}{xs:List D}{μ μ1:Mu}{Q:DK}{d:D}(h:oY b p xs μ μ1)(k:∀ μ',cF b μ μ'->Q d μ'):RT Q d μ1:=⟨_,HE μ1 p,k _ h.fin⟩
theorem iN {p:Addr}{G:GTr}{tt:TTr}{te:ETr}{ρc:ST}{K:Mu->Prop}(P:List D->Mu->Prop)(hnil:∀ μ,P [] μ->K μ)
  (hcons:∀ d r μ (N:Mu->Prop),P (d::r) μ->(∀ μ',P r μ'->N μ')->G d ρc μ λρ1 μ1=>tt ρ1 μ1 λb μ2=>kIf b (te ρ1 μ2 λy μ3=>kL μ3 p λzs=>zs.length < 1000000/\N (up μ3 p (.lst (zs++[y])))) (N μ2)) :
  ∀ (ds:List D) (μ:Mu),P ds μ->ix p G tt te ρc K ds μ
 | [],μ,h=>hnil μ h
 | d::r,μ,h=>hcons d r μ _ h λμ' q=>iN P hnil hcons r μ' q
theorem A3 (kvs:List (Str×D))(e:ETr)(ρ:ST)(μ:Mu)(Q:DK):v5 kvs e ρ μ Q=e ρ μ λx μ1=>Cn x λs=>kO (bH kvs s) λd=>Q d μ1:=propext NA
theorem DN (n:Bool)(kvs:List (Str×D))(e:ETr)(ρ:ST)(μ:Mu)(Q:DK):rR n kvs e ρ μ Q=e ρ μ λx μ1=>Cn x λs=>Q (.bl (if n then !(bH kvs s).isSome else (bH kvs s).isSome)) μ1:=propext NA
theorem Dr (s:Str)(f:Str->Prop):Cn (.str s) f=f s:=propext NA
theorem Dw (a b:ETr)(ρ:ST)(μ:Mu)(Q:DK):xn a b ρ μ Q=a ρ μ λx μ1=>Af μ1 x λ_=>b ρ μ1 λy μ2=>Af μ2 x λds=>(bB 38 ds=true/\okD 38 y=true)/\kN (Aw ds y) λj=>j < 1000000/\Q (.int j) μ2:=propext NA
theorem JK (a:ETr)(ρ:ST)(μ:Mu)(Q:List D->Mu->Prop):iT a ρ μ Q=a ρ μ λx μ1=>kS x λds=>Q ds μ1:=propext NA
theorem JC (n:Bool)(x:D)(ds:List D)(μ:Mu)(Q:DK):wo n x (.tup ds) μ Q=((bB 38 ds=true/\okD 38 x=true)/\Q (.bl (if n then !inG x ds else inG x ds)) μ):=propext NA
theorem HD (n:Bool)(x:D)(ds:List D)(μ:Mu)(Q:DK):wo n x (.ls ds) μ Q=((bB 38 ds=true/\okD 38 x=true)/\Q (.bl (if n then !inG x ds else inG x ds)) μ):=propext NA
theorem Im (μ:Mu)(ds:List D)(f:List D->Prop):Af μ (.ls ds) f=f ds:=propext NA
theorem Hi (d0:D)(r:List D)(f:D->Prop):kO (atD (d0::r) 0) f=f d0:=by rw[t9];rfl
theorem GY (d0 d1:D)(r:List D)(f:D->Prop):kO (atD (d0::d1::r) 1) f=f d1:=by rw[uw];rfl
theorem G2 (d0 d1 d2:D)(r:List D)(f:D->Prop):kO (atD (d0::d1::d2::r) 2) f=f d2:=by rw[yI];rfl
theorem Hg (d0 d1 d2 d3:D)(r:List D)(f:D->Prop):kO (atD (d0::d1::d2::d3::r) 3) f=f d3:=by rw[zd];rfl
theorem Hh (d0 d1 d2 d3 d4:D)(r:List D)(f:D->Prop):kO (atD (d0::d1::d2::d3::d4::r) 4) f=f d4:=by rw[yV];rfl
theorem G8 (d0 d1 d2 d3 d4 d5:D)(r:List D)(f:D->Prop):kO (atD (d0::d1::d2::d3::d4::d5::r) 5) f=f d5:=by rw[yD];rfl
def xK (G:GTr)(tt:TTr)(te:ETr)(ρc:ST)(ds:List D)(μ:Mu)(Q:DK):Prop:=∀ p,μ p=none->ix p G tt te ρc (λμ'=>kL μ' p λzs=>Q (.ls zs) (dn μ' p)) ds (up μ p (.lst []))
theorem EA (it:ATr)(G:GTr)(tt:TTr)(te:ETr)(n:Nat)(caps:List Nat)(ρ:ST)(μ:Mu)(Q:DK):df it G tt te n caps ρ μ Q=it ρ μ λds μ1=>xK G tt te (kc ρ n caps) ds μ1 Q:=propext NA
theorem JJ (ρ:ST)(μ:Mu)(Q:Bool->Mu->Prop):jq ρ μ Q=Q true μ:=propext NA
theorem IP {μ:Mu}{a:Addr}{o:MO}(h:μ a=none):dn (up μ a o) a=μ:=DE h
section
variable {G:GTr} {tt:TTr} {te:ETr} {ρc:ST} {ds:List D} {μ:Mu} {Q:DK}
theorem Gr (f:D->Option D)(hl:ds.length<=999999)
  (step:∀ d∈ds,∀ μ',Sub μ μ'->∀ (N:Option D->Mu->Prop),N (f d) μ'->G d ρc μ' λρ1 μ1=>tt ρ1 μ1 λb μ2=>kIf b (te ρ1 μ2 λy μ3=>N (some y) μ3) (N none μ2))
  (k:Q (.ls (ds.filterMap f)) μ):xK G tt te ρc ds μ Q:=by
 intro p hp
 refine iN (λr μ'=>∃ done,ds=done++r/\μ'=up μ p (.lst (done.filterMap f))) ?_ ?_ _ _ ⟨[],rfl,rfl⟩
 ·rintro μ' ⟨done,e,rfl⟩
  rw[OC] at e
  subst e
  refine p9 bp ?_
  rw[DE hp];exact k
 ·rintro d r μ' N ⟨done,e,rfl⟩ hN
  have hd:d∈ds:=by rw[e];simp
  have e':ds=(done++[d])++r:=by rw[e];simp
  have lf:(done.filterMap f).length < 1000000:=by
   have h1:=List.length_filterMap_le f done
   have h2:ds.length=done.length+(d::r).length:=by rw[e,NQ]
   rw[ND] at h2;omega
  refine step d hd _ (Sub.new hp) (λoy μ3=>match oy with
   | some y=>kL μ3 p λzs=>zs.length < 1000000/\N (up μ3 p (.lst (zs++[y])))
   | none=>N μ3) ?_
  cases hf:f d with
  | none=>
   refine hN _ ⟨done++[d],e',?_⟩
   rw[QD];simp[hf]
  | some y=>
   refine p9 bp ⟨lf,hN _ ⟨done++[d],e',?_⟩⟩
   rw[QD,nt];simp[hf]
theorem comp_map (f:D->D)(hl:ds.length<=999999)
  (step:∀ d∈ds,∀ μ',Sub μ μ'->∀ (N:DK),N (f d) μ'->G d ρc μ' λρ1 μ1=>te ρ1 μ1 N)
  (k:Q (.ls (ds.map f)) μ):xK G jq te ρc ds μ Q:=by
 refine Gr (λd=>some (f d)) hl (λd hd μ' s N n=>?_) (by rw[show (λd=>some (f d))=some ∘ f from rfl,SE];exact k)
 exact step d hd μ' s (λy μ3=>N (some y) μ3) n
theorem Eb (I:List D->List D->Prop)(h0:I ds [])(hl:ds.length<=999999)
  (step:∀ d r zs μ',Sub μ μ'->I (d::r) zs->∀ (N:Option D->Mu->Prop),(∀ oy,I r (zs++oy.toList)->N oy μ')->G d ρc μ' λρ1 μ1=>tt ρ1 μ1 λb μ2=>kIf b (te ρ1 μ2 λy μ3=>N (some y) μ3) (N none μ2))
  (k:∀ zs,I [] zs->Q (.ls zs) μ):xK G tt te ρc ds μ Q:=by
 intro p hp
 refine iN (λr μ'=>∃ zs,I r zs/\zs.length+r.length<=ds.length/\μ'=up μ p (.lst zs)) ?_ ?_ _ _ ⟨[],h0,by simp,rfl⟩
 ·rintro μ' ⟨zs,hI,_,rfl⟩
  refine p9 bp ?_
  rw[DE hp];exact k zs hI
 ·rintro d r μ' N ⟨zs,hI,hz,rfl⟩ hN
  rw[ND] at hz
  refine step d r zs _ (Sub.new hp) hI (λoy μ3=>match oy with
   | some y=>kL μ3 p λzs=>zs.length < 1000000/\N (up μ3 p (.lst (zs++[y])))
   | none=>N μ3) ?_
  intro oy hoy
  cases oy with
  | none=>exact hN _ ⟨zs,by simpa using hoy,by omega,rfl⟩
  | some y=>
   refine p9 bp ⟨by omega,hN _ ⟨zs++[y],hoy,by rw[NQ];simp;omega,?_⟩⟩
   rw[nt]
theorem Ee {α:Type}(xs:List α)(t:α->D)(h:α->Option D)(hds:ds=xs.map t)(hl:xs.length<=999999)
  (step:∀ x∈xs,∀ μ',Sub μ μ'->∀ (N:Option D->Mu->Prop),N (h x) μ'->G (t x) ρc μ' λρ1 μ1=>tt ρ1 μ1 λb μ2=>kIf b (te ρ1 μ2 λy μ3=>N (some y) μ3) (N none μ2))
  (k:Q (.ls (xs.filterMap h)) μ):xK G tt te ρc ds μ Q:=by
 subst hds
 refine Eb (λr zs=>∃ a c,xs=a++c/\r=c.map t/\zs=a.filterMap h) ⟨[],xs,rfl,rfl,rfl⟩ (by simpa using hl) ?_ ?_
 ·rintro d r zs μ' sb ⟨a,c,e,er,rfl⟩ N hN
  cases c with
  | nil=>cases er
  | cons x c=>
  cases er
  refine step x (by rw[e];simp) μ' sb N (hN _ ⟨a++[x],c,by rw[e];simp,rfl,?_⟩)
  rw[QD]
  cases hx:h x<;>simp[hx]
 ·rintro zs ⟨a,c,e,er,rfl⟩
  have:c=[]:=by cases c with | nil=>rfl | cons=>cases er
  subst this
  rw[OC] at e
  subst e;exact k
theorem zF {α:Type}(xs:List α)(t:α->D)(h:α->D)(hds:ds=xs.map t)(hl:xs.length<=999999)
  (step:∀ x∈xs,∀ μ',Sub μ μ'->∀ (N:DK),N (h x) μ'->G (t x) ρc μ' λρ1 μ1=>te ρ1 μ1 N)
  (k:Q (.ls (xs.map h)) μ):xK G jq te ρc ds μ Q:=by
 refine Ee xs t (λx=>some (h x)) hds hl (λx hx μ' s N n=>?_) (by rw[show (λx=>some (h x))=some ∘ h from rfl,SE];exact k)
 exact step x hx μ' s (λy μ3=>N (some y) μ3) n
end
section
open PySem PySem.Spec PyProof.Rows L2
section
variable {X:Cx} {o i e:NX} {apos cpos:Pos} {To Ti Te:ETr}
end
end
section
open PySem PySem.Spec PyProof.Rows L2
section
variable {X:Cx} {a b m o i:NX} {p1 p2 pos apos cpos:Pos} {ta tb tm:TE} {Ta Tb Tm To Ti:ETr}
def kIn (x:D)(f:Int->Prop):Prop:=match x with
 | .int i=>i.natAbs.log2 < 1920/\f i
 | _=>False
def MM (x:D)(f:Str->Prop):Prop:=match x with
 | .str z=>f z
 | _=>False
theorem ow:∀ {zs:List Str} {us:List Nu},Vals (zs.map V.str) us->Qx us zs
 | [],_,.nil=>.nil
 | z::zs,_,.cons ⟨t,e⟩ r=>by rw[e];exact .cons z t (ow r)
theorem BK:MtM X "str.join" (λx vs H Q=>∃ sep p zs,x=.str sep/\vs=[.ref p]/\SqT X.K H p (zs.map V.str)/\(zs.map (·.length)).sum+zs.length*sep.length<=16777216/\Q (.str (Txt.join sep zs)) H):=by
 intro pins s σ H x vs v us Q I rx rv h
 obtain ⟨sep,p,zs,rfl,rfl,sq,ok,q⟩:=h
 obtain ⟨t,rfl⟩:=rx
 obtain ⟨u,rfl,ru⟩:=rv.one
 cases (show u=OK p from ru)
 obtain ⟨its,r,pl,_⟩:=I.tuple sq
 exact join_tuple pl (by rw[List.toList_toArray];exact ow r) ok λt' k=>⟨.str _,H,I.tok _,⟨_,rfl⟩,q⟩
def rF (To Ti:ETr):ETr:=λρ μ Q=>To ρ μ λx μ1=>MM x λsep=>Ti ρ μ1 λy μ2=>match y with
  | .tup ds=>∃ zs,hU ds=some zs/\(zs.map (·.length)).sum+zs.length*sep.length<=16777216/\Q (.str (Txt.join sep zs)) μ2
  | _=>False
theorem CK (ho:LE X o To)(hi:LE X i Ti)
  (hbase:QO o "join" X.env (OF o X.env)=OF o X.env:=by rfl)
  (hfew:((N8 cpos (Nx [i] X.env)).all (λx=>!x.1)&&(T6 cpos (RA [] X.env)).all (λx=>x.1.isSome)
   && decide (([i]:List NX).length+([]:List QN).length+(if ([]:List QN).isEmpty then 0 else 1) < 30))=true:=by rfl)
  (hline:(apos.endLine == cpos.line)=true:=by rfl) (hs:Nx [i] X.env=(false,OF i X.env)::Nx [] X.env:=by rfl) (hplain:(N8 cpos (Nx [] X.env)).any (·.1)=false:=by rfl) :
  LE X (.Call (.Attribute o "join" apos) [i] [] cpos) (rF To Ti):=by
 obtain ⟨to,po,so⟩:=ho.ex
 obtain ⟨ti,pi,si⟩:=hi.ex
 refine ⟨_,IV PySem.F.slot_str_join PySem.F.type_str_join BK po (gv pi kK hs) hbase hfew hline hs hplain,λσ H ρ μ Q Q' rl h k=>so σ H ρ μ _ _ rl h λx H1 dx μ1 t1 m1 p1 h1=>?_⟩
 cases p1 with
 | str z=>
  refine ⟨⟨z,rfl⟩,si σ H1 ρ μ1 _ _ (rl.go t1 m1) h1 λy H2 dy μ2 t2 m2 p2 h2=>?_⟩
  cases p2 with
  | @tup a xs ds sq l=>
   obtain ⟨zs,e,ok,h2⟩:=h2
   have:=ze l e
   subst this
   exact ⟨z,a,zs,rfl,rfl,sq,ok,k _ H2 _ μ2 (t1.trans t2) m2 (.str _) h2⟩
  | _=>exact Ny h2
 | _=>exact Ny h1
end
end
theorem GO (sep:Str)(zs:List Str):Txt.join sep zs=RW sep zs:=StrLaws.glued_eq_join sep zs
theorem A9 {n:Nat}:∀ {zs:List Str},(∀ z∈zs,z.length<=n)->(zs.map (·.length)).sum<=zs.length*n
 | [],_=>OM _
 | x::r,h=>by
  have ih:=A9 λz k=>h z (NF x k)
  have:=h x NB
  rw[N7,List.sum_cons,ND,VB]
  omega
theorem strs_map (zs:List Str):hU (zs.map .str)=some zs:=by
 induction zs with
 | nil=>rfl
 | cons z r ih=>rw[N7,hU,ih];rfl
def itS (i:Int):Str:=toString i
def shw:D->Str
 | .str z=>z
 | .int i=>itS i
 | .tup [.int a,.int b]=>if b=1 then itS a else itS a++Nr "/" ++ itS b
 | _=>Nr "-"
def ka (d:D):Prop:=(∃ i:Int,d=.int i/\0<=i/\i < 10000000000)∨∃ a b:Int,d=.tup [.int a,.int b]/\(0<=a/\a < 10000000000)/\0<=b/\b < 10000000000
def Jj (d:D):Prop:=d=.non∨(∃ z,d=.str z/\N6 z=true/\z.length<=200)∨ka d
structure WT where
 nm:Str
 p:Int
 r:Int
 m:Option Int
 so:Str
def oD:Option Int->D
 | none=>.non
 | some i=>.int i
def WT.toD (w:WT):D:=.tup [.str w.nm,.int w.p,.int w.r,oD w.m,.str w.so]
structure l4 (z:Str):Prop where
 o:N6 z=true
 l:z.length<=8
structure lT (i:Int):Prop where
 l:0<=i
 u:i < 10000000000
structure WT.Ok (w:WT):Prop where
 n:l4 w.nm
 p:lT w.p
 r:lT w.r
 m:∀ i,w.m=some i->lT i
 s:l4 w.so
structure ST' where
 nm:Str
 rd:List Str
 bt:Int
 bg:Int
 mn:Option Int
 wd:Str
 ps:List D
def ST'.toD (s:ST'):D:=.tup [.str s.nm,.tup (s.rd.map .str),.int s.bt,.int s.bg,oD s.mn,.tup (.str s.wd::s.ps)]
structure ST'.Ok (s:ST'):Prop where
 n:l4 s.nm
 r:∀ z∈s.rd,l4 z
 rl:s.rd.length<=8
 b:lT s.bt
 g:lT s.bg
 m:∀ i,s.mn=some i->lT i
 w:l4 s.wd
 p:∀ d∈s.ps,ka d
 pl:s.ps.length<=6
def sp1:Str:=Nr " "
def WT.ds (w:WT):List D:=[.str "way", .str w.nm,.int w.p,.int w.r,oD w.m,.str w.so]
def ST'.ds (s:ST'):List D:=[.str "sender", .str s.nm,.str (RW (Nr ",") s.rd),.int s.bt,.int s.bg,oD s.mn,.str s.wd]++s.ps
theorem Ms {z:Str}(h:l4 z):Jj (.str z):=.inr (.inl ⟨z,rfl,h.o,OD h.l (by decide)⟩)
theorem MA {i:Int}(h:lT i):Jj (.int i):=.inr (.inr (.inl ⟨i,rfl,h.l,h.u⟩))
def JX (ds:List D):Str:=RW sp1 (ds.map shw)
structure PT where
 g:Int
 ws:List WT
 ss:List ST'
def PT.toD (p:PT):D:=.tup [.int p.g,.tup (p.ws.map WT.toD),.tup (p.ss.map ST'.toD)]
structure PT.Ok (p:PT):Prop where
 g:lT p.g
 w:∀ w∈p.ws,w.Ok
 s:∀ s∈p.ss,s.Ok
 wl:p.ws.length<=8
 sl:p.ss.length<=8
def PT.gd (p:PT):List D:=[.str "grid", .int p.g]
def PT.rows (p:PT):List Str:=JX p.gd::(p.ws.map (λw=>JX w.ds)++p.ss.map λs=>JX s.ds)
theorem PT.Ok.gd {p:PT}(h:p.Ok):∀ d∈p.gd,Jj d:=ai (Ms ⟨by decide +kernel,by decide +kernel⟩) (ai (MA h.g) aK)
theorem PT.Ok.len {p:PT}(h:p.Ok):p.rows.length<=17:=by
 have:=h.wl
 have:=h.sl
 unfold PT.rows
 rw[ND,NQ,NC,NC]
 omega
def nl:Str:=Nr "\n"
theorem ux:bw "NoneType" "int" = false:=by decide +kernel
theorem pW:bw "NoneType" "bool" = false:=by decide +kernel
theorem vf:bw "NoneType" "str" = false:=by decide +kernel
theorem mB:bw "NoneType" "tuple" = false:=by decide +kernel
theorem tY:bw "bool" "int" = true:=by decide +kernel
theorem qv:bw "bool" "bool" = true:=by decide +kernel
theorem tX:bw "bool" "str" = false:=by decide +kernel
theorem nL:bw "bool" "tuple" = false:=by decide +kernel
theorem uj:bw "int" "int" = true:=by decide +kernel
theorem qc:bw "int" "bool" = false:=by decide +kernel
theorem uY:bw "int" "str" = false:=by decide +kernel
theorem nI:bw "int" "tuple" = false:=by decide +kernel
theorem vh:bw "str" "int" = false:=by decide +kernel
theorem pU:bw "str" "bool" = false:=by decide +kernel
theorem vm:bw "str" "str" = true:=by decide +kernel
theorem mW:bw "str" "tuple" = false:=by decide +kernel
theorem t8:bw "tuple" "int" = false:=by decide +kernel
theorem qp:bw "tuple" "bool" = false:=by decide +kernel
theorem uW:bw "tuple" "str" = false:=by decide +kernel
theorem oH:bw "tuple" "tuple" = true:=by decide +kernel
theorem uk:bw "list" "int" = false:=by decide +kernel
theorem qj:bw "list" "bool" = false:=by decide +kernel
theorem uG:bw "list" "str" = false:=by decide +kernel
theorem mG:bw "list" "tuple" = false:=by decide +kernel
theorem uI:bw "dict" "int" = false:=by decide +kernel
theorem pZ:bw "dict" "bool" = false:=by decide +kernel
theorem vt:bw "dict" "str" = false:=by decide +kernel
theorem mQ:bw "dict" "tuple" = false:=by decide +kernel
def kTx (x:D)(f:Str->Prop):Prop:=match x with
 | .str z=>f z
 | _=>False
section
variable (c:String) (μ:Mu) (Q:DK)
theorem Lg:cE c .non μ Q=Q (.bl (bw "NoneType" c)) μ:=propext NA
theorem L9 (b:Bool):cE c (.bl b) μ Q=Q (.bl (bw "bool" c)) μ:=propext NA
theorem KU (b:Int):cE c (.int b) μ Q=Q (.bl (bw "int" c)) μ:=propext NA
theorem L6 (b:Str):cE c (.str b) μ Q=Q (.bl (bw "str" c)) μ:=propext NA
theorem Kw (b:List D):cE c (.tup b) μ Q=Q (.bl (bw "tuple" c)) μ:=propext NA
theorem KA (b:List D):cE c (.ls b) μ Q=Q (.bl (bw "list" c)) μ:=propext NA
theorem j2 {c μ Q}{a:Addr}{k:List (L2.Key×D)}(e:μ a=some (.dct k)):cE c (.obj a) μ Q=Q (.bl (bw "dict" c)) μ:=by unfold cE;simp only[tyO,e]
theorem E2 (b:Bool):rIs (.bl b) .non μ Q=Q (.bl false) μ:=propext NA
theorem FP (b:Str):rIs (.str b) .non μ Q=Q (.bl false) μ:=propext NA
theorem GJ (b:List D):rIs (.ls b) .non μ Q=Q (.bl false) μ:=propext NA
theorem Fg (b:Addr):rIs (.obj b) .non μ Q=Q (.bl false) μ:=propext NA
theorem HU (x y:Str):EO (.str x) (.str y) μ Q=Q (.bl (D8 y x)) μ:=propext NA
theorem GD (x:Str)(i:Int):p7 (.str x) (.int i) μ Q=(x.length<=1000000/\kN (L2.atI x.cps.toList i) λc=>Q (.str ⟨#[c]⟩) μ):=propext NA
theorem FU (x:Str)(i:Int):nE (.str x) (.int i) μ Q=((i<=1000/\-1000<=i/\x.length<=1000)/\Q (.str (oq x i.toNat)) μ):=propext NA
theorem BY (a:ETr)(ρ:ST)(Q:List D->Mu->Prop):Fc a ρ μ Q=a ρ μ λx μ1=>kTx x λz=>z.cps.all (· < 128)=true/\Q (vJ z) μ1:=by
 unfold Fc kTx;rfl
theorem C4 (a:ETr)(lo hi:OTr)(ρ:ST):Lk a lo hi ρ μ Q=a ρ μ λx μ1=>lo ρ μ1 λi μ2=>hi ρ μ2 λj μ3=>kTx x λz=>z.length<=1000000/\Q (.str (Txt.slice z i j)) μ3:=by
 unfold Lk kTx;rfl
theorem KO (z:Str)(f:Str->Prop):kTx (.str z) f=f z:=propext NA
theorem GG (ρ:ST):Ea ρ μ Q = ∀ p,μ p=none->Q (.obj p) (up μ p (.dct [])):=propext NA
end
theorem KL (z:List D)(f:List D->Prop):kLz (.ls z) f=f z:=propext NA
theorem xw (a:ETr)(ρ:ST)(μ:Mu)(Q:DK):oK a ρ μ Q=a ρ μ λx μ1=>kLz x λxs=>∃ ss:List Str,(xs=ss.map .str/\ss.length < 4000/\(ddT ss).length < 64)/\∀ ss':List Str,ss'.Perm (ddT ss)->ss'.Pairwise (λa b=>ltS b a=false)->Q (.ls (ss'.map .str)) μ1:=propext NA
theorem AH (a:ETr)(ρ:ST)(μ:Mu)(Q:DK):rh a ρ μ Q=a ρ μ λx μ1=>kLz x λxs=>∃ ss:List Str,(xs=ss.map .str/\ss.length < 4000)/\Q (.int (ddT ss).length) μ1:=propext NA
theorem yB (a i:ETr)(ρ:ST)(μ:Mu)(Q:DK):G7 a i ρ μ Q=a ρ μ λx μ1=>kTx x λsep=>i ρ μ1 λy μ2=>kLz y λds=>∃ zs,hU ds=some zs/\JoinOk sep zs=true/\Q (.str (Txt.join sep zs)) μ2:=by
 unfold G7 kTx kLz;rfl
def kTz (x:D)(f:List D->Prop):Prop:=match x with
 | .tup z=>f z
 | _=>False
theorem KG (z:List D)(f:List D->Prop):kTz (.tup z) f=f z:=propext NA
theorem tJ (a i:ETr)(ρ:ST)(μ:Mu)(Q:DK):rF a i ρ μ Q=a ρ μ λx μ1=>kTx x λsep=>i ρ μ1 λy μ2=>kTz y λds=>∃ zs,hU ds=some zs/\(zs.map (·.length)).sum+zs.length*sep.length<=16777216/\Q (.str (Txt.join sep zs)) μ2:=by
 unfold rF kTx kTz;rfl
def Li:=Jn @xw <| Jn @AH <| Jn @KL <| Jn @KG <| Jn @Lg <| Jn @L9 <| Jn @KU <| Jn @L6 <| Jn @Kw <| Jn @KA <| Jn @E2 <| Jn @FP <| Jn @GJ <| Jn @Fg <| Jn @HU <| Jn @GD <| Jn @FU <| Jn @KO <| Jn @GG <| Jn @EA <| Jn @JJ <| Jn @A3 <| Jn @DN <| Jn @Dr <| Jn @Dw <| Jn @JK <| Jn @JC <| Jn @HD <| Jn @Im <| @K8
local macro_rules | `(tactic| walk_at "go")=>zzS "↓L3.Li L3.Jg ↓L3.yB ↓L3.tJ ↓L3.BY ↓L3.C4 ↓L3.Hi ↓L3.GY ↓L3.G2 ↓L3.Hg ↓L3.Hh ↓L3.G8 ↓L3.qT ↓L3.kz L3.dm L3.cO L3.dQ L3.dJ L3.dq L3.dF L3.eJ L3.eM L3.cM L3.dP L3.dI L3.dD L3.dE L3.eL L3.dk L3.eT L3.du L3.eP L3.dN L3.eR L3.mh L3.ux L3.pW L3.vf L3.mB L3.tY L3.qv L3.tX L3.nL L3.uj L3.qc L3.uY L3.nI L3.vh L3.pU L3.vm L3.mW L3.t8 L3.qp L3.uW L3.oH L3.uk L3.qj L3.uG L3.mG L3.uI L3.pZ L3.vt L3.mQ L3.kc List.map_cons List.map_nil List.replicate List.cons_append List.nil_append L3.lk L3.Ir L3.HN L3.Jz L3.II L3.Iv L3.JN L3.qI L3.nQ L3.lr L3.kW L3.Br L3.Dm L3.yp L3.mj L3.jU L3.rq L3.xG L3.wN L3.sM L3.qU L3.r8 L3.sL true_and and_true and_self Bool.not_true Bool.not_false decide_true decide_false Bool.or_true Bool.or_false Bool.true_or Bool.false_or Bool.and_false Bool.false_and Bool.and_true Bool.true_and Int.reduceToNat Int.reducePow Int.reduceNeg Int.reduceSub Int.reduceAdd Int.reduceMul Int.reduceEq Int.reduceLT Int.reduceLE Int.reduceBEq L3.nt L3.iO L3.iI L3.iK L3.iJ L3.iL L3.iH L3.iM if_true if_false Bool.false_eq_true reduceCtorEq decide_eq_true_eq"
inductive Any (μ:Mu):D->Prop
 | non:Any μ .non
 | bl (b:Bool):Any μ (.bl b)
 | int {i:Int} (h:bz i):Any μ (.int i)
 | str {z:Str} (h:z.cps.all (· < 128)=true) (hl:z.length<=1000):Any μ (.str z)
 | tup {ds:List D} (h:∀ d∈ds,Any μ d) (hl:ds.length<=1000):Any μ (.tup ds)
 | ls (ds:List D):Any μ (.ls ds)
 | dct {a:Addr} {k:List (L2.Key×D)} (e:μ a=some (.dct k)):Any μ (.obj a)
theorem Any.b7 {μ:Mu}{ds:List D}(h:Any μ (.tup ds)):∀ d∈ds,Any μ d:=by cases h;assumption
theorem Any.sub {μ μ':Mu}{d:D}(s:Sub μ μ')(h:Any μ d):Any μ' d:=by
 induction h with
 | non=>exact .non
 | bl b=>exact .bl b
 | int h=>exact .int h
 | str h hl=>exact .str h hl
 | tup _ hl ih=>exact .tup ih hl
 | ls ds=>exact .ls ds
 | dct e=>exact .dct (s _ _ e)
theorem Any.m {μ:Mu}{i:Int}(h:Any μ (.int i)):bz i:=by cases h;assumption
theorem bz.mul {p q:Int}(h:bz p)(h':bz q):MulOk p q:=.inr ⟨h,h'⟩
def isI:D->Bool
 | .int _=>true
 | _=>false
def wiI (lo hi:Int):D->Bool
 | .int i=>decide (lo<=i)&&decide (i<=hi)
 | _=>false
def isT (m:Int):D->Bool
 | .tup ds=>decide ((ds.length:Int)=m)
 | _=>false
theorem fK {c:Bool}{A B:Prop}(h1:c=true->B)(h2:c=false->A):kIf (!c) A B:=by
 cases c with
 | true=>exact h1 rfl
 | false=>exact h2 rfl
def bZ:FSp:=λds μ Q=>kcA ds λd ds=>kcN ds (Any μ d/\Q (.bl (isI d)) μ)
theorem nZ:∀ ds μ Q,bZ ds μ Q->ds.length=1:=λ_ _ _ h=>lcA h λ_ _ h=>by rw[(ecN h).1];rfl
def jG:STr:=aR (cK (TUn (cE "int") (ah 0)) (kZ (TUn (cE "bool") (ah 0))))
theorem pf:∀ ds μ Q,bZ ds μ Q->jG { nx:=λ_ μ'=>RT Q .non μ',rt:=RT Q } (ini 1 ds) μ:=by
 intro ds μ Q h
 replace h:=ecA h
 obtain ⟨d,ds,rfl,h⟩:=h
 replace h:=ecN h
 obtain ⟨rfl,h⟩:=h
 walk_at "ini"
 unfold jG
 walk_at "go"
 obtain ⟨t,k⟩:=h
 cases t
 all_goals
  walk_at "go"
  try (rw[j2 (by assumption)];walk_at "go")
  exact ⟨_,.refl _,k⟩
def aL:FSp:=λds μ Q=>kcA ds λd ds=>kcI ds λlo ds=>kcI ds λhi ds=>kcN ds (Any μ d/\Q (.bl (wiI lo hi d)) μ)
theorem g4:∀ ds μ Q,aL ds μ Q->ds.length=3:=λ_ _ _ h=>lcA h λ_ _ h=>lcI h λ_ _ h=>lcI h λ_ _ h=>by rw[(ecN h).1];rfl
def eC:STr:=aR (cK (ar bZ (ae (ah 0) (ak))) (fJ rLe rLe (ah 1) (ah 0) (ah 2)))
theorem iu:∀ ds μ Q,aL ds μ Q->eC { nx:=λ_ μ'=>RT Q .non μ',rt:=RT Q } (ini 3 ds) μ:=by
 intro ds μ Q h
 replace h:=ecA h
 obtain ⟨d,ds,rfl,h⟩:=h
 replace h:=ecI h
 obtain ⟨lo,ds,rfl,h⟩:=h
 replace h:=ecI h
 obtain ⟨hi,ds,rfl,h⟩:=h
 replace h:=ecN h
 obtain ⟨rfl,h⟩:=h
 walk_at "ini"
 unfold eC
 walk_at "go"
 obtain ⟨t,k⟩:=h
 refine ⟨t,?_⟩
 cases t with
 | int hi'=>
  walk_at "go"
  simp only[isI]
  walk_at "go"
  simp only[wiI] at k
  refine kif (λh=>?_) λh=>?_
  ·rw[decide_eq_true h,NW] at k;exact ⟨_,.refl _,k⟩
  ·rw[decide_eq_false h,NM] at k;exact ⟨_,.refl _,k⟩
 | _=>
  walk_at "go"
  simp only[isI]
  walk_at "go"
  exact ⟨_,.refl _,k⟩
def bC:FSp:=λds μ Q=>kcA ds λd ds=>kcI ds λm ds=>kcN ds (Any μ d/\Q (.bl (isT m d)) μ)
theorem jF:∀ ds μ Q,bC ds μ Q->ds.length=2:=λ_ _ _ h=>lcA h λ_ _ h=>lcI h λ_ _ h=>by rw[(ecN h).1];rfl
def gK:STr:=aR (cK (TUn (cE "tuple") (ah 0)) (ao rEq (ar cX (ae (ah 0) (ak))) (ah 1)))
theorem kx:∀ ds μ Q,bC ds μ Q->gK { nx:=λ_ μ'=>RT Q .non μ',rt:=RT Q } (ini 2 ds) μ:=by
 intro ds μ Q h
 replace h:=ecA h
 obtain ⟨d,ds,rfl,h⟩:=h
 replace h:=ecI h
 obtain ⟨m,ds,rfl,h⟩:=h
 replace h:=ecN h
 obtain ⟨rfl,h⟩:=h
 walk_at "ini"
 unfold gK
 walk_at "go"
 obtain ⟨t,k⟩:=h
 cases t with
 | tup hd hl=>
  walk_at "go"
  exact ⟨_,.refl _,k⟩
 | _=>
  walk_at "go"
  try (rw[j2 (by assumption)];walk_at "go")
  exact ⟨_,.refl _,k⟩
def sm (c:Nat):Bool:=decide (97<=c)&&decide (c<=122)
def nmS (z:Str):Bool:=(decide (1<=z.cps.toList.length)&&decide (z.cps.toList.length<=8))&&z.cps.toList.all sm
def nmB:D->Bool
 | .str z=>nmS z
 | _=>false
def LET:Str:=Nr "abcdefghijklmnopqrstuvwxyz"
theorem Es:∀ c:Nat,c < 128->D8 LET ⟨#[c]⟩=sm c:=by
 have:∀ c:Fin 128,D8 LET ⟨#[c.val]⟩=sm c.val:=by decide +kernel
 exact λc h=>this ⟨c,h⟩
theorem hX (z:Str):z.cps.toList.length=z.length:=Oa
def sgB:D->D
 | .str ⟨a⟩=>.bl (sm (a.getD 0 0))
 | d=>d
def ck:FSp:=λds μ Q=>kcA ds λd ds=>kcN ds (Any μ d/\Q (.bl (nmB d)) μ)
theorem o5:∀ ds μ Q,ck ds μ Q->ds.length=1:=λ_ _ _ h=>lcA h λ_ _ h=>by rw[(ecN h).1];rfl
def lq:STr:=aE (bF (TOr (cb (TB (TUn (cE "str") (ah 0)))) (cb (TB (fJ rLe rLe (TC (.int 1)) (ar cX (ae (ah 0) (ak))) (TC (.int 8)))))) (aR (TC (.bl false))) (aU)) (aR (ar Cv (ae (df (Fc (ah 0)) (az 0) (jq) (ao EO (ah 0) (TC (.str "abcdefghijklmnopqrstuvwxyz"))) 1 []) (ak))))
theorem rY:∀ ds μ Q,ck ds μ Q->lq { nx:=λ_ μ'=>RT Q .non μ',rt:=RT Q } (ini 1 ds) μ:=by
 intro ds μ Q h
 replace h:=ecA h
 obtain ⟨d,ds,rfl,h⟩:=h
 replace h:=ecN h
 obtain ⟨rfl,h⟩:=h
 walk_at "ini"
 unfold lq
 walk_at "go"
 obtain ⟨t,k⟩:=h
 cases t with
 | @str z hz hl=>
  walk_at "go"
  refine ⟨by omega,?_⟩
  walk_at "go"
  have e1:((1:Int)<=(z.length:Nat))↔1<=z.cps.toList.length:=by rw[hX];omega
  have e2:(((z.length:Nat):Int)<=8)↔z.cps.toList.length<=8:=by rw[hX];omega
  have no:¬ (1<=z.cps.toList.length/\z.cps.toList.length<=8)->RT Q (.bl false) μ:=λh=>by
   have:nmB (.str z)=false:=by
    show nmS z=false
    unfold nmS
    rw[← UT,decide_eq_false h,NM]
   rw[this] at k
   exact ⟨_,.refl _,k⟩
  refine kif (λh1=>?_) λh1=>no λh=>h1 (e1.mpr h.1)
  refine uM (λh2=>no λh=>h2 (e2.mpr h.2)) λh2=>?_
  refine ⟨hz,?_⟩
  refine comp_map sgB (by rw[rL];have:z.cps.size=z.length:=rfl;omega) (λd hd μ' _ N n=>?_) ?_
  ·unfold vJ at hd
   obtain ⟨c,hc,rfl⟩:=N5.mp hd
   have c1:c < 128:=by
    have:=OW.mp hz c (by simpa using hc)
    simpa using this
   walk_at "go"
   rw[show D8 (Nr "abcdefghijklmnopqrstuvwxyz") ⟨#[c]⟩=sm c from Es c c1]
   exact n
  ·walk_at "go"
   refine ⟨z.cps.toList.map sm,?_,_,.refl _,?_⟩
   ·unfold vJ
    rw[OR,OR];rfl
   ·have:nmB (.str z)=(z.cps.toList.map sm).all id:=by
     show nmS z=_
     unfold nmS
     rw[decide_eq_true (e1.mp h1),decide_eq_true (e2.mp h2),NW,NW,Rf];rfl
    rw[this] at k;exact k
 | _=>
  walk_at "go"
  try (rw[j2 (by assumption)];walk_at "go")
  exact ⟨_,.refl _,k⟩
def isF:D->Bool
 | .tup [.int p,.int q]=>decide (0 < q)&&decide (Oh p q=1)
 | _=>false
theorem two {d:D}(h:isT 2 d=true):∃ a b,d=.tup [a,b]:=by
 unfold isT at h
 split at h
 ·rename_i ds
  have h:=of_decide_eq_true h
  match ds,(show ds.length=2 by omega) with
  | [n,p],_=>exact ⟨n,p,rfl⟩
 ·cases h
theorem Bk {d:D}(h:isI d=true):∃ i,d=.int i:=by
 cases d with
 | int i=>exact ⟨i,rfl⟩
 | _=>cases h
theorem KN {d:D}(h:isT 2 d=false):isF d=false:=by
 unfold isF
 split
 ·simp[isT] at h
 ·rfl
theorem Lr {a b:D}(h:isI a=false):isF (.tup [a,b])=false:=by
 cases a with
 | int i=>cases h
 | _=>rfl
theorem LB {a b:D}(h:isI b=false):isF (.tup [a,b])=false:=by
 cases b with
 | int i=>cases h
 | _=>cases a<;>rfl
def cq:FSp:=λds μ Q=>kcA ds λd ds=>kcN ds (Any μ d/\Q (.bl (isF d)) μ)
theorem jw:∀ ds μ Q,cq ds μ Q->ds.length=1:=λ_ _ _ h=>lcA h λ_ _ h=>by rw[(ecN h).1];rfl
def gS:STr:=aE (bF (TOr (cb (TB (ar bC (ae (ah 0) (ae (TC (.int 2)) (ak)))))) (TOr (cb (TB (ar bZ (ae (ao L3.rIx (ah 0) (TC (.int 0))) (ak))))) (cb (TB (ar bZ (ae (ao L3.rIx (ah 0) (TC (.int 1))) (ak))))))) (aR (TC (.bl false))) (aU)) (aR (cK (ao rGt (ao L3.rIx (ah 0) (TC (.int 1))) (TC (.int 0))) (ao rEq (ar eV (ae (ao L3.rIx (ah 0) (TC (.int 0))) (ae (ao L3.rIx (ah 0) (TC (.int 1))) (ak)))) (TC (.int 1)))))
theorem ke:∀ ds μ Q,cq ds μ Q->gS { nx:=λ_ μ'=>RT Q .non μ',rt:=RT Q } (ini 1 ds) μ:=by
 intro ds μ Q h
 replace h:=ecA h
 obtain ⟨d,ds,rfl,h⟩:=h
 replace h:=ecN h
 obtain ⟨rfl,h⟩:=h
 walk_at "ini"
 unfold gS
 walk_at "go"
 obtain ⟨t,k⟩:=h
 have fin:∀ {b},isF d=b->RT Q (.bl b) μ:=λ{b} e=>by rw[e] at k;exact ⟨_,.refl _,k⟩
 refine ⟨t,?_⟩
 walk_at "go"
 refine fK (λh=>?_) λh=>fin (KN h)
 obtain ⟨a,b,rfl⟩:=two h
 have ta:=t.b7 a (by simp)
 have tb:=t.b7 b (by simp)
 walk_at "go"
 refine ⟨ta,?_⟩
 walk_at "go"
 refine fK (λh1=>?_) λh1=>fin (Lr h1)
 refine ⟨tb,?_⟩
 walk_at "go"
 refine fK (λh2=>?_) λh2=>fin (LB h2)
 obtain ⟨p,rfl⟩:=Bk h1
 obtain ⟨q,rfl⟩:=Bk h2
 walk_at "go"
 refine kif (λh=>?_) λh=>fin (by simp only[isF,decide_eq_false h,NM])
 refine ⟨rfl,fin ?_⟩
 simp only[isF,decide_eq_true h,NW,lr]
 exact decide_eq_decide.mpr (by omega)
def bY:FSp:=λds μ Q=>match ds with
 | [.tup [.int p,.int q],.tup [.int r,.int s]]=>((bz p/\bz q)/\bz r/\bz s)/\Q (.bl (decide (p*s < r*q))) μ
 | _=>False
theorem wH:∀ ds μ Q,bY ds μ Q->ds.length=2:=by
 unfold bY
 walk_at "ln"
def uP:STr:=aR (ao rLt (ao gG (ao L3.rIx (ah 0) (TC (.int 0))) (ao L3.rIx (ah 1) (TC (.int 1)))) (ao gG (ao L3.rIx (ah 1) (TC (.int 0))) (ao L3.rIx (ah 0) (TC (.int 1)))))
theorem zI:∀ ds μ Q,bY ds μ Q->uP { nx:=λ_ μ'=>RT Q .non μ',rt:=RT Q } (ini 2 ds) μ:=by
 intro ds μ Q h
 unfold bY at h
 split at h
 case h_2=>exact h.elim
 rename_i p q r s
 walk_at "ini"
 unfold uP
 walk_at "go"
 obtain ⟨⟨⟨h1,h2⟩,h3,h4⟩,k⟩:=h
 exact ⟨h1.mul h4,h3.mul h2,_,.refl _,k⟩
theorem CV {xs:List D}{c:Int}(c0:0<=c):atD xs c=xs[c.toNat]?:=by
 have:=bP c.toNat xs
 rwa [Int.toNat_of_nonneg c0] at this
def cD:FSp:=λds μ Q=>kcT ds λxs ds=>kcN ds (∃ d,(xs[xs.length - 1]? = some d/\xs≠[]/\xs.length<=1000)/\Q d μ)
theorem rV:∀ ds μ Q,cD ds μ Q->ds.length=1:=λ_ _ _ h=>lcT h λ_ _ h=>by rw[(ecN h).1];rfl
def mY:STr:=aR (ao L3.rIx (ah 0) (ao rH (ar cX (ae (ah 0) (ak))) (TC (.int 1))))
theorem vF:∀ ds μ Q,cD ds μ Q->mY { nx:=λ_ μ'=>RT Q .non μ',rt:=RT Q } (ini 1 ds) μ:=by
 intro ds μ Q h
 replace h:=ecT h
 obtain ⟨xs,ds,rfl,h⟩:=h
 replace h:=ecN h
 obtain ⟨rfl,h⟩:=h
 walk_at "ini"
 unfold mY
 walk_at "go"
 obtain ⟨d,⟨h1,h2,h3⟩,k⟩:=h
 have l0:0 < xs.length:=Q8.mpr h2
 rw[CV (by omega),show ((xs.length:Int) - 1).toNat=xs.length - 1 by omega,h1]
 exact ⟨_,.refl _,k⟩
def geF (a b:Int):D->Bool
 | .tup [.int p,.int q]=>decide (a*q<=p*b)
 | _=>false
def leF (c e:Int):D->Bool
 | .tup [.int p,.int q]=>decide (p*e<=c*q)
 | _=>false
def gtF (a b:Int):D->Bool
 | .tup [.int p,.int q]=>decide (a*q < p*b)
 | _=>false
def wiF (a b c e:Int)(d:D):Bool:=isF d&&(geF a b d&&leF c e d)
def aI:FSp:=λds μ Q=>match ds with
 | [d,.tup [.int a,.int b],.tup [.int c,.int e]]=>(Any μ d/\(bz a/\bz b)/\bz c/\bz e)/\Q (.bl (wiF a b c e d)) μ
 | _=>False
theorem nr (x y:Int):(!decide (x < y))=decide (y<=x):=by
 rw[← decide_not];exact decide_eq_decide.mpr (by omega)
theorem HY {d:D}(h:isF d=true):∃ p q,d=.tup [.int p,.int q]:=by
 unfold isF at h
 split at h
 ·exact ⟨_,_,rfl⟩
 ·cases h
theorem Any.two {μ:Mu}{p q:Int}(t:Any μ (.tup [.int p,.int q])):bz p/\bz q:=⟨(t.b7 (.int p) (by simp)).m,(t.b7 (.int q) (by simp)).m⟩
theorem fz:∀ ds μ Q,aI ds μ Q->ds.length=3:=by
 unfold aI
 walk_at "ln"
def cN:STr:=aR (cK (ar cq (ae (ah 0) (ak))) (cK (kZ (ar bY (ae (ah 0) (ae (ah 1) (ak))))) (kZ (ar bY (ae (ah 2) (ae (ah 0) (ak)))))))
theorem fZ:∀ ds μ Q,aI ds μ Q->cN { nx:=λ_ μ'=>RT Q .non μ',rt:=RT Q } (ini 3 ds) μ:=by
 intro ds μ Q h
 unfold aI at h
 split at h
 case h_2=>exact h.elim
 rename_i d a b c e
 walk_at "ini"
 unfold cN
 walk_at "go"
 obtain ⟨⟨t,⟨ha,hb⟩,hc,he⟩,k⟩:=h
 refine ⟨t,?_⟩
 walk_at "go"
 unfold wiF at k
 refine nq (λh=>?_) λh=>?_
 ·rw[h,NW] at k
  obtain ⟨p,q,rfl⟩:=HY h
  obtain ⟨h1,h2⟩:=t.two
  refine ⟨⟨⟨h1,h2⟩,ha,hb⟩,?_⟩
  walk_at "go"
  rw[nr]
  refine kif (λh'=>?_) λh'=>?_
  ·simp only[geF,decide_eq_true h',NW,leF] at k
   refine ⟨⟨⟨hc,he⟩,h1,h2⟩,?_⟩
   walk_at "go"
   rw[nr]
   exact ⟨_,.refl _,k⟩
  ·simp only[geF,decide_eq_false h',NM] at k
   exact ⟨_,.refl _,k⟩
 ·rw[h,NM] at k;exact ⟨_,.refl _,k⟩
def aJ:FSp:=λds μ Q=>match ds with
 | [d,.tup [.int a,.int b],.tup [.int c,.int e]]=>(Any μ d/\(bz a/\bz b)/\bz c/\bz e)/\Q (.bl (wiF a b c e d&&gtF a b d)) μ
 | _=>False
theorem g8 {a b c e:Int}{d:D}(h:wiF a b c e d=true):∃ p q,d=.tup [.int p,.int q]:=by
 unfold wiF isF at h
 split at h
 ·exact ⟨_,_,rfl⟩
 ·cases h
theorem fY:∀ ds μ Q,aJ ds μ Q->ds.length=3:=by
 unfold aJ
 walk_at "ln"
def cZ:STr:=aR (cK (ar aI (ae (ah 0) (ae (ah 1) (ae (ah 2) (ak))))) (ar bY (ae (ah 1) (ae (ah 0) (ak)))))
theorem gs:∀ ds μ Q,aJ ds μ Q->cZ { nx:=λ_ μ'=>RT Q .non μ',rt:=RT Q } (ini 3 ds) μ:=by
 intro ds μ Q h
 unfold aJ at h
 split at h
 case h_2=>exact h.elim
 rename_i d a b c e
 walk_at "ini"
 unfold cZ
 walk_at "go"
 obtain ⟨⟨t,⟨ha,hb⟩,hc,he⟩,k⟩:=h
 refine ⟨⟨t,⟨ha,hb⟩,hc,he⟩,?_⟩
 walk_at "go"
 refine nq (λh=>?_) λh=>?_
 ·rw[h,NW] at k
  obtain ⟨p,q,rfl⟩:=g8 h
  exact ⟨⟨⟨ha,hb⟩,t.two⟩,_,.refl _,k⟩
 ·rw[h,NM] at k;exact ⟨_,.refl _,k⟩
theorem He {w:Str}(h:w∈dh):N6 w=true:=by
 simp only[dh,NT,Oy,or_false] at h
 rcases h with rfl | rfl | rfl | rfl | rfl
 ·exact ko
 ·exact mJ
 ·exact kG
 ·exact ou
 ·exact nG
def lo2 (w:Str):Int:=if w=Nr "swell" then 1 else 0
def grw (w:Str)(a u t:D):Bool:=wiF 1 1 60 1 t&&((match t with
 | .tup [.int r,.int s]=>wiF 1 1 r s a
 | _=>false)&&(wiF (lo2 w) 1 60 1 u&&gtF (lo2 w) 1 u))
def bI:FSp:=λds μ Q=>match ds with
 | [.tup (.str w::a::u::xs)]=>∃ t,(w∈dh/\xs[xs.length - 1]? = some t/\(xs≠[]/\xs.length<=50)/\Any μ a/\Any μ u/\Any μ t)/\Q (.bl (grw w a u t)) μ
 | _=>False
theorem kA:∀ ds μ Q,bI ds μ Q->ds.length=1:=by
 unfold bI
 walk_at "ln"
def ig:STr:=aE (aQ (aG (ae (TC (.int 60)) (ae (TC (.int 1)) (ak)))) (az 1)) (aE (bF (cb (TB (ar aI (ae (ar cD (ae (ah 0) (ak))) (ae (TC (.tup [.int 1,.int 1])) (ae (ah 1) (ak))))))) (aR (TC (.bl false))) (aU)) (aE (aQ (zm (TB (ao rEq (ao L3.rIx (ah 0) (TC (.int 0))) (TC (.str "swell")))) (TC (.tup [.int 1,.int 1])) (TC (.tup [.int 0,.int 1]))) (az 2)) (aR (cK (ar aI (ae (ao L3.rIx (ah 0) (TC (.int 1))) (ae (TC (.tup [.int 1,.int 1])) (ae (ar cD (ae (ah 0) (ak))) (ak))))) (ar aJ (ae (ao L3.rIx (ah 0) (TC (.int 2))) (ae (ah 2) (ae (ah 1) (ak)))))))))
theorem lZ:∀ ds μ Q,bI ds μ Q->ig { nx:=λ_ μ'=>RT Q .non μ',rt:=RT Q } (ini 3 ds) μ:=by
 intro ds μ Q h
 unfold bI at h
 split at h
 case h_2=>exact h.elim
 rename_i w a u xs
 walk_at "ini"
 unfold ig
 walk_at "go"
 obtain ⟨t,⟨hw,hx,⟨hx0,hx1⟩,ta,tu,tt⟩,k⟩:=h
 have hl:((.str w:D)::a::u::xs)[((.str w:D)::a::u::xs).length - 1]? = some t:=by
  have:xs.length≠0:=λz=>hx0 (RX.mp z)
  rw[show ((.str w:D)::a::u::xs).length - 1=(xs.length - 1)+3 by simp;omega]
  simpa using hx
 have n1:bz 1:=by unfold bz;omega
 have n0:bz 0:=by unfold bz;omega
 have n60:bz 60:=by unfold bz;omega
 refine ⟨t,⟨hl,by simp,by simp;omega⟩,?_⟩
 refine ⟨⟨tt,⟨n1,n1⟩,n60,n1⟩,?_⟩
 walk_at "go"
 unfold grw at k
 refine fK (λh=>?_) λh=>?_
 rotate_left
 ·rw[h,NM] at k;exact ⟨_,.refl _,k⟩
 rw[h,NW] at k
 obtain ⟨r,s,rfl⟩:=g8 h
 obtain ⟨h1,h2⟩:=tt.two
 refine ⟨He hw,?_⟩
 have key:∀ lw,lo2 w=lw->bz lw->hE cD [.tup (.str w::a::u::xs)] μ λx μ1=>hE aI [a,.tup [.int 1,.int 1],x] μ1 λx μ1=>kB x λc=>kIf c (hE aJ [u,.tup [.int lw,.int 1],.tup [.int 60,.int 1]] μ1 (RT Q)) (RT Q (.bl false) μ1):=λlw el nl=>by
  rw[el] at k
  refine ⟨_,⟨hl,by simp,by simp;omega⟩,⟨ta,⟨n1,n1⟩,h1,h2⟩,?_⟩
  walk_at "go"
  refine nq (λh'=>?_) λh'=>?_
  ·simp only[h',NW] at k
   exact ⟨⟨tu,⟨nl,n1⟩,n60,n1⟩,_,.refl _,k⟩
  ·simp only[h',NM] at k
   exact ⟨_,.refl _,k⟩
 exact kif (λc=>key 1 (by unfold lo2;rw[if_pos c]) n1) λc=>key 0 (by unfold lo2;rw[if_neg c]) n0
def yL (l h:D):Bool:=wiI 0 60 h&&(match h with
 | .int i=>wiI 0 i l
 | _=>false)
def b9:FSp:=λds μ Q=>kcA ds λl ds=>kcA ds λh ds=>kcN ds ((Any μ l/\Any μ h)/\Q (.bl (yL l h)) μ)
theorem jo:∀ ds μ Q,b9 ds μ Q->ds.length=2:=λ_ _ _ h=>lcA h λ_ _ h=>lcA h λ_ _ h=>by rw[(ecN h).1];rfl
def fV:STr:=aR (cK (ar aL (ae (ah 1) (ae (TC (.int 0)) (ae (TC (.int 60)) (ak))))) (ar aL (ae (ah 0) (ae (TC (.int 0)) (ae (ah 1) (ak))))))
theorem jW:∀ ds μ Q,b9 ds μ Q->fV { nx:=λ_ μ'=>RT Q .non μ',rt:=RT Q } (ini 2 ds) μ:=by
 intro ds μ Q h
 replace h:=ecA h
 obtain ⟨l,ds,rfl,h⟩:=h
 replace h:=ecA h
 obtain ⟨hx,ds,rfl,h⟩:=h
 replace h:=ecN h
 obtain ⟨rfl,h⟩:=h
 walk_at "ini"
 unfold fV
 walk_at "go"
 obtain ⟨⟨tl,th⟩,k⟩:=h
 unfold yL at k
 refine ⟨th,?_⟩
 walk_at "go"
 refine nq (λh'=>?_) λh'=>?_
 ·simp only[h',NW] at k
  cases hx with
  | int i=>exact ⟨tl,_,.refl _,k⟩
  | _=>cases h'
 ·simp only[h',NM] at k
  exact ⟨_,.refl _,k⟩
def four (w:Str):Prop:=w=Nr "step" ∨ w=Nr "swell" ∨ w=Nr "heed"
def abF (d:D):Bool:=wiF 0 1 1 1 d&&gtF 0 1 d
def G0:D->Bool
 | .tup [.int p,.int q]=>decide (p*1 < 1*q)
 | _=>false
def okR (w:Str):List D->Bool
 | [a]=>wiF 1 1 60 1 a
 | [a,u,g,t]=>grw w a u t&&(if w=Nr "heed" then abF g else abF g&&G0 g)
 | [a,u,l,h,t]=>grw w a u t&&yL l h
 | _=>false
abbrev fi:List (Str×D):=[((Nr "still"),(.int 2:D)),((Nr "step"),(.int 5:D)),((Nr "swell"),(.int 5:D)),((Nr "heed"),(.int 5:D)),((Nr "calm"),(.int 6:D))]
def z4 (o:Option D)(xs:List D):Bool:=match o with
 | some d=>eqD (.int ((xs.length+1:Nat):Int)) d
 | none=>false
def bM:D->Bool
 | .tup (.str w::xs)=>z4 (bH fi w) xs&&okR w xs
 | _=>false
theorem fk (w:Str)(xs:List D):bM (.tup (.str w::xs))=(z4 (bH fi w) xs&&okR w xs):=rfl
theorem Eh {w:Str}{d:D}(h:bH fi w=some d):(w=Nr "still" /\ d=.int 2)∨(four w/\d=.int 5)∨(w=Nr "calm" /\ d=.int 6):=by
 unfold bH fi at h
 rw[Option.map_eq_some_iff] at h
 obtain ⟨x,hx,rfl⟩:=h
 have h1:=List.mem_of_find?_eq_some hx
 have h2:x.1=w:=by have:=List.find?_some hx;simpa using this
 simp only[NT,Oy,or_false] at h1
 rcases h1 with rfl | rfl | rfl | rfl | rfl<;>simp only at h2<;>subst h2
 ·exact .inl ⟨rfl,rfl⟩
 ·exact .inr (.inl ⟨.inl rfl,rfl⟩)
 ·exact .inr (.inl ⟨.inr (.inl rfl),rfl⟩)
 ·exact .inr (.inl ⟨.inr (.inr rfl),rfl⟩)
 ·exact .inr (.inr ⟨rfl,rfl⟩)
theorem u9 {w:Str}{xs:List D}(h:bH fi w=none):bM (.tup (.str w::xs))=false:=by rw[fk,h];rfl
theorem e6 {w:Str}{xs:List D}{n:Int}(h:bH fi w=some (.int n))(hl:¬ ((xs.length+1:Nat):Int)=n):bM (.tup (.str w::xs))=false:=by rw[fk,h];simp only[z4,lr,decide_eq_false hl,NM]
theorem bX {w:Str}{xs:List D}{n:Int}(h:bH fi w=some (.int n))(hl:((xs.length+1:Nat):Int)=n):bM (.tup (.str w::xs))=okR w xs:=by rw[fk,h];simp only[z4,lr,decide_eq_true hl,NW]
theorem y4 {w:Str}(h:four w):w∈dh:=by rcases h with rfl | rfl | rfl<;>simp[dh]
def eS:FSp:=λds μ Q=>kcA ds λd ds=>kcN ds (Any μ d/\Q (.bl (bM d)) μ)
theorem oZ:∀ ds μ Q,eS ds μ Q->ds.length=1:=λ_ _ _ h=>lcA h λ_ _ h=>by rw[(ecN h).1];rfl
def kY:STr:=aE (bF (TOr (cb (TB (TUn (cE "tuple") (ah 0)))) (TOr (TB (ao rEq (ar cX (ae (ah 0) (ak))) (TC (.int 0)))) (cb (TB (TUn (cE "str") (ao L3.rIx (ah 0) (TC (.int 0)))))))) (aR (TC (.bl false))) (aU)) (aE (aQ (ao L3.rIx (ah 0) (TC (.int 0))) (az 1)) (aE (bF (TOr (TB (rR true [((Nr "still"),(.int 2:D)),((Nr "step"),(.int 5:D)),((Nr "swell"),(.int 5:D)),((Nr "heed"),(.int 5:D)),((Nr "calm"),(.int 6:D))] (ah 1))) (TB (ao rNe (ar cX (ae (ah 0) (ak))) (v5 [((Nr "still"),(.int 2:D)),((Nr "step"),(.int 5:D)),((Nr "swell"),(.int 5:D)),((Nr "heed"),(.int 5:D)),((Nr "calm"),(.int 6:D))] (ah 1))))) (aR (TC (.bl false))) (aU)) (aE (bF (TB (ao rEq (ah 1) (TC (.str "still")))) (aR (ar aI (ae (ao L3.rIx (ah 0) (TC (.int 1))) (ae (TC (.tup [.int 1,.int 1])) (ae (aG (ae (TC (.int 60)) (ae (TC (.int 1)) (ak)))) (ak)))))) (aU)) (aE (bF (cb (TB (ar bI (ae (ah 0) (ak))))) (aR (TC (.bl false))) (aU)) (aE (bF (TB (ao rEq (ah 1) (TC (.str "calm")))) (aR (ar b9 (ae (ao L3.rIx (ah 0) (TC (.int 3))) (ae (ao L3.rIx (ah 0) (TC (.int 4))) (ak))))) (aU)) (aE (bF (TB (ao rEq (ah 1) (TC (.str "heed")))) (aR (ar aJ (ae (ao L3.rIx (ah 0) (TC (.int 3))) (ae (TC (.tup [.int 0,.int 1])) (ae (TC (.tup [.int 1,.int 1])) (ak)))))) (aU)) (aR (cK (ar aJ (ae (ao L3.rIx (ah 0) (TC (.int 3))) (ae (TC (.tup [.int 0,.int 1])) (ae (TC (.tup [.int 1,.int 1])) (ak))))) (ar bY (ae (ao L3.rIx (ah 0) (TC (.int 3))) (ae (TC (.tup [.int 1,.int 1])) (ak))))))))))))
theorem sE:∀ ds μ Q,eS ds μ Q->kY { nx:=λ_ μ'=>RT Q .non μ',rt:=RT Q } (ini 2 ds) μ:=by
 intro ds μ Q h
 replace h:=ecA h
 obtain ⟨d,ds,rfl,h⟩:=h
 replace h:=ecN h
 obtain ⟨rfl,h⟩:=h
 walk_at "ini"
 unfold kY
 walk_at "go"
 obtain ⟨t,k⟩:=h
 have fin:∀ {b},bM d=b->RT Q (.bl b) μ:=λ{b} e=>by rw[e] at k;exact ⟨_,.refl _,k⟩
 have n1:bz 1:=by unfold bz;omega
 have n0:bz 0:=by unfold bz;omega
 have n60:bz 60:=by unfold bz;omega
 cases t with
 | @tup ds hd hl=>
  cases ds with
  | nil=>
   walk_at "go"
   exact fin rfl
  | cons x xs=>
   walk_at "go"
   refine Ml (by simp;omega) ?_
   have tx:=hd x NB
   cases tx with
   | @str w hw hwl=>
    walk_at "go"
    cases e:bH fi w with
    | none=>exact fin (u9 e)
    | some d=>
     have hx:∀ d∈xs,Any μ d:=λd h=>hd d (NF _ h)
     rcases Eh e with ⟨rfl,rfl⟩ | ⟨h4,rfl⟩ | ⟨rfl,rfl⟩
     ·walk_at "go"
      refine uM (λhne=>fin (e6 e (by simpa using hne))) λhe=>?_
      obtain ⟨a,rfl⟩:∃ a,xs=[a]:=by
       simp only[ND] at he
       match xs,(show xs.length=1 by omega) with
       | [a],_=>exact ⟨a,rfl⟩
      have ta:=hx a (by simp)
      walk_at "go"
      exact ⟨⟨ta,⟨n1,n1⟩,n60,n1⟩,fin (bX e rfl)⟩
     ·have h5:=y4 h4
      have h6:=He h5
      have gr:((xs.length+1:Nat):Int)=5->∃ a u g t,xs=[a,u,g,t]/\(Any μ a/\Any μ u/\Any μ g/\Any μ t):=λhe=>by
       match xs,(show xs.length=4 by omega) with
       | [a,u,g,t],_=>exact ⟨a,u,g,t,rfl,hx a (by simp),hx u (by simp),hx g (by simp),hx t (by simp)⟩
      have two:∀ g t a u,xs=[a,u,g,t]->Any μ g->grw w a u t=true->¬ w=Nr "heed" -> hE aJ [g,.tup [.int 0,.int 1],.tup [.int 1,.int 1]] μ λx μ1=>kB x λc=>kIf c (hE bY [g,.tup [.int 1,.int 1]] μ1 (RT Q)) (RT Q (.bl false) μ1):=λg t a u ex tg hg nh=>by
       subst ex
       have ek:=bX (xs:=[a,u,g,t]) e rfl
       simp only[okR,hg,NW,nh,if_false] at ek
       refine ⟨⟨tg,⟨n0,n1⟩,n1,n1⟩,?_⟩
       show kIf (abF g) _ _
       refine nq (λh2=>?_) λh2=>fin (by rw[ek,h2];rfl)
       obtain ⟨p,q,rfl⟩:=g8 (Bool.and_eq_true_iff.mp h2).1
       obtain ⟨h3,h4⟩:=tg.two
       exact ⟨⟨⟨h3,h4⟩,n1,n1⟩,fin (by rw[ek,h2];rfl)⟩
      have grow:∀ (a u g t:D) (A B:Mu->Prop),xs=[a,u,g,t]->Any μ a->Any μ u->Any μ t->(grw w a u t=true->B μ)->(grw w a u t=false->A μ)->hE bI [.tup (.str w::xs)] μ λx μ1=>kB x λc=>kIf (!c) (A μ1) (B μ1):=λa u g t A B ex ta tu tt h1 h2=>by
       subst ex
       refine ⟨t,⟨h5,rfl,⟨by simp,by simp⟩,ta,tu,tt⟩,?_⟩
       show kIf _ _ _
       exact fK h1 h2
      rcases h4 with rfl | rfl | rfl
      ·walk_at "go"
       refine uM (λhne=>fin (e6 e (by simpa using hne))) λhe=>?_
       obtain ⟨a,u,g,t,ex,ta,tu,tg,tt⟩:=gr (by simpa using he)
       refine grow a u g t _ _ ex ta tu tt (λh=>?_) λh=>fin (by subst ex;rw[bX e rfl];simp only[okR,h,NM])
       have tw2:=two g t a u ex tg h (of_eq_false eW)
       subst ex
       walk_at "go"
       exact tw2
      ·walk_at "go"
       refine uM (λhne=>fin (e6 e (by simpa using hne))) λhe=>?_
       obtain ⟨a,u,g,t,ex,ta,tu,tg,tt⟩:=gr (by simpa using he)
       refine grow a u g t _ _ ex ta tu tt (λh=>?_) λh=>fin (by subst ex;rw[bX e rfl];simp only[okR,h,NM])
       have tw2:=two g t a u ex tg h (of_eq_false dO)
       subst ex
       walk_at "go"
       exact tw2
      ·walk_at "go"
       refine uM (λhne=>fin (e6 e (by simpa using hne))) λhe=>?_
       obtain ⟨a,u,g,t,ex,ta,tu,tg,tt⟩:=gr (by simpa using he)
       refine grow a u g t _ _ ex ta tu tt (λh=>?_) λh=>fin (by subst ex;rw[bX e rfl];simp only[okR,h,NM])
       subst ex
       walk_at "go"
       exact ⟨⟨tg,⟨n0,n1⟩,n1,n1⟩,fin (by rw[bX e rfl];simp only[okR,h,NW,if_true];rfl)⟩
     ·walk_at "go"
      refine uM (λhne=>fin (e6 e (by simpa using hne))) λhe=>?_
      obtain ⟨a,u,l,h,t,rfl⟩:∃ a u l h t,xs=[a,u,l,h,t]:=by
       simp only[ND] at he
       match xs,(show xs.length=5 by omega) with
       | [a,u,l,h,t],_=>exact ⟨a,u,l,h,t,rfl⟩
      have ta:=hx a (by simp)
      have tu:=hx u (by simp)
      have tl:=hx l (by simp)
      have th:=hx h (by simp)
      have tt:=hx t (by simp)
      have ek:=bX (xs:=[a,u,l,h,t]) e rfl
      walk_at "go"
      refine ⟨t,⟨by simp[dh],rfl,⟨by simp,by simp⟩,ta,tu,tt⟩,?_⟩
      show kIf _ _ _
      refine fK (λh=>?_) λh=>fin (by rw[ek];simp only[okR,h,NM])
      walk_at "go"
      exact ⟨⟨tl,th⟩,fin (by rw[ek];simp only[okR,h,NW])⟩
   | _=>
    walk_at "go"
    try (rw[j2 (by assumption)];walk_at "go")
    exact fin rfl
 | _=>
  walk_at "go"
  try (rw[j2 (by assumption)];walk_at "go")
  exact fin rfl
def nwB (hi:Int):D->Bool
 | .non=>true
 | d=>wiI 0 hi d
def bq:FSp:=λds μ Q=>kcA ds λd ds=>kcI ds λhi ds=>kcN ds (Any μ d/\Q (.bl (nwB hi d)) μ)
theorem f9:∀ ds μ Q,bq ds μ Q->ds.length=2:=λ_ _ _ h=>lcA h λ_ _ h=>lcI h λ_ _ h=>by rw[(ecN h).1];rfl
def cY:STr:=aR (Ac (ao rIs (ah 0) (TC .non)) (ar aL (ae (ah 0) (ae (TC (.int 0)) (ae (ah 1) (ak))))))
theorem gk:∀ ds μ Q,bq ds μ Q->cY { nx:=λ_ μ'=>RT Q .non μ',rt:=RT Q } (ini 2 ds) μ:=by
 intro ds μ Q h
 replace h:=ecA h
 obtain ⟨d,ds,rfl,h⟩:=h
 replace h:=ecI h
 obtain ⟨hi,ds,rfl,h⟩:=h
 replace h:=ecN h
 obtain ⟨rfl,h⟩:=h
 walk_at "ini"
 unfold cY
 walk_at "go"
 obtain ⟨t,k⟩:=h
 have t':=t
 cases t with
 | non=>
  walk_at "go"
  exact ⟨_,.refl _,k⟩
 | _=>
  walk_at "go"
  exact ⟨t',_,.refl _,k⟩
def soB:D->Bool
 | .str z=>decide (z=Nr "line") || decide (z=Nr "turns")
 | _=>false
def eN:FSp:=λds μ Q=>kcA ds λd ds=>kcN ds (Any μ d/\Q (.bl (soB d)) μ)
theorem A8 {z:Str}(h:z.cps.all (· < 128)=true):N6 z=true:=by
 unfold N6
 rw[OW] at h ⊢
 intro c hc
 have:=h c hc
 simp only[decide_eq_true_eq] at this ⊢
 omega
theorem F7:N6 (Nr "line")=true:=by decide +kernel
theorem CJ:N6 (Nr "turns")=true:=by decide +kernel
theorem pJ:∀ ds μ Q,eN ds μ Q->ds.length=1:=λ_ _ _ h=>lcA h λ_ _ h=>by rw[(ecN h).1];rfl
def lC:STr:=aR (cK (TUn (cE "str") (ah 0)) (ao (wo false) (ah 0) (aG (ae (TC (.str "line")) (ae (TC (.str "turns")) (ak))))))
theorem sj:∀ ds μ Q,eN ds μ Q->lC { nx:=λ_ μ'=>RT Q .non μ',rt:=RT Q } (ini 1 ds) μ:=by
 intro ds μ Q h
 replace h:=ecA h
 obtain ⟨d,ds,rfl,h⟩:=h
 replace h:=ecN h
 obtain ⟨rfl,h⟩:=h
 walk_at "ini"
 unfold lC
 walk_at "go"
 obtain ⟨t,k⟩:=h
 cases t with
 | @str z hz hl=>
  walk_at "go"
  refine ⟨⟨by simp[bB,okD,F7,CJ],by simp[okD,A8 hz]⟩,?_⟩
  have e:inG (.str z) [.str "line", .str "turns"]=soB (.str z):=by
   simp only[inG,soB,QP,List.any_nil,kW,Tp]
   first | rfl | (congr 1<;>exact decide_eq_decide.mpr ⟨Eq.symm,Eq.symm⟩)
  rw[← e] at k
  exact ⟨_,.refl _,k⟩
 | _=>
  walk_at "go"
  try (rw[j2 (by assumption)];walk_at "go")
  exact ⟨_,.refl _,k⟩
def cR:D->Bool
 | .tup [n,p,r,m,s]=>nmB n&&(wiI 1 20 p&&(wiI 1 60 r&&(nwB 60 m&&soB s)))
 | _=>false
theorem Ng {d:D}(h:isT 5 d=true):∃ n p r m s,d=.tup [n,p,r,m,s]:=by
 unfold isT at h
 split at h
 ·rename_i ds
  have h:=of_decide_eq_true h
  match ds,(show ds.length=5 by omega) with
  | [n,p,r,m,s],_=>exact ⟨n,p,r,m,s,rfl⟩
 ·cases h
theorem M1 {d:D}(h:isT 5 d=false):cR d=false:=by
 unfold cR
 split
 ·simp[isT] at h
 ·rfl
def fj:FSp:=λds μ Q=>kcA ds λd ds=>kcN ds (Any μ d/\Q (.bl (cR d)) μ)
theorem qQ:∀ ds μ Q,fj ds μ Q->ds.length=1:=λ_ _ _ h=>lcA h λ_ _ h=>by rw[(ecN h).1];rfl
def nM:STr:=aE (bF (TOr (cb (TB (ar bC (ae (ah 0) (ae (TC (.int 5)) (ak)))))) (cb (TB (ar ck (ae (ao L3.rIx (ah 0) (TC (.int 0))) (ak)))))) (aR (TC (.bl false))) (aU)) (aE (bF (TOr (cb (TB (ar aL (ae (ao L3.rIx (ah 0) (TC (.int 1))) (ae (TC (.int 1)) (ae (TC (.int 20)) (ak))))))) (cb (TB (ar aL (ae (ao L3.rIx (ah 0) (TC (.int 2))) (ae (TC (.int 1)) (ae (TC (.int 60)) (ak)))))))) (aR (TC (.bl false))) (aU)) (aR (cK (ar bq (ae (ao L3.rIx (ah 0) (TC (.int 3))) (ae (TC (.int 60)) (ak)))) (ar eN (ae (ao L3.rIx (ah 0) (TC (.int 4))) (ak))))))
theorem u0:∀ ds μ Q,fj ds μ Q->nM { nx:=λ_ μ'=>RT Q .non μ',rt:=RT Q } (ini 1 ds) μ:=by
 intro ds μ Q h
 replace h:=ecA h
 obtain ⟨d,ds,rfl,h⟩:=h
 replace h:=ecN h
 obtain ⟨rfl,h⟩:=h
 walk_at "ini"
 unfold nM
 walk_at "go"
 obtain ⟨t,k⟩:=h
 have fin:∀ {b},cR d=b->RT Q (.bl b) μ:=λ{b} e=>by rw[e] at k;exact ⟨_,.refl _,k⟩
 refine ⟨t,?_⟩
 walk_at "go"
 refine fK (λh=>?_) λh=>fin (M1 h)
 obtain ⟨n,p,r,m,s,rfl⟩:=Ng h
 have tn:=t.b7 n (by simp)
 have tp:=t.b7 p (by simp)
 have tr:=t.b7 r (by simp)
 have tm:=t.b7 m (by simp)
 have ts:=t.b7 s (by simp)
 walk_at "go"
 refine ⟨tn,?_⟩
 walk_at "go"
 refine fK (λh1=>?_) λh1=>fin (by simp[cR,h1])
 refine ⟨tp,?_⟩
 walk_at "go"
 refine fK (λh2=>?_) λh2=>fin (by simp[cR,h2])
 refine ⟨tr,?_⟩
 walk_at "go"
 refine fK (λh3=>?_) λh3=>fin (by simp[cR,h3])
 refine ⟨tm,?_⟩
 walk_at "go"
 refine nq (λh4=>?_) λh4=>fin (by simp[cR,h4])
 refine ⟨ts,?_⟩
 exact fin (by simp[cR,h1,h2,h3,h4])
def nmD:D->Str
 | .tup (.str z::_)=>z
 | _=>Uw
theorem Bq {κ:Type} [DecidableEq κ]:∀ (ks σ:List κ),(ddS σ ks).length<=σ.length+ks.length:=by
 intro ks
 induction ks with
 | nil=>intro σ;exact NN _
 | cons k r ih=>
  intro σ
  unfold ddS
  have:=ih (if k∈σ then σ else σ++[k])
  rw[ND]
  split at this
  ·rename_i h;rw[if_pos h];omega
  ·rename_i h;rw[if_neg h];rw[NQ,Pl] at this;omega
theorem CC {κ:Type} [DecidableEq κ]:∀ (ks σ:List κ),(σ++ks).Nodup->ddS σ ks=σ++ks:=by
 intro ks
 induction ks with
 | nil=>intro σ _;simp[ddS]
 | cons k r ih=>
  intro σ h
  unfold ddS
  have nk:k ∉ σ:=λhk=>(O5.mp h).2.2 k hk k NB rfl
  rw[if_neg nk,ih _ (by rw[O4];exact h),O4];rfl
theorem CI {κ:Type} [DecidableEq κ]:∀ (ks σ:List κ),σ.Nodup->(ddS σ ks).length=σ.length+ks.length->(σ++ks).Nodup:=by
 intro ks
 induction ks with
 | nil=>intro σ h _;rw[OC];exact h
 | cons k r ih=>
  intro σ h e
  unfold ddS at e
  by_cases hk:k∈σ
  ·rw[if_pos hk] at e
   have:=Bq r σ
   rw[ND] at e
   omega
  ·rw[if_neg hk] at e
   have:=ih (σ++[k]) (O5.mpr ⟨h,by simp,λx hx y hy e=>hk (by rw[NK] at hy;rw[← hy,← e];exact hx)⟩) (by rw[e,NQ,ND];simp;omega)
   simp only[O4] at this
   exact this
theorem Gf (ss:List Str):(ddT ss).length=ss.length↔ss.Nodup:=by
 constructor
 ·intro h;have:=CI ss [] .nil (by rw[Ol,Nat.zero_add];exact h);exact this
 ·intro h;rw[show ddT ss=ss from CC ss [] h]
def fo:D->Bool
 | .tup ds=>(decide (1<=ds.length)&&decide (ds.length<=6))&&(ds.all cR&&decide ((ds.map nmD).Nodup))
 | _=>false
theorem qG {d:D}(h:cR d=true):∃ z r,d=.tup (.str z::r)/\nmS z=true:=by
 unfold cR at h
 split at h
 ·rename_i n p r m s
  cases n with
  | str z=>rw[Nz] at h;exact ⟨z,_,rfl,h.1⟩
  | _=>simp[nmB] at h
 ·cases h
def dA:FSp:=λds μ Q=>kcA ds λd ds=>kcN ds (Any μ d/\Q (.bl (fo d)) μ)
theorem nX:∀ ds μ Q,dA ds μ Q->ds.length=1:=λ_ _ _ h=>lcA h λ_ _ h=>by rw[(ecN h).1];rfl
def jZ:STr:=aE (bF (TOr (cb (TB (TUn (cE "tuple") (ah 0)))) (cb (TB (fJ rLe rLe (TC (.int 1)) (ar cX (ae (ah 0) (ak))) (TC (.int 6)))))) (aR (TC (.bl false))) (aU)) (aE (bF (cb (TB (ar Cv (ae (df (iT (ah 0)) (az 0) (jq) (ar fj (ae (ah 0) (ak))) 1 []) (ak))))) (aR (TC (.bl false))) (aU)) (aR (ao rEq (rh (df (iT (ah 0)) (az 0) (jq) (ao L3.rIx (ah 0) (TC (.int 0))) 1 [])) (ar cX (ae (ah 0) (ak))))))
theorem pI:∀ ds μ Q,dA ds μ Q->jZ { nx:=λ_ μ'=>RT Q .non μ',rt:=RT Q } (ini 1 ds) μ:=by
 intro ds μ Q h
 replace h:=ecA h
 obtain ⟨d,ds,rfl,h⟩:=h
 replace h:=ecN h
 obtain ⟨rfl,h⟩:=h
 walk_at "ini"
 unfold jZ
 walk_at "go"
 obtain ⟨t,k⟩:=h
 have fin:∀ {b},fo d=b->RT Q (.bl b) μ:=λ{b} e=>by rw[e] at k;exact ⟨_,.refl _,k⟩
 cases t with
 | @tup ds hd hl=>
  walk_at "go"
  have e1:((1:Int)<=(ds.length:Nat))↔1<=ds.length:=by omega
  have e2:(((ds.length:Nat):Int)<=6)↔ds.length<=6:=by omega
  refine kif (λh1=>?_) λh1=>fin (by simp only[fo];rw[decide_eq_false (λz=>h1 (e1.mpr z))];rfl)
  refine uM (λh2=>fin (by simp only[fo];rw[decide_eq_false (λz=>h2 (e2.mpr z)),Od];rfl)) λh2=>?_
  have eb:fo (.tup ds)=(ds.all cR&&decide ((ds.map nmD).Nodup)):=by simp only[fo];rw[decide_eq_true (e1.mp h1),decide_eq_true (e2.mp h2)];rfl
  refine comp_map (λd=>.bl (cR d)) (by omega) (λd hd' μ' sb N n=>?_) ?_
  ·walk_at "go"
   exact ⟨(hd d hd').sub sb,n⟩
  ·walk_at "go"
   refine ⟨ds.map cR,by rw[OR];rfl,?_⟩
   walk_at "go"
   have ea:(ds.map cR).all id=ds.all cR:=by rw[Rf];rfl
   rw[ea]
   refine fK (λh3=>?_) λh3=>fin (by rw[eb,h3];rfl)
   have hw:=Oe.mp h3
   refine comp_map (λd=>.str (nmD d)) (by omega) (λd hd' μ' sb N n=>?_) ?_
   ·obtain ⟨z,r,rfl,_⟩:=qG (hw d hd')
    walk_at "go"
    exact n
   ·walk_at "go"
    refine ⟨ds.map nmD,⟨by rw[OR];rfl,by rw[NC];omega⟩,?_⟩
    walk_at "go"
    refine fin ?_
    rw[eb,h3,NW]
    refine decide_eq_decide.mpr ?_
    rw[← Gf,NC]
    omega
 | _=>
  walk_at "go"
  try (rw[j2 (by assumption)];walk_at "go")
  exact fin rfl
theorem vw {a b:Str}(h:a.cps.toList=b.cps.toList):a=b:=by
 cases a with | mk x=>cases b with | mk y=>exact congrArg Str.mk (Array.toList_inj.mp h)
theorem Dh (w:Str)(os:List Str):inG (.str w) (os.map .str)=decide (w∈os):=by
 unfold inG
 rw[List.any_map]
 refine UO.mpr ?_
 rw[QJ,decide_eq_true_eq]
 constructor
 ·rintro ⟨x,hx,q⟩
  simp only[Q9,kW,decide_eq_true_eq] at q
  rw[← q];exact hx
 ·intro h
  exact ⟨w,h,by simp only[Q9,kW,decide_true]⟩
theorem hC {k:Nat}{zs:List Str}(h:∀ z∈zs,N6 z=true):bB k (zs.map .str)=true:=by
 induction zs with
 | nil=>rfl
 | cons z r ih=>
  rw[N7,bB,Nz]
  exact ⟨by cases k<;>simpa[okD] using h z NB,ih λy q=>h y (NF _ q)⟩
def gn (ns:List Str)(z:Str):Nat:=ns.findIdx λy=>decide (y=z)
theorem CW {ns:List Str}{z:Str}(h:z∈ns):Aw (ns.map .str) (.str z)=some (gn ns z):=by
 unfold Aw gn
 rw[List.findIdx?_map,List.findIdx?_eq_some_iff_findIdx_eq]
 have e:((λy=>eqD y (D.str z)) ∘ D.str)=λy=>decide (y=z):=by funext y;simp only[Q9,kW]
 rw[e]
 exact ⟨OX ⟨z,h,by simp⟩,rfl⟩
def cx (ns:List Str):Nat->List D->Bool
 | _,[]=>true
 | b,.str z::r=>nmS z&&(decide (z∈ns.drop b)&&cx ns (gn ns z+1) r)
 | _,_::_=>false
def cu (ns:List Str):D->Bool
 | .tup ds=>decide (ds≠[])&&cx ns 0 ds
 | _=>false
theorem rC {z:Str}(h:nmS z=true):N6 z=true:=by
 refine A8 ?_
 unfold nmS at h
 simp only[Nz,Oe] at h
 rw[OW]
 intro c hc
 have:=h.2 c (Array.mem_toList_iff.mpr hc)
 simp only[sm,Nz,decide_eq_true_eq] at this
 exact decide_eq_true (show _ by omega)
theorem u5 {ns:List Str}{b:Nat}{x:D}{r:List D}(h:nmB x=false):cx ns b (x::r)=false:=by
 cases x with
 | str z=>have h:nmS z=false:=h;simp only[cx,h,NM]
 | _=>rfl
def eK:FSp:=λds μ Q=>kcA ds λd ds=>kcL ds λxs ds=>kcN ds (∃ ns:List Str,(Any μ d/\xs=ns.map .str/\(∀ n∈ns,N6 n=true)/\ns.length<=1000)/\Q (.bl (cu ns d)) μ)
theorem oW:∀ ds μ Q,eK ds μ Q->ds.length=2:=λ_ _ _ h=>lcA h λ_ _ h=>lcL h λ_ _ h=>by rw[(ecN h).1];rfl
def ly:STr:=aE (bF (TOr (cb (TB (TUn (cE "tuple") (ah 0)))) (TB (ao rEq (ar cX (ae (ah 0) (ak))) (TC (.int 0))))) (aR (TC (.bl false))) (aU)) (aE (aQ (TC (.int 0)) (az 2)) (aE (tF (iT (ah 0)) (az 3) (aE (bF (TOr (cb (TB (ar ck (ae (ah 3) (ak))))) (TB (ao (wo true) (ah 3) (TSl (ah 1) (fE (ah 2)) (ONo))))) (aR (TC (.bl false))) (aU)) (aQ (ao aH (xn (ah 1) (ah 3)) (TC (.int 1))) (az 2)))) (aR (TC (.bl true)))))
theorem rj:∀ ds μ Q,eK ds μ Q->ly { nx:=λ_ μ'=>RT Q .non μ',rt:=RT Q } (ini 4 ds) μ:=by
 intro ds μ Q h
 replace h:=ecA h
 obtain ⟨d,ds,rfl,h⟩:=h
 replace h:=ecL h
 obtain ⟨xs,ds,rfl,h⟩:=h
 replace h:=ecN h
 obtain ⟨rfl,h⟩:=h
 walk_at "ini"
 unfold ly
 walk_at "go"
 obtain ⟨ns,⟨t,rfl,hn,hl⟩,k⟩:=h
 have fin:∀ {b},cu ns d=b->RT Q (.bl b) μ:=λ{b} e=>by rw[e] at k;exact ⟨_,.refl _,k⟩
 cases t with
 | @tup ds hd hl'=>
  walk_at "go"
  refine kif (λh0=>fin ?_) λh0=>?_
  ·have:ds=[]:=RX.mp (by omega)
   subst this;rfl
  have ne:ds≠[]:=λz=>h0 (by rw[z];rfl)
  have e0:cu ns (.tup ds)=cx ns 0 ds:=by simp only[cu];rw[decide_eq_true ne];rfl
  refine jx (λr ρ μ'=>∃ (b:Nat) (v3:Option D),cu ns (.tup ds)=cx ns b r/\(∀ d∈r,Any μ d)/\ρ=[some (.tup ds),some (.ls (ns.map .str)),some (.int b),v3]/\μ'=μ) ?_ ?_ _ _ _ ⟨0,_,e0,hd,rfl,rfl⟩
  ·rintro ρ μ' ⟨b,v3,eb,_,rfl,rfl⟩
   walk_at "go"
   exact fin eb
  ·rintro x r ρ μ' N ⟨b,v3,eb,hr,rfl,rfl⟩ hN
   walk_at "go"
   refine ⟨hr x NB,?_⟩
   walk_at "go"
   refine fK (λh1=>?_) λh1=>fin (by rw[eb];exact u5 h1)
   cases x with
   | str z=>
    have h1:nmS z=true:=h1
    have ok:=rC h1
    rw[iG]
    have em:(ns.map D.str).drop b=(ns.drop b).map D.str:=by rw[Vu]
    rw[em,Dh]
    refine ⟨⟨hC λy q=>hn y (ON q),by simpa[okD] using ok⟩,?_⟩
    walk_at "go"
    refine uM (λh2=>fin ?_) λh2=>?_
    ·rw[eb];simp only[cx,h1,decide_eq_false h2,NM,Od]
    refine ⟨⟨hC hn,by simpa[okD] using ok⟩,?_⟩
    have hm:=ON h2
    rw[CW hm]
    walk_at "go"
    have lt:gn ns z < ns.length:=OX ⟨z,hm,by simp⟩
    exact ⟨by omega,hN _ _ ⟨gn ns z+1,_,by rw[eb];simp only[cx,h1,decide_eq_true h2,NW],λd hd=>hr d (NF _ hd),rfl,rfl⟩⟩
   | _=>cases h1
 | _=>
  walk_at "go"
  try (rw[j2 (by assumption)];walk_at "go")
  exact fin rfl
def aX (ns:List Str):D->Bool
 | .tup [n,r,b,g,m,u]=>nmB n&&(cu ns r&&(wiI 1 8 b&&(wiI 0 1000000 g&&(nwB 1000000 m&&bM u))))
 | _=>false
theorem six {d:D}(h:isT 6 d=true):∃ n r b g m u,d=.tup [n,r,b,g,m,u]:=by
 unfold isT at h
 split at h
 ·rename_i ds
  have h:=of_decide_eq_true h
  match ds,(show ds.length=6 by omega) with
  | [n,r,b,g,m,u],_=>exact ⟨n,r,b,g,m,u,rfl⟩
 ·cases h
theorem MD {ns:List Str}{d:D}(h:isT 6 d=false):aX ns d=false:=by
 unfold aX
 split
 ·simp[isT] at h
 ·rfl
theorem BQ {ws:List D}(h:fo (.tup ws)=true):(1<=ws.length/\ws.length<=6)/\(∀ d∈ws,cR d=true)/\(ws.map nmD).Nodup:=by
 simp only[fo,Nz,decide_eq_true_eq,Oe] at h
 exact ⟨h.1,h.2.1,h.2.2⟩
theorem DT {ws:List D}(h:∀ d∈ws,cR d=true):∀ n∈ws.map nmD,N6 n=true:=λn hn=>by
 obtain ⟨d,hd,rfl⟩:=N5.mp hn
 obtain ⟨z,r,rfl,hz⟩:=qG (h d hd)
 exact rC hz
def cL:FSp:=λds μ Q=>kcA ds λd ds=>kcT ds λws ds=>kcN ds ((Any μ d/\fo (.tup ws)=true)/\Q (.bl (aX (ws.map nmD) d)) μ)
theorem lO:∀ ds μ Q,cL ds μ Q->ds.length=2:=λ_ _ _ h=>lcA h λ_ _ h=>lcT h λ_ _ h=>by rw[(ecN h).1];rfl
def jh:STr:=aE (bF (TOr (cb (TB (ar bC (ae (ah 0) (ae (TC (.int 6)) (ak)))))) (cb (TB (ar ck (ae (ao L3.rIx (ah 0) (TC (.int 0))) (ak)))))) (aR (TC (.bl false))) (aU)) (aE (bF (TOr (cb (TB (ar eK (ae (ao L3.rIx (ah 0) (TC (.int 1))) (ae (df (iT (ah 1)) (az 0) (jq) (ao L3.rIx (ah 0) (TC (.int 0))) 1 []) (ak)))))) (cb (TB (ar aL (ae (ao L3.rIx (ah 0) (TC (.int 2))) (ae (TC (.int 1)) (ae (TC (.int 8)) (ak)))))))) (aR (TC (.bl false))) (aU)) (aE (bF (TOr (cb (TB (ar aL (ae (ao L3.rIx (ah 0) (TC (.int 3))) (ae (TC (.int 0)) (ae (TC (.int 1000000)) (ak))))))) (cb (TB (ar bq (ae (ao L3.rIx (ah 0) (TC (.int 4))) (ae (TC (.int 1000000)) (ak))))))) (aR (TC (.bl false))) (aU)) (aR (ar eS (ae (ao L3.rIx (ah 0) (TC (.int 5))) (ak))))))
theorem nW:∀ ds μ Q,cL ds μ Q->jh { nx:=λ_ μ'=>RT Q .non μ',rt:=RT Q } (ini 2 ds) μ:=by
 intro ds μ Q h
 replace h:=ecA h
 obtain ⟨d,ds,rfl,h⟩:=h
 replace h:=ecT h
 obtain ⟨ws,ds,rfl,h⟩:=h
 replace h:=ecN h
 obtain ⟨rfl,h⟩:=h
 walk_at "ini"
 unfold jh
 walk_at "go"
 obtain ⟨⟨t,hw⟩,k⟩:=h
 have fin:∀ {b},aX (ws.map nmD) d=b->RT Q (.bl b) μ:=λ{b} e=>by rw[e] at k;exact ⟨_,.refl _,k⟩
 obtain ⟨⟨w1,w6⟩,wa,wn⟩:=BQ hw
 refine ⟨t,?_⟩
 walk_at "go"
 refine fK (λh=>?_) λh=>fin (MD h)
 obtain ⟨n,r,b,g,m,u,rfl⟩:=six h
 have tn:=t.b7 n (by simp)
 have tr:=t.b7 r (by simp)
 have tb:=t.b7 b (by simp)
 have tg:=t.b7 g (by simp)
 have tm:=t.b7 m (by simp)
 have tu:=t.b7 u (by simp)
 walk_at "go"
 refine ⟨tn,?_⟩
 walk_at "go"
 refine fK (λh1=>?_) λh1=>fin (by simp only[aX,h1,NM])
 refine comp_map (λd=>.str (nmD d)) (by omega) (λd hd' μ' sb N n=>?_) ?_
 ·obtain ⟨z,r,rfl,_⟩:=qG (wa d hd')
  walk_at "go"
  exact n
 walk_at "go"
 refine ⟨ws.map nmD,⟨tr,by rw[OR];rfl,DT wa,by rw[NC];omega⟩,?_⟩
 walk_at "go"
 refine fK (λh2=>?_) λh2=>fin (by simp only[aX,h1,h2,NW,NM])
 refine ⟨tb,?_⟩
 walk_at "go"
 refine fK (λh3=>?_) λh3=>fin (by simp only[aX,h1,h2,h3,NW,NM])
 refine ⟨tg,?_⟩
 walk_at "go"
 refine fK (λh4=>?_) λh4=>fin (by simp only[aX,h1,h2,h3,h4,NW,NM])
 refine ⟨tm,?_⟩
 walk_at "go"
 refine fK (λh5=>?_) λh5=>fin (by simp only[aX,h1,h2,h3,h4,h5,NW,NM])
 exact ⟨tu,fin (by simp only[aX,h1,h2,h3,h4,h5,NW])⟩
theorem zG (a:Str):ltS a a=false:=by unfold ltS;simp
theorem Dz {a b:Str}(h:ltS a b=true):ltS b a=false:=by
 unfold ltS at *
 have h1:a.cps.toList < b.cps.toList:=by simpa using h
 simpa using λq=>List.lt_irrefl _ (List.lt_trans h1 q)
theorem y3 {a b:Str}(h1:ltS b a=false)(h2:ltS a b=false):a=b:=by
 unfold ltS at *
 rw[decide_eq_false_iff_not,VJ] at h1 h2
 exact vw (List.le_antisymm h1 h2)
def xO (ss:List Str):Bool:=decide (ss.Pairwise λa b=>ltS a b=true)
theorem HI {ss:List Str}(h:ss.Pairwise λa b=>ltS a b=true):ss.Nodup:=h.imp λ{a b} h e=>by rw[e,zG] at h;cases h
theorem Dt {ss:List Str}(h:ss.Pairwise λa b=>ltS b a=false)(nd:ss.Nodup):ss.Pairwise λa b=>ltS a b=true:=
 (h.and nd).imp λ{a b} h=>by
  by_cases q:ltS a b=true
  ·exact q
  ·exact absurd (y3 h.1 (by simpa using q)) h.2
theorem vc:∀ (a b:List Str),fX (a.map .str) (b.map .str)=decide (a=b)
 | [],[]=>rfl
 | [],_::_=>rfl
 | _::_,[]=>rfl
 | x::a,y::b=>by
  rw[N7,N7,jU,vc a b,kW,← UT]
  exact decide_eq_decide.mpr (by rw[Su])
theorem Ki {ss ss':List Str}(p:ss'.Perm (ddT ss))(h:ss'.Pairwise λa b=>ltS b a=false):eqD (.ls (ss.map .str)) (.ls (ss'.map .str))=xO ss:=by
 rw[yp,vc]
 refine decide_eq_decide.mpr ⟨λe=>?_,λe=>?_⟩
 ·subst e
  exact Dt h ((p.nodup_iff).mpr (Bh _))
 ·have nd:=HI e
  rw[show ddT ss=ss from CC ss [] nd] at p
  exact (p.eq_of_pairwise (λa b _ _ h1 h2=>y3 h1 h2) h (e.imp Dz)).symm
def cg (ns:List Str):D->Bool
 | .tup ds=>decide (ds.length<=8)&&(ds.all (aX ns)&&xO (ds.map nmD))
 | _=>false
theorem vD {ns:List Str}{d:D}(h:aX ns d=true):∃ z r,d=.tup (.str z::r)/\nmS z=true:=by
 unfold aX at h
 split at h
 ·rename_i n _ _ _ _ _
  cases n with
  | str z=>rw[Nz] at h;exact ⟨z,_,rfl,h.1⟩
  | _=>simp[nmB] at h
 ·cases h
def cn:FSp:=λds μ Q=>kcA ds λd ds=>kcT ds λws ds=>kcN ds ((Any μ d/\Any μ (.tup ws)/\fo (.tup ws)=true)/\Q (.bl (cg (ws.map nmD) d)) μ)
theorem jz:∀ ds μ Q,cn ds μ Q->ds.length=2:=λ_ _ _ h=>lcA h λ_ _ h=>lcT h λ_ _ h=>by rw[(ecN h).1];rfl
def gN:STr:=aE (bF (TOr (cb (TB (TUn (cE "tuple") (ah 0)))) (TB (ao rGt (ar cX (ae (ah 0) (ak))) (TC (.int 8))))) (aR (TC (.bl false))) (aU)) (aE (bF (cb (TB (ar Cv (ae (df (iT (ah 0)) (az 0) (jq) (ar cL (ae (ah 0) (ae (ah 1) (ak)))) 1 [1]) (ak))))) (aR (TC (.bl false))) (aU)) (aE (aQ (df (iT (ah 0)) (az 0) (jq) (ao L3.rIx (ah 0) (TC (.int 0))) 1 []) (az 2)) (aR (ao rEq (ah 2) (oK (ah 2))))))
theorem ku:∀ ds μ Q,cn ds μ Q->gN { nx:=λ_ μ'=>RT Q .non μ',rt:=RT Q } (ini 3 ds) μ:=by
 intro ds μ Q h
 replace h:=ecA h
 obtain ⟨d,ds,rfl,h⟩:=h
 replace h:=ecT h
 obtain ⟨ws,ds,rfl,h⟩:=h
 replace h:=ecN h
 obtain ⟨rfl,h⟩:=h
 walk_at "ini"
 unfold gN
 walk_at "go"
 obtain ⟨⟨t,tw,hw⟩,k⟩:=h
 have fin:∀ {b},cg (ws.map nmD) d=b->RT Q (.bl b) μ:=λ{b} e=>by rw[e] at k;exact ⟨_,.refl _,k⟩
 cases t with
 | @tup ds hd hl=>
  walk_at "go"
  refine kif (λh1=>fin ?_) λh1=>?_
  ·simp only[cg];rw[decide_eq_false (by omega)];rfl
  have eb:cg (ws.map nmD) (.tup ds)=(ds.all (aX (ws.map nmD))&&xO (ds.map nmD)):=by simp only[cg];rw[decide_eq_true (by omega)];rfl
  refine comp_map (λd=>.bl (aX (ws.map nmD) d)) (by omega) (λd hd' μ' sb N n=>?_) ?_
  ·walk_at "go"
   exact ⟨⟨(hd d hd').sub sb,hw⟩,n⟩
  walk_at "go"
  refine ⟨ds.map (aX (ws.map nmD)),by rw[OR];rfl,?_⟩
  walk_at "go"
  have ea:(ds.map (aX (ws.map nmD))).all id=ds.all (aX (ws.map nmD)):=by rw[Rf];rfl
  rw[ea]
  refine fK (λh3=>?_) λh3=>fin (by rw[eb,h3];rfl)
  have ha:=Oe.mp h3
  refine comp_map (λd=>.str (nmD d)) (by omega) (λd hd' μ' sb N n=>?_) ?_
  ·obtain ⟨z,r,rfl,_⟩:=vD (ha d hd')
   walk_at "go"
   exact n
  have em:ds.map (λd=>D.str (nmD d))=(ds.map nmD).map .str:=by rw[OR];rfl
  rw[em]
  walk_at "go"
  have dl:(ddT (ds.map nmD)).length<=0+(ds.map nmD).length:=Bq (ds.map nmD) []
  have ln:(ds.map nmD).length<=8:=by rw[NC];omega
  refine ⟨ds.map nmD,⟨rfl,by omega,by omega⟩,λss' p1 p2=>?_⟩
  have oks:∀ n∈ds.map nmD,N6 n=true:=λn hn=>by
   obtain ⟨d,hd,rfl⟩:=N5.mp hn
   obtain ⟨z,r,rfl,hz⟩:=vD (ha d hd)
   exact rC hz
  walk_at "go"
  refine ⟨⟨hC oks,hC λn hn=>oks n (GC.mp (p1.mem_iff.mp hn))⟩,fin ?_⟩
  rw[eb,h3,NW]
  exact (Ki p1 p2).symm
 | _=>
  walk_at "go"
  try (rw[j2 (by assumption)];walk_at "go")
  exact fin rfl
def ki:D->List Str
 | .tup ws=>ws.map nmD
 | _=>[]
def gU:D->Bool
 | .tup [g,w,s]=>wiI 1 60 g&&(fo w&&cg (ki w) s)
 | _=>false
theorem three {d:D}(h:isT 3 d=true):∃ g w s,d=.tup [g,w,s]:=by
 unfold isT at h
 split at h
 ·rename_i ds
  have h:=of_decide_eq_true h
  match ds,(show ds.length=3 by omega) with
  | [g,w,s],_=>exact ⟨g,w,s,rfl⟩
 ·cases h
theorem M0 {d:D}(h:isT 3 d=false):gU d=false:=by
 unfold gU
 split
 ·simp[isT] at h
 ·rfl
theorem As {d:D}(h:fo d=true):∃ ws,d=.tup ws:=by
 cases d with
 | tup ws=>exact ⟨ws,rfl⟩
 | _=>cases h
def eX:FSp:=λds μ Q=>kcA ds λd ds=>kcN ds (Any μ d/\Q (.bl (gU d)) μ)
theorem oQ:∀ ds μ Q,eX ds μ Q->ds.length=1:=λ_ _ _ h=>lcA h λ_ _ h=>by rw[(ecN h).1];rfl
def lA:STr:=aE (bF (TOr (cb (TB (ar bC (ae (ah 0) (ae (TC (.int 3)) (ak)))))) (cb (TB (ar aL (ae (ao L3.rIx (ah 0) (TC (.int 0))) (ae (TC (.int 1)) (ae (TC (.int 60)) (ak)))))))) (aR (TC (.bl false))) (aU)) (aR (cK (ar dA (ae (ao L3.rIx (ah 0) (TC (.int 1))) (ak))) (ar cn (ae (ao L3.rIx (ah 0) (TC (.int 2))) (ae (ao L3.rIx (ah 0) (TC (.int 1))) (ak))))))
theorem rD:∀ ds μ Q,eX ds μ Q->lA { nx:=λ_ μ'=>RT Q .non μ',rt:=RT Q } (ini 1 ds) μ:=by
 intro ds μ Q h
 replace h:=ecA h
 obtain ⟨d,ds,rfl,h⟩:=h
 replace h:=ecN h
 obtain ⟨rfl,h⟩:=h
 walk_at "ini"
 unfold lA
 walk_at "go"
 obtain ⟨t,k⟩:=h
 have fin:∀ {b},gU d=b->RT Q (.bl b) μ:=λ{b} e=>by rw[e] at k;exact ⟨_,.refl _,k⟩
 refine ⟨t,?_⟩
 walk_at "go"
 refine fK (λh=>?_) λh=>fin (M0 h)
 obtain ⟨g,w,s,rfl⟩:=three h
 have tg:=t.b7 g (by simp)
 have tw:=t.b7 w (by simp)
 have ts:=t.b7 s (by simp)
 walk_at "go"
 refine ⟨tg,?_⟩
 walk_at "go"
 refine fK (λh1=>?_) λh1=>fin (by simp only[gU,h1,NM])
 refine ⟨tw,?_⟩
 walk_at "go"
 refine nq (λh2=>?_) λh2=>fin (by simp only[gU,h1,h2,NW,NM])
 obtain ⟨ws,rfl⟩:=As h2
 exact ⟨⟨ts,tw,h2⟩,fin (by simp only[gU,h1,h2,NW,ki])⟩
def jQ:FSp:=λds μ Q=>kcL ds λxs ds=>kcI ds λk ds=>kcN ds ((∃ ns:List Int,xs=ns.map .int/\0<=k/\k<=1000)/\∀ p μ',μ p=none->Box μ' p->(∀ a,a≠p->μ' a=μ a)->Q (.obj p) μ')
theorem C5:∀ ds μ Q,jQ ds μ Q->ds.length=2:=λ_ _ _ h=>lcL h λ_ _ h=>lcI h λ_ _ h=>by rw[(ecN h).1];rfl
def BC:STr:=aE (aQ (TC (.int 0)) (az 2)) (aE (bF (TB (ao rLt (ah 1) (ar cX (ae (ah 0) (ak))))) (aQ (ao L3.rIx (ah 0) (ah 1)) (az 2)) (aU)) (aR (xC (ae (ao gG (ao gj (ar rn (ae (ah 2) (ak))) (ao ny (TC (.int 10)) (TC (.int 60)))) (ar z9 (ae (ao rGe (ar rn (ae (ah 2) (ak))) (ao ny (TC (.int 10)) (TC (.int 18)))) (ak)))) (ae (ao gj (ao aH (ao aH (ah 2) (ao gG (ao gG (TC (.int 613)) (ah 1)) (ah 1))) (ao gG (TC (.int 29)) (ah 1))) (TC (.int 2147483647))) (ae (TC (.int 0)) (ak)))))))
theorem Fq:∀ ds μ Q,jQ ds μ Q->BC { nx:=λ_ μ'=>RT Q .non μ',rt:=RT Q } (ini 3 ds) μ:=by
 intro ds μ Q h
 replace h:=ecL h
 obtain ⟨xs,ds,rfl,h⟩:=h
 replace h:=ecI h
 obtain ⟨k,ds,rfl,h⟩:=h
 replace h:=ecN h
 obtain ⟨rfl,h⟩:=h
 walk_at "ini"
 unfold BC
 walk_at "go"
 obtain ⟨⟨ns,rfl,k0,k1⟩,hk⟩:=h
 have go:∀ g s:Int,0<=s->s < 2147483647->∀ p,μ p=none->RT Q (.obj p) (up μ p (.lst [.int g,.int s,.int 0])):=λg s s0 s1 p hp=>
  ⟨_,.refl _,hk p _ hp ⟨g,s,0,bp,s0,by omega⟩ λa ha=>cW ha⟩
 have m1:MulOk 613 k:=by walk_at "ok"
 have m2:L3.MulOk ((613:Int)*k) k:=.inl (.inr (by unfold S64;omega))
 have m3:MulOk 29 k:=by walk_at "ok"
 have p1:oJ 10 60:=by walk_at "ok"
 have p2:oJ 10 18:=by walk_at "ok"
 refine kif (λhlt=>?_) λ_=>?_
 ·rw[NC] at hlt
  obtain ⟨z,ez⟩:=Cq k0 hlt
  refine ef ez ?_
  walk_at "go"
  exact ⟨p1,by decide,p2,.inl (.inr (by unfold S64;split<;>omega)),m1,m2,m3,by decide,λp hp=>go _ _ (fm0 (by decide)) (fm1 (by decide)) p hp⟩
 ·exact ⟨p1,by decide,p2,.inl (.inr (by unfold S64;omega)),m1,m2,m3,by decide,λp hp=>go _ _ (fm0 (by decide)) (fm1 (by decide)) p hp⟩
def aw:FSp:=λds μ Q=>kcO ds λb ds=>kcI ds λn ds=>kcN ds ((Box μ b/\0 < n/\n < 18446744073709551616)/\∀ k μ',0<=k->k < n->cF b μ μ'->Q (.int k) μ')
theorem J5 (a b c x:D):[a,b,c].set 0 x=[x,b,c]:=rfl
theorem JD (a b c x:D):[a,b,c].set 1 x=[a,x,c]:=rfl
theorem Hw (a b c x:D):[a,b,c].set 2 x=[a,b,x]:=rfl
theorem ytk {μ:Mu}{b:Addr}{n:Int}{Q:DK}(hB:Box μ b)(h0:0 < n)(h1:n < 18446744073709551616)(h:∀ k μ',0<=k->k < n->cF b μ μ'->Q (.int k) μ'):hE aw [.obj b,.int n] μ Q:=⟨⟨hB,h0,h1⟩,h⟩
theorem AG:∀ ds μ Q,aw ds μ Q->ds.length=2:=λ_ _ _ h=>lcO h λ_ _ h=>lcI h λ_ _ h=>by rw[(ecN h).1];rfl
def nU:STr:=aE (aQ (ao gj (ao aH (ao aH (ao gG (ao L3.rIx (ah 0) (TC (.int 1))) (TC (.int 48271))) (ao gG (TC (.int 8191)) (ao L3.rIx (ah 0) (TC (.int 2))))) (TC (.int 17))) (TC (.int 2147483647))) (az 3)) (aE (fb (ah 0) (TC (.int 1)) (ao gj (ao aH (ao gG (ah 3) (ah 3)) (ao L3.rIx (ah 0) (TC (.int 2)))) (TC (.int 2147483629)))) (aR (ao gj (ao g5 (ao L3.rIx (ah 0) (TC (.int 1))) (TC (.int 13))) (ah 1))))
def zh:STr:=aE (bF (TB (ao rGt (ao L3.rIx (ah 0) (TC (.int 0))) (TC (.int 0)))) (aE (aQ (ao gj (ao L3.rIx (ah 0) (TC (.int 0))) (ah 1)) (az 2)) (aE (fb (ah 0) (TC (.int 0)) (ao g5 (ao L3.rIx (ah 0) (TC (.int 0))) (ah 1))) (aR (ah 2)))) (aU)) (aE (fb (ah 0) (TC (.int 2)) (ao aH (ao L3.rIx (ah 0) (TC (.int 2))) (TC (.int 1)))) (nU))
theorem CH:∀ ds μ Q,aw ds μ Q->zh { nx:=λ_ μ'=>RT Q .non μ',rt:=RT Q } (ini 4 ds) μ:=by
 intro ds μ Q h
 replace h:=ecO h
 obtain ⟨b,ds,rfl,h⟩:=h
 replace h:=ecI h
 obtain ⟨n,ds,rfl,h⟩:=h
 replace h:=ecN h
 obtain ⟨rfl,h⟩:=h
 walk_at "ini"
 unfold zh
 walk_at "go"
 unfold nU
 walk_at "go"
 obtain ⟨⟨⟨g,s,c,hb,s0,s1⟩,n0,n1⟩,k⟩:=h
 repeat (first | (simp only[G6 hb];walk_at "go") | (simp only[yZ,zf,yJ,ND,Ol,RJ,Sh,if_true,qr];walk_at "go") | (simp only[J5,JD,Hw];walk_at "go"))
 have dv:ie n:=by walk_at "ok"
 have n2:n≠0:=by omega
 have d13:ie 13:=by walk_at "ok"
 have fin:∀ μ':Mu,∀ d:Int,0<=d->d < n->Box μ' b->(∀ a,a≠b->μ' a=μ a)->RT Q (.int d) μ':=λμ' d h3 h4 h5 h6=>
  ⟨_,.refl _,k d _ h3 h4 ⟨h5,h6⟩⟩
 have m1:MulOk s 48271:=by walk_at "ok"
 have m2:MulOk 8191 (c+1):=.inl (.inl (by unfold S64;omega))
 have z0:=fm0 (a:=s*48271+8191*(c+1)+17) (n:=2147483647) (by decide)
 have z1:=fm1 (a:=s*48271+8191*(c+1)+17) (n:=2147483647) (by decide)
 refine kif (λ_=>?_) λ_=>?_
 ·exact ⟨n2,dv,fin _ _ (fm0 n0) (fm1 n0) ⟨_,_,_,bp,s0,s1⟩ λa ha=>cW ha⟩
 ·generalize (s*48271+8191*(c+1)+17).fmod 2147483647=z at *
  have m3:MulOk z z:=.inr ⟨by unfold bz;omega,by unfold bz;omega⟩
  have y0:=fm0 (a:=z*z+(c+1)) (n:=2147483629) (by decide)
  have y1:=fm1 (a:=z*z+(c+1)) (n:=2147483629) (by decide)
  refine ⟨m1,m2,by decide,m3,by decide,d13,n2,fin _ _ (fm0 n0) (fm1 n0) ⟨_,_,_,bp,y0,by omega⟩ λa ha=>by simp only[cW ha]⟩
theorem Bx {o:Option Nat}{c:Nat}{f:Nat->Prop}(e:o=some c)(h:f c):kN o f:=by rw[e];exact h
theorem xc {i:Int}(i0:0<=i)(i1:i < 26):L2.atI (Nr "abcdefghijklmnopqrstuvwxyz").cps.toList i=some (97+i.toNat):=by
 have:∀ j:Fin 26,L2.atI (Nr "abcdefghijklmnopqrstuvwxyz").cps.toList (j.val:Int)=some (97+j.val):=by decide +kernel
 obtain ⟨j,rfl⟩:=O3 i0
 exact this ⟨j,by omega⟩
theorem qH:(Nr "abcdefghijklmnopqrstuvwxyz").length<=1000000:=by decide +kernel
theorem app_list (x y:Str):(x++y).cps.toList=x.cps.toList++y.cps.toList:=by
 show (x.cps++y.cps).toList=_
 exact S8
theorem rep1 (c n:Nat):(oq ⟨#[c]⟩ n).cps.toList=NZ n c:=by
 rw[zP];simp
theorem sv (c n:Nat):(oq ⟨#[c]⟩ n).length=n:=by rw[← hX,rep1,OY]
theorem yO (x y:Str):(x++y).length=x.length+y.length:=by rw[← hX,app_list,NQ,hX,hX]
def nmL (sz a f w:Int)(j:Int):List Nat:=
 if w=0 then NZ a.toNat (97+a.toNat)++[97+((f+3*j).fmod 26).toNat]++NZ (sz - 1 - a).toNat (97+a.toNat)
 else if w=1 then NZ (1+(f+5*j).fmod 8).toNat (97+((f+3*j).fmod 26).toNat)
 else NZ (1+j).toNat (97+f.toNat)
structure DV (sz a f w:Int):Prop where
 s1:1<=sz
 s8:sz<=8
 a0:0<=a
 a1:a < sz
 f0:0<=f
 f1:f < 26
theorem GS {i:Nat}(h:i < 26):sm (97+i)=true:=by unfold sm;rw[Nz,decide_eq_true_eq,decide_eq_true_eq];omega
theorem HW {sz a f w j:Int}(N:DV sz a f w)(j0:0<=j)(j8:j < 8):(1<=(nmL sz a f w j).length/\(nmL sz a f w j).length<=8)/\∀ c∈nmL sz a f w j,sm c=true:=by
 obtain ⟨s1,s8,a0,a1,f0,f1⟩:=N
 have g0:=fm0 (a:=f+3*j) (n:=26) (by decide)
 have g1:=fm1 (a:=f+3*j) (n:=26) (by decide)
 have h0:=fm0 (a:=f+5*j) (n:=8) (by decide)
 have h1:=fm1 (a:=f+5*j) (n:=8) (by decide)
 have rep:∀ {i n:Nat} {c:Nat},i < 26->c∈NZ n (97+i)->sm c=true:=λhi hc=>by rw[(List.mem_replicate.mp hc).2];exact GS hi
 unfold nmL
 split
 ·refine ⟨by simp;omega,λc hc=>?_⟩
  rcases N1.mp hc with h | h
  ·rcases N1.mp h with (h | h)
   ·exact rep (by omega) h
   ·rw[NK.mp h];exact GS (by omega)
  ·exact rep (by omega) h
 ·split
  ·exact ⟨by simp;omega,λc hc=>rep (by omega) hc⟩
  ·exact ⟨by simp;omega,λc hc=>rep (by omega) hc⟩
theorem GN {f i j:Int}(i0:0<=i)(ij:i < j)(j8:j < 8):(f+3*i).fmod 26≠(f+3*j).fmod 26:=by
 rw[Rr _ (by decide),Rr _ (by decide)]
 omega
theorem ID {sz a f w i j:Int}(N:DV sz a f w)(i0:0<=i)(ij:i < j)(j8:j < 8):nmL sz a f w i≠nmL sz a f w j:=by
 obtain ⟨s1,s8,a0,a1,f0,f1⟩:=N
 have ne:=GN (f:=f) i0 ij j8
 have g0:=fm0 (a:=f+3*i) (n:=26) (by decide)
 have g1:=fm0 (a:=f+3*j) (n:=26) (by decide)
 have h0:=fm0 (a:=f+5*i) (n:=8) (by decide)
 have h1:=fm0 (a:=f+5*j) (n:=8) (by decide)
 unfold nmL
 split
 ·intro e
  have e:=List.append_inj_left e (by simp)
  have e:=List.append_inj_right e rfl
  simp only[Su,and_true] at e
  omega
 ·split
  ·intro e
   have e:=congrArg List.head? e
   rw[SW,SW,if_neg (by omega),if_neg (by omega)] at e
   simp only[Ue] at e
   omega
  ·intro e
   have e:=congrArg PM e
   rw[OY,OY] at e
   omega
def nmT (sz a f w:Int)(j:Int):Str:=⟨(nmL sz a f w j).toArray⟩
theorem Ln {sz a f w j:Int}(N:DV sz a f w)(j0:0<=j)(j8:j < 8):nmS (nmT sz a f w j)=true:=by
 obtain ⟨⟨h1,h8⟩,ha⟩:=HW N j0 j8
 have e:(nmT sz a f w j).cps.toList=nmL sz a f w j:=rfl
 unfold nmS
 rw[e,decide_eq_true h1,decide_eq_true h8,Oe.mpr ha];rfl
theorem Ie {z:Str}{l:List Nat}(e:z.cps.toList=l):z=⟨l.toArray⟩:=vw (by rw[e])
def jP (sz a f w:Int)(n:Nat):List Str:=(O6 n).map λi=>nmT sz a f w (i:Nat)
theorem D5 {sz a f w:Int}(N:DV sz a f w){n:Nat}(h:n<=8):(jP sz a f w n).Nodup:=by
 unfold jP
 refine List.pairwise_map.mpr ?_
 have:(O6 n).Pairwise λi j=>i < j/\j < n:=by
  have h1:=List.pairwise_lt_range (n:=n)
  exact h1.imp_of_mem λ{a b} _ hb h=>⟨h,PD.mp hb⟩
 exact this.imp λ{i j} ⟨h1,h2⟩ e=>ID N (i:=(i:Nat)) (j:=(j:Nat)) (by omega) (by omega) (by omega) (by
  have:=congrArg (λz:Str=>z.cps.toList) e
  exact this)
def fO:FSp:=λds μ Q=>kcO ds λb ds=>kcI ds λn ds=>kcN ds ((Box μ b/\0<=n/\n<=8)/\∀ (zs:List Str) μ',(zs.length:Int)=n->(∀ z∈zs,nmS z=true)->zs.Nodup->cF b μ μ'->Q (.ls (zs.map .str)) μ')
theorem wL:∀ ds μ Q,fO ds μ Q->ds.length=2:=λ_ _ _ h=>lcO h λ_ _ h=>lcI h λ_ _ h=>by rw[(ecN h).1];rfl
def va:STr:=aE (aQ (TC (.str "abcdefghijklmnopqrstuvwxyz")) (az 2)) (aE (aQ (ao aH (TC (.int 1)) (ar aw (ae (ah 0) (ae (TC (.int 8)) (ak))))) (az 3)) (aE (aQ (ar aw (ae (ah 0) (ae (ah 3) (ak)))) (az 4)) (aE (aQ (ar aw (ae (ah 0) (ae (TC (.int 26)) (ak)))) (az 5)) (aE (aQ (ar aw (ae (ah 0) (ae (TC (.int 3)) (ak)))) (az 6)) (aE (aQ (xC (ak)) (az 7)) (aE (tF (gw (ah 1)) (az 8) (aE (aQ (ao p7 (ah 2) (ao gj (ao aH (ah 5) (ao gG (TC (.int 3)) (ah 8))) (TC (.int 26)))) (az 9)) (bF (TB (ao rEq (ah 6) (TC (.int 0)))) (aE (aQ (ao p7 (ah 2) (ah 4)) (az 10)) (lb (vd (ah 7) (ao aH (ao aH (ao nE (ah 10) (ah 4)) (ah 9)) (ao nE (ah 10) (ao rH (ao rH (ah 3) (TC (.int 1))) (ah 4))))))) (bF (TB (ao rEq (ah 6) (TC (.int 1)))) (lb (vd (ah 7) (ao nE (ah 9) (ao aH (TC (.int 1)) (ao gj (ao aH (ah 5) (ao gG (TC (.int 5)) (ah 8))) (TC (.int 8))))))) (lb (vd (ah 7) (ao nE (ao p7 (ah 2) (ah 5)) (ao aH (TC (.int 1)) (ah 8))))))))) (aR (Aa (ah 7)))))))))
theorem Aj:∀ ds μ Q,fO ds μ Q->va { nx:=λ_ μ'=>RT Q .non μ',rt:=RT Q } (ini 11 ds) μ:=by
 intro ds μ Q h
 replace h:=ecO h
 obtain ⟨b,ds,rfl,h⟩:=h
 replace h:=ecI h
 obtain ⟨n,ds,rfl,h⟩:=h
 replace h:=ecN h
 obtain ⟨rfl,h⟩:=h
 walk_at "ini"
 unfold va
 walk_at "go"
 obtain ⟨⟨hB,n1,n8⟩,k⟩:=h
 refine ytk hB (by decide) (by decide) λk1 μ1 k10 k11 B1=>?_
 walk_at "go"
 refine ytk B1.box (by omega) (by omega) λk2 μ2 k20 k21 B2=>?_
 walk_at "go"
 refine ytk B2.box (by decide) (by decide) λk3 μ3 k30 k31 B3=>?_
 walk_at "go"
 refine ytk B3.box (by decide) (by decide) λk4 μ4 k40 k41 B4=>?_
 walk_at "go"
 intro q hq
 walk_at "go"
 refine ⟨⟨by omega,by omega⟩,?_⟩
 have B5:cF b μ μ4:=((B1.trans B2).trans B3).trans B4
 have NI:DV (1+k1) k2 k3 k4:=⟨by omega,by omega,k20,k21,k30,k31⟩
 obtain ⟨nn,rfl⟩:=O3 n1
 rw[Oo]
 refine jx (λr ρ μ'=>∃ (i c:Nat) (v8 v9 v10:Option D),r=d8 (i:Int) c/\i+c=nn/\ρ=[some (.obj b),some (.int nn),some (.str "abcdefghijklmnopqrstuvwxyz"),some (.int (1+k1)),some (.int k2),some (.int k3),some (.int k4),some (.obj q),v8,v9,v10]/\μ'=up μ4 q (.lst ((jP (1+k1) k2 k3 k4 i).map .str))) ?_ ?_ _ _ _ ⟨0,nn,_,_,_,rfl,by omega,rfl,rfl⟩
 ·rintro ρ μ' ⟨i,c,v8,v9,v10,er,ei,rfl,rfl⟩
  have c0:c=0:=by
   have:=congrArg PM er
   rw[gf] at this
   simpa using this.symm
  have ei:i=nn:=by omega
  subst ei
  walk_at "go"
  rw[IP hq]
  refine ⟨_,.refl _,k (jP (1+k1) k2 k3 k4 i) _ (by simp[jP]) (λz hz=>?_) (D5 NI (by omega)) B5⟩
  obtain ⟨j,hj,rfl⟩:=N5.mp hz
  have:=PD.mp hj
  exact Ln NI (by omega) (by omega)
 ·rintro d r ρ μ' N ⟨i,c,v8,v9,v10,er,ei,rfl,rfl⟩ hN
  cases c with
  | zero=>cases er
  | succ c=>
  rw[ur] at er
  cases er
  have put:∀ (z:Str) (v9 v10:Option D),z.cps.toList=nmL (1+k1) k2 k3 k4 i->((jP (1+k1) k2 k3 k4 i).map D.str).length < 1000000/\N [some (.obj b),some (.int nn),some (.str "abcdefghijklmnopqrstuvwxyz"),some (.int (1+k1)),some (.int k2),some (.int k3),some (.int k4),some (.obj q),some (.int i),v9,v10] (up μ4 q (.lst ((jP (1+k1) k2 k3 k4 i).map .str++[.str z]))):=λz v9 v10 hz=>by
   refine ⟨by simp[jP];omega,hN _ _ ⟨i+1,c,_,_,_,by rw[Int.natCast_add];rfl,by omega,rfl,?_⟩⟩
   rw[Ie hz]
   simp[jP,List.range_succ,nmT]
  walk_at "go"
  have g0:=fm0 (a:=k3+3*(i:Int)) (n:=26) (by decide)
  have g1:=fm1 (a:=k3+3*(i:Int)) (n:=26) (by decide)
  have ec:=xc g0 g1
  refine ⟨by walk_at "ok", by decide,qH,Bx ec ?_⟩
  walk_at "go"
  have ln:∀ m:Nat,(⟨#[m]⟩:Str).length=1:=λ_=>rfl
  refine kif (λw0=>?_) λw0=>?_
  ·have ec2:=xc (i:=k2) k20 (by omega)
   refine ⟨qH,Bx ec2 ?_⟩
   walk_at "go"
   refine ⟨⟨by omega,by omega,by rw[ln];omega⟩,?_⟩
   rw[sv,ln]
   refine ⟨by omega,⟨by omega,by omega,by rw[ln];omega⟩,?_⟩
   rw[yO,sv,sv,ln]
   refine ⟨by omega,put _ _ _ ?_⟩
   rw[app_list,app_list,rep1,rep1]
   unfold nmL
   rw[if_pos w0]
  ·refine kif (λw1=>?_) λw1=>?_
   ·have f0:=fm0 (a:=k3+5*(i:Int)) (n:=8) (by decide)
    have f1:=fm1 (a:=k3+5*(i:Int)) (n:=8) (by decide)
    refine ⟨by walk_at "ok", by decide,⟨by omega,by omega,by rw[ln];omega⟩,put _ _ _ ?_⟩
    rw[rep1]
    unfold nmL
    rw[if_neg w0,if_pos w1]
   ·have ec2:=xc (i:=k3) k30 (by omega)
    refine ⟨qH,Bx ec2 ?_⟩
    walk_at "go"
    refine ⟨⟨by omega,by omega,by rw[ln];omega⟩,put _ _ _ ?_⟩
    rw[rep1]
    unfold nmL
    rw[if_neg w0,if_neg w1]
def dX:FSp:=λds μ Q=>kcI ds λa ds=>kcI ds λb ds=>kcN ds ((0 < b/\bz b)/\Q (fr (a.fdiv (Oh a b)) (b.fdiv (Oh a b))) μ)
theorem AQ:∀ ds μ Q,dX ds μ Q->ds.length=2:=λ_ _ _ h=>lcI h λ_ _ h=>lcI h λ_ _ h=>by rw[(ecN h).1];rfl
def yR:STr:=aE (xF 2 3 (ae (ar rn (ae (ah 0) (ak))) (ae (ah 1) (ak)))) (aE (xA (TB (ao rGt (ah 3) (TC (.int 0)))) (xF 2 3 (ae (ah 3) (ae (ao gj (ah 2) (ah 3)) (ak))))) (aR (aG (ae (ao g5 (ah 0) (ah 2)) (ae (ao g5 (ah 1) (ah 2)) (ak))))))
theorem By:∀ ds μ Q,dX ds μ Q->yR { nx:=λ_ μ'=>RT Q .non μ',rt:=RT Q } (ini 4 ds) μ:=by
 intro ds μ Q h
 replace h:=ecI h
 obtain ⟨a,ds,rfl,h⟩:=h
 replace h:=ecI h
 obtain ⟨b,ds,rfl,h⟩:=h
 replace h:=ecN h
 obtain ⟨rfl,h⟩:=h
 walk_at "ini"
 unfold yR
 walk_at "go"
 obtain ⟨⟨b0,b1⟩,k⟩:=h
 have ea:(if a < 0 then -a else a)=(a.natAbs:Int):=by split<;>omega
 rw[ea]
 refine ⟨λρ μ'=>μ'=μ/\∃ x y:Int,ρ=[some (.int a),some (.int b),some (.int x),some (.int y)]/\0<=x/\0<=y/\Oh x y=Oh a b,mz 3,⟨rfl,a.natAbs,b,rfl,Rp _,by omega,by simp[Oh]⟩,?_⟩
 rintro ρ _ ⟨rfl,x,y,rfl,x0,y0,e⟩
 walk_at "go"
 refine kif (λhy=>?_) λhy=>?_
 ·walk_at "go"
  refine ⟨by omega,⟨_,_,rfl,y0,fm0 hy,?_⟩,?_⟩
  ·rw[vn];exact e
  ·have:=fm1 (a:=x) hy
   have:=fm0 (a:=x) hy
   simp only[mz,lk]
   omega
 ·have hy0:y=0:=by omega
  subst hy0
  rw[TR] at e
  have hx:x=(Oh a b:Int):=by omega
  subst hx
  have gp:0 < Oh a b:=Q1 a (by omega)
  have gl:(Oh a b:Int)<=b:=Int.gcd_le_right a b0
  have dv:ie (Oh a b:Int):=⟨by omega,by unfold bz at *;omega⟩
  walk_at "go"
  exact ⟨dv,dv,_,.refl _,k⟩
theorem yn {a b:Int}(b0:0 < b)(b1:b<=10000002){lo hi:Int}(h0:lo*b<=a)(h1:a<=hi*b):FrB lo hi (a.fdiv (Oh a b)) (b.fdiv (Oh a b)):=by
 obtain ⟨g,p,q,g0,ea,eb,e1,e2,q0,qb,gg⟩:=kJ (a:=a) b0
 rw[e1,e2]
 rw[ea,eb] at h0 h1
 refine ⟨q0,by omega,gg,?_,?_⟩
 ·rw[RC] at h0
  exact Rv h0 g0
 ·rw[RC] at h1
  exact Rv h1 g0
theorem yT {a b:Int}(b0:0 < b)(b1:b<=10000002){lo hi:Int}(h0:lo*b < a)(h1:a<=hi*b):FrA lo hi (a.fdiv (Oh a b)) (b.fdiv (Oh a b)):=by
 refine ⟨yn b0 b1 (by omega) h1,?_⟩
 obtain ⟨g,p,q,g0,ea,eb,e1,e2,q0,qb,gg⟩:=kJ (a:=a) b0
 rw[e1,e2]
 rw[ea,eb,RC] at h0
 exact Int.lt_of_mul_lt_mul_left h0 (by omega)
theorem Kj {a b:Int}(b0:0 < b):b.fdiv (Oh a b)<=b:=by
 obtain ⟨g,p,q,g0,ea,eb,e1,e2,q0,qb,gg⟩:=kJ (a:=a) b0
 rw[e2];exact qb
def bV:FSp:=λds μ Q=>kcO ds λb ds=>kcI ds λlo ds=>kcI ds λhi ds=>kcN ds ((Box μ b/\0<=lo/\lo<=hi/\hi<=1000)/\∀ p q μ',FrB lo hi p q->q<=7->cF b μ μ'->Q (fr p q) μ')
theorem pG:∀ ds μ Q,bV ds μ Q->ds.length=3:=λ_ _ _ h=>lcO h λ_ _ h=>lcI h λ_ _ h=>lcI h λ_ _ h=>by rw[(ecN h).1];rfl
def lH:STr:=aE (aQ (ao L3.rIx (bR (ae (TC (.int 1)) (ae (TC (.int 1)) (ae (TC (.int 2)) (ae (TC (.int 3)) (ae (TC (.int 4)) (ae (TC (.int 7)) (ak)))))))) (ar aw (ae (ah 0) (ae (TC (.int 6)) (ak))))) (az 3)) (aR (ar dX (ae (ao aH (ao gG (ah 1) (ah 3)) (ar aw (ae (ah 0) (ae (ao aH (ao gG (ao rH (ah 2) (ah 1)) (ah 3)) (TC (.int 1))) (ak))))) (ae (ah 3) (ak)))))
theorem rg:∀ ds μ Q,bV ds μ Q->lH { nx:=λ_ μ'=>RT Q .non μ',rt:=RT Q } (ini 4 ds) μ:=by
 intro ds μ Q h
 replace h:=ecO h
 obtain ⟨b,ds,rfl,h⟩:=h
 replace h:=ecI h
 obtain ⟨lo,ds,rfl,h⟩:=h
 replace h:=ecI h
 obtain ⟨hi,ds,rfl,h⟩:=h
 replace h:=ecN h
 obtain ⟨rfl,h⟩:=h
 walk_at "ini"
 unfold lH
 walk_at "go"
 obtain ⟨⟨hB,l0,lh,h1⟩,k⟩:=h
 refine ytk hB (by decide) (by decide) λc μ1 c0 c1 B1=>?_
 have al:∀ d∈([.int 1,.int 1,.int 2,.int 3,.int 4,.int 7]:List D),IsI 1 7 d:=by
  repeat' (first | exact aK | refine ai ⟨_,rfl,by decide,by decide⟩ ?_)
 obtain ⟨_,e1,n,rfl,n0,n1⟩:=cc al c0 c1
 walk_at "go"
 rw[e1]
 walk_at "go"
 have a0:0<=(hi - lo)*n:=SV (by omega) (by omega)
 have a1:(hi - lo)*n<=1000*7:=Int.mul_le_mul (by omega) n1 (by omega) (by omega)
 refine ⟨.inl (.inr (by unfold S64;omega)),.inl (.inr (by unfold S64;omega)),?_⟩
 refine ytk B1.box (by omega) (by omega) λd μ2 d0 d1 B2=>?_
 walk_at "go"
 refine ⟨⟨by omega,by unfold bz;omega⟩,?_⟩
 have F:=yn (a:=lo*n+d) (b:=n) (lo:=lo) (hi:=hi) (by omega) (by omega) (by omega) (by rw[Int.sub_mul] at d1;omega)
 have q7:=Kj (a:=lo*n+d) (b:=n) (by omega)
 exact ⟨_,.refl _,k _ _ _ F (by omega) (B1.trans B2)⟩
theorem FrB.isF {lo hi p q:Int}(h:FrB lo hi p q):L3.isF (fr p q)=true:=by
 show (decide (0 < q)&&decide (Oh p q=1))=true
 rw[decide_eq_true h.q0,decide_eq_true h.g];rfl
theorem FrB.wi {p q:Int}(h:FrB 1 60 p q):wiF 1 1 60 1 (fr p q)=true:=by
 have:=h.ge
 have:=h.le
 unfold wiF
 rw[h.isF]
 show (decide (1*q<=p*1)&&decide (p*1<=60*q))=true
 rw[decide_eq_true (by omega),decide_eq_true (by omega)];rfl
theorem FrB.wt {p q r s:Int}(h:FrB 1 60 p q)(wt:p*s<=r*q):wiF 1 1 r s (fr p q)=true:=by
 have:=h.ge
 unfold wiF
 rw[h.isF]
 show (decide (1*q<=p*1)&&decide (p*s<=r*q))=true
 rw[decide_eq_true (by omega),decide_eq_true wt];rfl
theorem FrA.up {lo x y:Int}(h:FrA lo 60 x y):(wiF lo 1 60 1 (fr x y)&&gtF lo 1 (fr x y))=true:=by
 have h1:=h.ge
 have h2:=h.le
 have h3:=h.ab
 unfold wiF
 rw[h.toFrB.isF]
 show ((decide (lo*y<=x*1)&&decide (x*1<=60*y))&&decide (lo*y < x*1))=true
 rw[Int.mul_one,decide_eq_true h1,decide_eq_true h2,decide_eq_true h3];rfl
theorem FrA.ab1 {x y:Int}(h:FrA 0 1 x y):abF (fr x y)=true:=by
 have h1:=h.ge
 have h2:=h.le
 have h3:=h.ab
 unfold abF wiF
 rw[h.toFrB.isF]
 show ((decide (0*y<=x*1)&&decide (x*1<=1*y))&&decide (0*y < x*1))=true
 rw[decide_eq_true (by omega),decide_eq_true (by omega),decide_eq_true (by omega)];rfl
theorem FrL.ab1 {x y:Int}(h:FrL 1 x y):(abF (fr x y)&&G0 (fr x y))=true:=by
 have h1:=h.ab
 have h2:=h.be
 have:FrA 0 1 x y:=⟨⟨h.q0,h.q1,h.g,by omega,by omega⟩,by omega⟩
 rw[this.ab1]
 show decide (x*1 < 1*y)=true
 exact decide_eq_true (show _ by omega)
theorem uy:bH fi (Nr "still")=some (.int 2):=by simp[bH,fi]
theorem FO:bH fi (Nr "step")=some (.int 5):=by simp[bH,fi,Ov,jj]
theorem BB:bH fi (Nr "swell")=some (.int 5):=by simp[bH,fi,Ov,iz,fG]
theorem Ga:bH fi (Nr "heed")=some (.int 5):=by simp[bH,fi,Ov,i9,eW,dO]
theorem FV:bH fi (Nr "calm")=some (.int 6):=by simp[bH,fi,Ov,jc,jN,jf,jO]
theorem qW {w:Str}{p q r s:Int}{u:D}(hw:FrB 1 60 p q)(ht:FrB 1 60 r s)(wt:p*s<=r*q)(hu:(wiF (lo2 w) 1 60 1 u&&gtF (lo2 w) 1 u)=true):grw w (fr p q) u (fr r s)=true:=by
 show (wiF 1 1 60 1 (fr r s)&&(wiF 1 1 r s (fr p q)&&(wiF (lo2 w) 1 60 1 u&&gtF (lo2 w) 1 u)))=true
 rw[ht.wi,hw.wt wt,hu];rfl
theorem uK.b {w:Str}{d:D}(h:uK w d):bM d=true:=by
 cases h with
 | lE w=>rw[bX uy rfl];exact w.wi
 | calm w t wt u l0 lh h1=>
  rw[bX FV rfl]
  show (grw _ _ _ _&&yL _ _)=true
  rw[qW w t wt (by unfold lo2;rw[if_neg (of_eq_false jd)];exact u.up)]
  show ((decide (_<=_)&&decide (_<=_))&&(decide (_<=_)&&decide (_<=_)))=true
  rw[decide_eq_true (by omega),decide_eq_true h1,decide_eq_true l0,decide_eq_true lh];rfl
 | Du w t wt u g=>
  rw[bX Ga rfl]
  show (grw _ _ _ _&&(if _ then _ else _))=true
  rw[qW w t wt (by unfold lo2;rw[if_neg (of_eq_false ja)];exact u.up),if_pos rfl,g.ab1];rfl
 | step w t wt u g=>
  rw[bX FO rfl]
  show (grw _ _ _ _&&(if _ then _ else _))=true
  rw[qW w t wt (by unfold lo2;rw[if_neg (of_eq_false fG)];exact u.up),if_neg (of_eq_false eW),g.ab1];rfl
 | m9 w t wt u g=>
  rw[bX BB rfl]
  show (grw _ _ _ _&&(if _ then _ else _))=true
  rw[qW w t wt (by unfold lo2;rw[if_pos rfl];exact u.up),if_neg (of_eq_false dO),g.ab1];rfl
def iw:FSp:=λds μ Q=>kcO ds λb ds=>kcI ds λm ds=>kcN ds ((Box μ b/\1<=m/\m<=60)/\∀ (wd:Str) (ps:List D) μ',l4 wd->(∀ d∈ps,ka d)->ps.length<=6->uK wd (.tup (.str wd::ps))->cF b μ μ'->Q (.tup (.str wd::ps)) μ')
theorem yr {lo hi p q:Int}(h:FrB lo hi p q)(l0:0<=lo)(hh:hi<=900):ka (fr p q):=by
 have:=h.q0
 have:=h.q1
 have:=h.ge
 have:=h.le
 have:0<=lo*q:=SV l0 (by omega)
 have:hi*q<=900*q:=Ob hh (by omega)
 exact .inr ⟨p,q,rfl,⟨by omega,by omega⟩,by omega,by omega⟩
def yq:List Str:=[Nr "still", Nr "step", Nr "swell", Nr "heed", Nr "calm"]
theorem yu:∀ z∈yq,N6 z=true/\z.length<=8:=by decide +kernel
theorem Ar:∀ ds μ Q,iw ds μ Q->ds.length=2:=λ_ _ _ h=>lcO h λ_ _ h=>lcI h λ_ _ h=>by rw[(ecN h).1];rfl
def nC:STr:=aE (bF (TB (ao rEq (ah 2) (TC (.str "still")))) (aR (aG (ae (ah 2) (ae (ah 4) (ak))))) (aU)) (aE (aQ (ar dX (ae (ao aH (TC (.int 1)) (ar aw (ae (ah 0) (ae (TC (.int 6)) (ak))))) (ae (ao aH (TC (.int 1)) (ar aw (ae (ah 0) (ae (TC (.int 3)) (ak))))) (ak)))) (az 5)) (aE (aQ (ao L3.rIx (bR (ae (aG (ae (TC (.int 1)) (ae (TC (.int 2)) (ak)))) (ae (aG (ae (TC (.int 2)) (ae (TC (.int 3)) (ak)))) (ae (aG (ae (TC (.int 1)) (ae (TC (.int 7)) (ak)))) (ae (aG (ae (TC (.int 7)) (ae (TC (.int 8)) (ak)))) (ak)))))) (ar aw (ae (ah 0) (ae (TC (.int 4)) (ak))))) (az 6)) (aE (bF (TB (ao rEq (ah 2) (TC (.str "swell")))) (aR (aG (ae (ah 2) (ae (ah 4) (ae (ar dX (ae (ao aH (ao L3.rIx (ah 5) (TC (.int 0))) (ao L3.rIx (ah 5) (TC (.int 1)))) (ae (ao L3.rIx (ah 5) (TC (.int 1))) (ak)))) (ae (ah 6) (ae (ah 3) (ak)))))))) (aU)) (aE (bF (TB (ao rEq (ah 2) (TC (.str "heed")))) (aR (aG (ae (ah 2) (ae (ah 4) (ae (ah 5) (ae (ao L3.rIx (bR (ae (ah 6) (ae (aG (ae (TC (.int 1)) (ae (TC (.int 1)) (ak)))) (ae (aG (ae (TC (.int 1)) (ae (TC (.int 16)) (ak)))) (ak))))) (ar aw (ae (ah 0) (ae (TC (.int 3)) (ak))))) (ae (ah 3) (ak)))))))) (aU)) (aE (bF (TB (ao rEq (ah 2) (TC (.str "calm")))) (aE (aQ (ar aw (ae (ah 0) (ae (TC (.int 5)) (ak)))) (az 7)) (aR (aG (ae (ah 2) (ae (ah 4) (ae (ah 5) (ae (ah 7) (ae (ao aH (ah 7) (ar aw (ae (ah 0) (ae (TC (.int 5)) (ak))))) (ae (ah 3) (ak)))))))))) (aU)) (aR (aG (ae (ah 2) (ae (ah 4) (ae (ah 5) (ae (ah 6) (ae (ah 3) (ak)))))))))))))
def yv:STr:=aE (aQ (ao L3.rIx (bR (ae (TC (.str "still")) (ae (TC (.str "step")) (ae (TC (.str "swell")) (ae (TC (.str "heed")) (ae (TC (.str "calm")) (ak))))))) (ar aw (ae (ah 0) (ae (TC (.int 5)) (ak))))) (az 2)) (aE (aQ (ar bV (ae (ah 0) (ae (TC (.int 1)) (ae (ah 1) (ak))))) (az 3)) (aE (aQ (ar bV (ae (ah 0) (ae (TC (.int 1)) (ae (ao g5 (ao L3.rIx (ah 3) (TC (.int 0))) (ao L3.rIx (ah 3) (TC (.int 1)))) (ak))))) (az 4)) (nC)))
theorem DO:∀ ds μ Q,iw ds μ Q->yv { nx:=λ_ μ'=>RT Q .non μ',rt:=RT Q } (ini 8 ds) μ:=by
 intro ds μ Q h
 replace h:=ecO h
 obtain ⟨b,ds,rfl,h⟩:=h
 replace h:=ecI h
 obtain ⟨m,ds,rfl,h⟩:=h
 replace h:=ecN h
 obtain ⟨rfl,h⟩:=h
 walk_at "ini"
 unfold yv
 walk_at "go"
 obtain ⟨⟨hB,m0,m1⟩,k⟩:=h
 refine ytk hB (by decide) (by decide) λc1 μ1 c10 c11 B1=>?_
 have Lb:yq=dh:=rfl
 have al:∀ d∈yq.map D.str,∃ z,z∈yq/\d=.str z:=λd hd=>by obtain ⟨z,hz,rfl⟩:=N5.mp hd;exact ⟨z,hz,rfl⟩
 obtain ⟨_,e1,wd,hwd,rfl⟩:=cc al c10 c11
 have T:l4 wd:=⟨(yu wd hwd).1,(yu wd hwd).2⟩
 have e1:atD [.str "still", .str "step", .str "swell", .str "heed", .str "calm"] c1=some (.str wd):=e1
 walk_at "go"
 rw[e1]
 walk_at "go"
 refine ⟨⟨B1.box,by decide,m0,by omega⟩,λtp tq μ2 Tf tq7 B2=>?_⟩
 have t0:=Tf.q0
 have tg:=Tf.ge
 have tl:=Tf.le
 have tt:tp<=60*tq:=VC tl (Ob m1 (by omega))
 walk_at "go"
 rw[cP t0]
 have d1:1<=tp / tq:=(Si t0).mpr (by omega)
 have d60:tp / tq<=60:=Int.ediv_le_of_le_mul t0 tt
 refine ⟨⟨by omega,by unfold bz;omega⟩,⟨B2.box,by decide,d1,by omega⟩,λwp wq μ3 Wf wq7 B3=>?_⟩
 have fT:ka (fr tp tq):=yr Tf (by decide) (by omega)
 have fW:ka (fr wp wq):=yr Wf (by decide) (by omega)
 have B13:=B1.trans (B2.trans B3)
 unfold nC
 walk_at "go"
 refine ⟨T.o,?_⟩
 have W60:FrB 1 60 wp wq:=⟨Wf.q0,Wf.q1,Wf.g,Wf.ge,VC Wf.le (Ob d60 (by have:=Wf.q0;omega))⟩
 have T60:FrB 1 60 tp tq:=⟨Tf.q0,Tf.q1,Tf.g,Tf.ge,tt⟩
 have wt:wp*tq<=tp*wq:=by
  have a1:=Ob Wf.le (show 0<=tq by omega)
  have a2:=Ob (Int.ediv_mul_le tp (show tq≠0 by omega)) (show 0<=wq by have:=Wf.q0;omega)
  have a3:tp / tq*wq*tq=tp / tq*tq*wq:=by rw[Vv,Uo wq,← Vv]
  omega
 refine kif (λhw=>?_) λhw=>?_
 ·walk_at "go"
  exact ⟨_,.refl _,k wd [fr wp wq] _ T (ai fW aK) (by simp) (by subst hw;exact .lE W60) B13⟩
 walk_at "go"
 refine ytk B3.box (by decide) (by decide) λc4 μ4 c40 c41 B4=>?_
 walk_at "go"
 refine ytk B4.box (by decide) (by decide) λc5 μ5 c50 c51 B5=>?_
 walk_at "go"
 refine ⟨⟨by omega,by unfold bz;omega⟩,?_⟩
 have UA:=yT (a:=1+c4) (b:=1+c5) (lo:=0) (hi:=6) (by omega) (by omega) (by omega) (by omega)
 have U:=UA.toFrB
 generalize (1+c4).fdiv (Oh (1+c4) (1+c5))=x at U UA ⊢
 generalize (1+c5).fdiv (Oh (1+c4) (1+c5))=y at U UA ⊢
 have U60:FrA 0 60 x y:=⟨⟨U.q0,U.q1,U.g,U.ge,by have:=U.le;have:=U.q0;omega⟩,UA.ab⟩
 have fU:ka (fr x y):=yr U (by decide) (by decide)
 walk_at "go"
 refine ytk B5.box (by decide) (by decide) λc6 μ6 c60 c61 B6=>?_
 have al2:∀ d∈([fr 1 2,fr 2 3,fr 1 7,fr 7 8]:List D),∃ a e,d=fr a e/\ka d/\FrL 1 a e:=by
  repeat' (first | exact aK | refine ai ⟨_,_,rfl,.inr ⟨_,_,rfl,⟨by decide,by decide⟩,by decide,by decide⟩,⟨⟨by decide,by decide,by decide,by decide,by decide⟩,by decide,by decide⟩⟩ ?_)
 obtain ⟨_,e2,da,de,rfl,fD,LD⟩:=cc al2 c60 c61
 walk_at "go"
 refine ef e2 ?_
 walk_at "go"
 have B16:=B13.trans (B4.trans (B5.trans B6))
 refine ⟨T.o,?_⟩
 refine kif (λhw2=>?_) λhw2=>?_
 ·walk_at "go"
  have y0:=U.q0
  have x0:=U.ge
  have x60:=U.le
  have y1:=U.q1
  refine ⟨⟨y0,by unfold bz;omega⟩,?_⟩
  have XA:=yT (a:=x+y) (b:=y) (lo:=1) (hi:=60) y0 (by omega) (by have:=UA.ab;omega) (by omega)
  have X:=XA.toFrB
  exact ⟨_,.refl _,k wd [fr wp wq,_,fr da de,fr tp tq] _ T (ai fW (ai (yr X (by decide) (by decide)) (ai fD (ai fT aK)))) (by simp) (by subst hw2;exact .m9 W60 T60 wt XA LD) B16⟩
 walk_at "go"
 refine ⟨T.o,?_⟩
 refine kif (λhw3=>?_) λhw3=>?_
 ·walk_at "go"
  refine ytk B6.box (by decide) (by decide) λc7 μ7 c70 c71 B7=>?_
  have al3:∀ d∈([fr da de,fr 1 1,fr 1 16]:List D),∃ a e,d=fr a e/\ka d/\FrA 0 1 a e:=ai ⟨_,_,rfl,fD,⟨⟨LD.q0,LD.q1,LD.g,LD.ge,LD.le⟩,by have:=LD.ab;omega⟩⟩ (ai ⟨_,_,rfl,.inr ⟨_,_,rfl,⟨by decide,by decide⟩,by decide,by decide⟩,⟨⟨by decide,by decide,by decide,by decide,by decide⟩,by decide⟩⟩ (ai ⟨_,_,rfl,.inr ⟨_,_,rfl,⟨by decide,by decide⟩,by decide,by decide⟩,⟨⟨by decide,by decide,by decide,by decide,by decide⟩,by decide⟩⟩ aK))
  obtain ⟨_,e3,ga,ge,rfl,f3,LA⟩:=cc al3 c70 c71
  walk_at "go"
  refine ef e3 ?_
  exact ⟨_,.refl _,k wd [fr wp wq,fr x y,fr ga ge,fr tp tq] _ T (ai fW (ai fU (ai f3 (ai fT aK)))) (by simp) (by subst hw3;exact .Du W60 T60 wt U60 LA) (B16.trans B7)⟩
 walk_at "go"
 refine ⟨T.o,?_⟩
 refine kif (λhw4=>?_) λhw4=>?_
 ·walk_at "go"
  refine ytk B6.box (by decide) (by decide) λc7 μ7 c70 c71 B7=>?_
  walk_at "go"
  refine ytk B7.box (by decide) (by decide) λc8 μ8 c80 c81 B8=>?_
  walk_at "go"
  exact ⟨_,.refl _,k wd [fr wp wq,fr x y,.int c7,.int (c7+c8),fr tp tq] _ T (ai fW (ai fU (ai (.inl ⟨_,rfl,by omega,by omega⟩) (ai (.inl ⟨_,rfl,by omega,by omega⟩) (ai fT aK))))) (by simp) (by subst hw4;exact .calm W60 T60 wt U60 c70 (by omega) (by omega)) (B16.trans (B7.trans B8))⟩
 ·walk_at "go"
  exact ⟨_,.refl _,k wd [fr wp wq,fr x y,fr da de,fr tp tq] _ T (ai fW (ai fU (ai fD (ai fT aK)))) (by simp) (by
   have:wd=Nr "step" := by
    rw[Lb] at hwd
    simp only[dh,NT,Oy,or_false] at hwd
    rcases hwd with h | h | h | h | h
    ·exact absurd h hw
    ·exact h
    ·exact absurd h hw2
    ·exact absurd h hw3
    ·exact absurd h hw4
   subst this;exact .step W60 T60 wt U60 LD) B16⟩
theorem jX {lo hi i:Int}(h:lo<=i)(h':i<=hi):wiI lo hi (.int i)=true:=by simp only[wiI,decide_eq_true h,decide_eq_true h',RK]
def MkN (hi:Int)(d:D):Prop:=∃ m:Option Int,d=oD m/\∀ i,m=some i->lT i/\i<=hi
theorem DA {hi:Int}{m:Option Int}(h:∀ i,m=some i->lT i/\i<=hi):nwB hi (oD m)=true:=by
 cases m with
 | none=>rfl
 | some i=>exact jX (h i rfl).1.l (h i rfl).2
theorem qP {hi:Int}:MkN hi .non:=⟨none,rfl,nofun⟩
theorem jy {hi i:Int}(h:0<=i)(h':i<=hi)(hh:hi<=1000000):MkN hi (.int i):=⟨some i,rfl,λj e=>by cases e;exact ⟨⟨h,by omega⟩,h'⟩⟩
def LT':List Str:=[Nr "line", Nr "turns"]
theorem Hk:∀ z∈LT',N6 z=true/\z.length<=8:=by decide +kernel
theorem Ll:∀ z∈LT',soB (.str z)=true:=by decide +kernel
theorem G9 {z:Str}(h:nmS z=true):l4 z:=by
 refine ⟨rC h,?_⟩
 unfold nmS at h
 simp only[Nz,decide_eq_true_eq,hX] at h
 exact h.1.2
def mr:FSp:=λds μ Q=>kcO ds λb ds=>kcS ds λn ds=>kcN ds ((Box μ b/\nmS n=true)/\∀ (w:WT) μ',w.Ok->w.nm=n->cR w.toD=true->cF b μ μ'->Q w.toD μ')
theorem C8:∀ ds μ Q,mr ds μ Q->ds.length=2:=λ_ _ _ h=>lcO h λ_ _ h=>lcS h λ_ _ h=>by rw[(ecN h).1];rfl
def BG:STr:=aE (aQ (ao L3.rIx (bR (ae (ao aH (TC (.int 1)) (ar aw (ae (ah 0) (ae (TC (.int 3)) (ak))))) (ae (ao aH (TC (.int 1)) (ar aw (ae (ah 0) (ae (TC (.int 20)) (ak))))) (ak)))) (ao g5 (ar aw (ae (ah 0) (ae (TC (.int 8)) (ak)))) (TC (.int 7)))) (az 2)) (aE (aQ (ao L3.rIx (bR (ae (ao aH (TC (.int 1)) (ar aw (ae (ah 0) (ae (TC (.int 8)) (ak))))) (ae (ao aH (TC (.int 1)) (ar aw (ae (ah 0) (ae (TC (.int 60)) (ak))))) (ak)))) (ao g5 (ar aw (ae (ah 0) (ae (TC (.int 8)) (ak)))) (TC (.int 7)))) (az 3)) (aE (aQ (ao L3.rIx (bR (ae (TC .non) (ae (ao gj (ar aw (ae (ah 0) (ae (ao aH (ah 3) (TC (.int 2))) (ak)))) (TC (.int 61))) (ae (TC (.int 0)) (ak))))) (ao gj (ar aw (ae (ah 0) (ae (TC (.int 5)) (ak)))) (TC (.int 3)))) (az 4)) (aR (aG (ae (ah 1) (ae (ah 2) (ae (ah 3) (ae (ah 4) (ae (ao L3.rIx (bR (ae (TC (.str "line")) (ae (TC (.str "turns")) (ak)))) (ar aw (ae (ah 0) (ae (TC (.int 2)) (ak))))) (ak))))))))))
theorem Fh:∀ ds μ Q,mr ds μ Q->BG { nx:=λ_ μ'=>RT Q .non μ',rt:=RT Q } (ini 5 ds) μ:=by
 intro ds μ Q h
 replace h:=ecO h
 obtain ⟨b,ds,rfl,h⟩:=h
 replace h:=ecS h
 obtain ⟨n,ds,rfl,h⟩:=h
 replace h:=ecN h
 obtain ⟨rfl,h⟩:=h
 walk_at "ini"
 unfold BG
 walk_at "go"
 obtain ⟨⟨hB,hn⟩,k⟩:=h
 have T:=G9 hn
 refine ytk hB (by decide) (by decide) λc1 μ1 c10 c11 B1=>?_
 walk_at "go"
 refine ytk B1.box (by decide) (by decide) λc2 μ2 c20 c21 B2=>?_
 walk_at "go"
 refine ytk B2.box (by decide) (by decide) λc3 μ3 c30 c31 B3=>?_
 walk_at "go"
 have i3:0<=c3.fdiv 7/\c3.fdiv 7 < 2:=by rw[cP (by decide)];omega
 have al:∀ d∈([.int (1+c1),.int (1+c2)]:List D),IsI 1 20 d:=ai ⟨_,rfl,by omega,by omega⟩ (ai ⟨_,rfl,by omega,by omega⟩ aK)
 obtain ⟨_,e1,p,rfl,p0,p1⟩:=cc al i3.1 i3.2
 refine ⟨⟨by decide,by unfold bz;decide⟩,ef e1 ?_⟩
 walk_at "go"
 refine ytk B3.box (by decide) (by decide) λc4 μ4 c40 c41 B4=>?_
 walk_at "go"
 refine ytk B4.box (by decide) (by decide) λc5 μ5 c50 c51 B5=>?_
 walk_at "go"
 refine ytk B5.box (by decide) (by decide) λc6 μ6 c60 c61 B6=>?_
 walk_at "go"
 have i6:0<=c6.fdiv 7/\c6.fdiv 7 < 2:=by rw[cP (by decide)];omega
 have al2:∀ d∈([.int (1+c4),.int (1+c5)]:List D),IsI 1 60 d:=ai ⟨_,rfl,by omega,by omega⟩ (ai ⟨_,rfl,by omega,by omega⟩ aK)
 obtain ⟨_,e2,r,rfl,r0,r1⟩:=cc al2 i6.1 i6.2
 refine ⟨⟨by decide,by unfold bz;decide⟩,ef e2 ?_⟩
 walk_at "go"
 refine ytk B6.box (by omega) (by omega) λc7 μ7 c70 c71 B7=>?_
 walk_at "go"
 have m7:=fm0 (a:=c7) (n:=61) (by decide)
 have m7':=fm1 (a:=c7) (n:=61) (by decide)
 refine ⟨by decide,?_⟩
 refine ytk B7.box (by decide) (by decide) λc8 μ8 c80 c81 B8=>?_
 walk_at "go"
 have m8:=fm0 (a:=c8) (n:=3) (by decide)
 have m8':=fm1 (a:=c8) (n:=3) (by decide)
 have al3:∀ d∈([.non,.int (c7.fmod 61),.int 0]:List D),MkN 60 d:=ai qP (ai (jy m7 (by omega) (by decide)) (ai (jy (by decide) (by decide) (by decide)) aK))
 obtain ⟨_,e3,m,rfl,hm⟩:=cc al3 m8 m8'
 refine ⟨by decide,ef e3 ?_⟩
 walk_at "go"
 refine ytk B8.box (by decide) (by decide) λc9 μ9 c90 c91 B9=>?_
 have al4:∀ d∈LT'.map D.str,∃ z,z∈LT'/\d=.str z:=λd hd=>by obtain ⟨z,hz,rfl⟩:=N5.mp hd;exact ⟨z,hz,rfl⟩
 obtain ⟨_,e4,so,hso,rfl⟩:=cc al4 c90 c91
 have e4:atD [.str "line", .str "turns"] c9=some (.str so):=e4
 walk_at "go"
 rw[e4]
 walk_at "go"
 exact ⟨_,.refl _,k ⟨n,p,r,m,so⟩ _ ⟨T,⟨by show 0<=p;omega,by show p < _;omega⟩,⟨by show 0<=r;omega,by show r < _;omega⟩,λi e=>(hm i e).1,⟨(Hk so hso).1,(Hk so hso).2⟩⟩ rfl (by
  show (nmS n&&(wiI 1 20 (.int p)&&(wiI 1 60 (.int r)&&(nwB 60 (oD m)&&soB (.str so)))))=true
  rw[hn,jX p0 p1,jX r0 r1,DA hm,Ll so hso];rfl) (B1.trans (B2.trans (B3.trans (B4.trans (B5.trans (B6.trans (B7.trans (B8.trans B9))))))))⟩
theorem LX {μ:Mu}{b p:Addr}(h:Box μ b)(hp:μ p=none):p≠b:=λz=>by subst z;obtain ⟨_,_,_,e,_⟩:=h;rw[hp] at e;cases e
theorem GU {μ:Mu}{b p:Addr}{o:MO}(h:Box μ b)(hp:p≠b):Box (up μ p o) b:=by
 obtain ⟨g,s,c,e,h0⟩:=h
 exact ⟨g,s,c,by rw[cW (PC hp)];exact e,h0⟩
theorem LM {μ:Mu}{b p:Addr}(h:Box μ b)(hp:p≠b):Box (dn μ p) b:=by
 obtain ⟨g,s,c,e,h0⟩:=h
 exact ⟨g,s,c,by unfold L3.dn;rw[if_neg (PC hp)];exact e,h0⟩
theorem nD {G:GTr}{tt:TTr}{te:ETr}{ρc:ST}{ds:List D}{μ:Mu}{Q:DK}{b:Addr}(hB:Box μ b)(I:List D->List D->Prop)(h0:I ds [])(hl:ds.length<=999999)
  (step:∀ d r zs μ',Box μ' b->I (d::r) zs->∀ (N:Option D->Mu->Prop),(∀ oy μ2,I r (zs++oy.toList)->cF b μ' μ2->N oy μ2)->G d ρc μ' λρ1 μ1=>tt ρ1 μ1 λc μ2=>kIf c (te ρ1 μ2 λy μ3=>N (some y) μ3) (N none μ2))
  (k:∀ zs μ',I [] zs->cF b μ μ'->Q (.ls zs) μ'):xK G tt te ρc ds μ Q:=by
 intro p hp
 have pb:=LX hB hp
 refine iN (λr μ'=>∃ zs,I r zs/\zs.length+r.length<=ds.length/\μ' p=some (.lst zs)/\Box μ' b/\∀ x,x≠b->x≠p->μ' x=μ x) ?_ ?_ _ _ ⟨[],h0,by simp,bp,GU hB pb,λx _ h=>cW h⟩
 ·rintro μ' ⟨zs,hI,_,e,P,fr⟩
  refine p9 e (k zs _ hI ⟨LM P pb,λx hx=>?_⟩)
  unfold L3.dn
  split
  ·rename_i z;subst z;exact hp.symm
  ·rename_i z;exact fr x hx z
 ·rintro d r μ' N ⟨zs,hI,hz,e,P,fr⟩ hN
  rw[ND] at hz
  refine step d r zs μ' P hI (λoy μ3=>match oy with
   | some y=>kL μ3 p λzs=>zs.length < 1000000/\N (up μ3 p (.lst (zs++[y])))
   | none=>N μ3) ?_
  intro oy μ2 hoy P2
  have e2:μ2 p=some (.lst zs):=by rw[P2.oth p pb];exact e
  cases oy with
  | none=>exact hN _ ⟨zs,by simpa using hoy,by omega,e2,P2.box,λx h1 h2=>(P2.oth x h1).trans (fr x h1 h2)⟩
  | some y=>
   refine p9 e2 ⟨by omega,hN _ ⟨zs++[y],hoy,by rw[NQ];simp;omega,bp,GU P2.box pb,λx h1 h2=>?_⟩⟩
   rw[cW h2];exact (P2.oth x h1).trans (fr x h1 h2)
theorem Dn {k:Nat}:∀ {zs:List Str},(∀ z∈zs,l4 z)->bB k (zs.map .str)=true
 | [],_=>rfl
 | z::r,h=>by
  rw[N7,bB,Nz]
  exact ⟨by cases k<;>simpa[okD] using (h z NB).o,Dn λy q=>h y (NF _ q)⟩
theorem F6 {ns:List Str}(nd:ns.Nodup)(hn:∀ z∈ns,nmS z=true):∀ (xs pre suf:List Str),pre++suf=ns->xs.Sublist suf->cx ns pre.length (xs.map .str)=true:=by
 intro xs
 induction xs with
 | nil=>intro _ _ _ _;rfl
 | cons x xs ih=>
  intro pre suf e sl
  have hx:x∈suf:=sl.subset NB
  have hx':x∈ns:=by rw[← e];exact NR _ hx
  obtain ⟨s1,s2,rfl⟩:=List.append_of_mem hx
  have e':(pre++s1++[x])++s2=ns:=by rw[← e];simp
  have nx:x ∉ pre++s1:=by
   rw[← e'] at nd
   have:=(O5.mp (O5.mp nd).1).2.2
   exact λh=>this x h x (by simp) rfl
  have pos:gn ns x=(pre++s1).length:=by
   have no:(pre++s1).findIdx (λy=>decide (y=x))=(pre++s1).length:=Sj.mpr λy hy=>decide_eq_false λz=>nx (z ▸ hy)
   unfold gn
   rw[← e',O4,Tg,no,if_neg (Px _),List.singleton_append,Up]
   simp
  have dr:ns.drop pre.length=s1++x::s2:=by rw[← e];simp
  have sl2:xs.Sublist s2:=by
   have:(x::xs).Sublist (s1++x::s2):=sl
   rw[List.sublist_append_iff] at this
   obtain ⟨l1,l2,h1,h2,h3⟩:=this
   cases l1 with
   | nil=>
    rw[QZ] at h1
    subst h1
    exact List.cons_sublist_cons.mp h3
   | cons y l1=>
    rw[QI] at h1
    injection h1 with h4 h5
    subst h4
    exact absurd (NR pre (h2.subset NB)) nx
  have ih':=ih (pre++s1++[x]) s2 e' sl2
  rw[N7]
  show (nmS x&&(decide (x∈ns.drop pre.length)&&cx ns (gn ns x+1) (xs.map .str)))=true
  rw[hn x hx',dr,decide_eq_true (by simp),pos]
  rw[NQ,Pl] at ih'
  rw[ih'];rfl
theorem uQ {ns xs:List Str}(nd:ns.Nodup)(hn:∀ z∈ns,nmS z=true)(ne:xs≠[])(sl:xs.Sublist ns):cu ns (.tup (xs.map .str))=true:=by
 show (decide (xs.map D.str≠[])&&cx ns 0 (xs.map .str))=true
 have h0:cx ns 0 (xs.map .str)=true:=F6 nd hn xs [] ns rfl sl
 rw[decide_eq_true (by simpa using ne),h0];rfl
def fe:FSp:=λds μ Q=>kcO ds λb ds=>kcS ds λn ds=>kcT ds λxs ds=>kcI ds λm ds=>kcN ds (∃ ws:List WT,(Box μ b/\nmS n=true/\xs=ws.map WT.toD/\(0 < ws.length/\ws.length<=8)/\(∀ w∈ws,w.Ok/\nmS w.nm=true)/\(ws.map WT.nm).Nodup/\1<=m/\m<=60)/\∀ (s:ST') μ',s.Ok->s.nm=n->s.rd.Sublist (ws.map WT.nm)->s.rd≠[]->aX (ws.map WT.nm) s.toD=true->(s.bt<=8/\s.bg<=3)->cF b μ μ'->Q s.toD μ')
theorem um:∀ ds μ Q,fe ds μ Q->ds.length=4:=λ_ _ _ h=>lcO h λ_ _ h=>lcS h λ_ _ h=>lcT h λ_ _ h=>lcI h λ_ _ h=>by rw[(ecN h).1];rfl
def gh:STr:=aE (aQ (ao L3.rIx (bR (ae (ao aH (TC (.int 1)) (ar aw (ae (ah 0) (ae (TC (.int 3)) (ak))))) (ae (ao aH (TC (.int 1)) (ar aw (ae (ah 0) (ae (TC (.int 8)) (ak))))) (ak)))) (ao g5 (ar aw (ae (ah 0) (ae (TC (.int 6)) (ak)))) (TC (.int 5)))) (az 5)) (aE (aQ (ao L3.rIx (bR (ae (TC .non) (ae (ar aw (ae (ah 0) (ae (TC (.int 25)) (ak)))) (ak)))) (ar aw (ae (ah 0) (ae (TC (.int 2)) (ak))))) (az 6)) (aR (aG (ae (ah 1) (ae (ah 4) (ae (ah 5) (ae (ar aw (ae (ah 0) (ae (TC (.int 4)) (ak)))) (ae (ah 6) (ae (ar iw (ae (ah 0) (ae (ah 3) (ak)))) (ak))))))))))
def qt:STr:=aE (aQ (ar d9 (ae (df (iT (ah 2)) (az 0) (TB (ao rGt (ar aw (ae (ah 1) (ae (TC (.int 3)) (ak)))) (TC (.int 0)))) (ao L3.rIx (ah 0) (TC (.int 0))) 1 [0]) (ak))) (az 4)) (aE (bF (TB (ao rEq (ah 4) (aG (ak)))) (aQ (aG (ae (ao L3.rIx (ao L3.rIx (ah 2) (ar aw (ae (ah 0) (ae (ar cX (ae (ah 2) (ak))) (ak))))) (TC (.int 0))) (ak))) (az 4)) (aU)) (gh))
theorem xS:∀ ds μ Q,fe ds μ Q->qt { nx:=λ_ μ'=>RT Q .non μ',rt:=RT Q } (ini 7 ds) μ:=by
 intro ds μ Q h
 replace h:=ecO h
 obtain ⟨b,ds,rfl,h⟩:=h
 replace h:=ecS h
 obtain ⟨n,ds,rfl,h⟩:=h
 replace h:=ecT h
 obtain ⟨xs,ds,rfl,h⟩:=h
 replace h:=ecI h
 obtain ⟨m,ds,rfl,h⟩:=h
 replace h:=ecN h
 obtain ⟨rfl,h⟩:=h
 walk_at "ini"
 unfold qt
 walk_at "go"
 obtain ⟨ws,⟨hB,hnm,rfl,⟨l0,l1⟩,hw2,wnd,m0,m1⟩,k⟩:=h
 have T:=G9 hnm
 have hw:∀ w∈ws,w.Ok:=λw h=>(hw2 w h).1
 have hns:∀ z∈ws.map WT.nm,nmS z=true:=λz hz=>by obtain ⟨w,h,rfl⟩:=N5.mp hz;exact (hw2 w h).2
 refine nD hB (λr zs=>∃ (rs:List WT) (ns:List Str),r=rs.map WT.toD/\zs=ns.map .str/\(∀ x∈rs,x.Ok)/\ns.length+rs.length<=8/\(∀ z∈ns,l4 z)/\∃ pre,pre++rs=ws/\ns.Sublist (pre.map WT.nm)) ⟨ws,[],rfl,rfl,hw,by simpa using l1,λ_ h=>(nomatch h),[],rfl,.slnil⟩ (by simp;omega) ?_ ?_
 ·rintro d r zs μ1 hB1 ⟨rs,ns,er,rfl,hr,hl,hn,pre,ep,sl⟩ N hN
  cases rs with
  | nil=>cases er
  | cons x rs=>
  cases er
  rw[ND] at hl
  have hr':=λy hy=>hr y (NF x hy)
  walk_at "go"
  refine ytk hB1 (by decide) (by decide) λc μ2 c0 c1 B2=>?_
  walk_at "go"
  refine kif (λh=>?_) λh=>?_
  ·unfold WT.toD
   walk_at "go"
   refine hN _ _ ⟨rs,ns++[x.nm],rfl,by simp,hr',by simp;omega,λz hz=>?_,pre++[x],by rw[← ep];simp,by rw[O9];exact sl.append (Uq _)⟩ B2
   rcases N1.mp hz with q | q
   ·exact hn z q
   ·rw[NK.mp q];exact (hr x NB).n
  ·exact hN none _ ⟨rs,ns,rfl,by simp,hr',by omega,hn,pre++[x],by rw[← ep];simp,by rw[O9];exact sl.trans (List.sublist_append_left _ _)⟩ B2
 ·rintro zs μ1 ⟨rs,ns,er,rfl,_,hl,hn,pre,ep,sl⟩ B1
  have e0:rs=[]:=by cases rs with | nil=>rfl | cons=>cases er
  rw[e0,OC] at ep
  rw[ep] at sl
  walk_at "go"
  have fin:∀ (xs:List Str) μ2,(∀ y∈xs,l4 y)->xs.length<=8->xs.Sublist (ws.map WT.nm)->xs≠[]->cF b μ μ2->gh { nx:=λ_ μ'=>RT Q .non μ',rt:=RT Q } [some (.obj b),some (.str n),some (.tup (ws.map WT.toD)),some (.int m),some (.tup (xs.map .str)),none,none] μ2:=by
   intro xs μ2 ho hxl xsl xne B2
   unfold gh
   walk_at "go"
   refine ytk B2.box (by decide) (by decide) λc3 μ3 c30 c31 B3=>?_
   walk_at "go"
   refine ytk B3.box (by decide) (by decide) λc4 μ4 c40 c41 B4=>?_
   walk_at "go"
   refine ytk B4.box (by decide) (by decide) λc5 μ5 c50 c51 B5=>?_
   walk_at "go"
   have i5:0<=c5.fdiv 5/\c5.fdiv 5 < 2:=by rw[cP (by decide)];omega
   have al:∀ d∈([.int (1+c3),.int (1+c4)]:List D),IsI 1 8 d:=ai ⟨_,rfl,by omega,by omega⟩ (ai ⟨_,rfl,by omega,by omega⟩ aK)
   obtain ⟨_,e1,bt,rfl,b0,b1⟩:=cc al i5.1 i5.2
   refine ⟨⟨by decide,by unfold bz;decide⟩,ef e1 ?_⟩
   walk_at "go"
   refine ytk B5.box (by decide) (by decide) λc6 μ6 c60 c61 B6=>?_
   walk_at "go"
   refine ytk B6.box (by decide) (by decide) λc7 μ7 c70 c71 B7=>?_
   have al3:∀ d∈([.non,.int c6]:List D),MkN 1000000 d:=ai qP (ai (jy c60 (by omega) (by decide)) aK)
   obtain ⟨_,e3,mn,rfl,hm⟩:=cc al3 c70 c71
   walk_at "go"
   refine ef e3 ?_
   walk_at "go"
   refine ytk B7.box (by decide) (by decide) λc8 μ8 c80 c81 B8=>?_
   walk_at "go"
   refine ⟨⟨B8.box,m0,m1⟩,λwd ps μ9 Tw hp pl RU B9=>?_⟩
   walk_at "go"
   exact ⟨_,.refl _,k ⟨n,xs,bt,c8,mn,wd,ps⟩ _ ⟨T,ho,hxl,⟨by show 0<=bt;omega,by show bt < _;omega⟩,⟨c80,by show c8 < _;omega⟩,λi e=>(hm i e).1,Tw,hp,pl⟩ rfl xsl xne (by
    show (nmS n&&(cu _ (.tup (xs.map .str))&&(wiI 1 8 (.int bt)&&(wiI 0 1000000 (.int c8)&&(nwB 1000000 (oD mn)&&bM (.tup (.str wd::ps)))))))=true
    rw[hnm,uQ wnd hns xne xsl,jX b0 b1,jX c80 (by omega),DA hm,RU.b];rfl) ⟨b1,by show c8<=3;omega⟩ (B2.trans (B3.trans (B4.trans (B5.trans (B6.trans (B7.trans (B8.trans B9)))))))⟩
  cases ns with
  | cons x xs=>
   walk_at "go"
   have o1:=(hn x NB).o
   have o2:=Dn (k:=39) λy q=>hn y (NF x q)
   exact ⟨by rw[o1,o2];rfl,fin (x::xs) μ1 hn (by simp at hl ⊢;omega) sl (by simp) B1⟩
  | nil=>
   walk_at "go"
   rw[NC]
   refine ytk B1.box (by omega) (by omega) λc μ2 c0 c1 B2=>?_
   obtain ⟨_,e2,y,hy,rfl⟩:=cc (P:=λd=>∃ y,y∈ws/\d=y.toD) (xs:=ws.map WT.toD) (λd hd=>by obtain ⟨y,hy,rfl⟩:=N5.mp hd;exact ⟨y,hy,rfl⟩) c0 (by rw[NC];exact c1)
   walk_at "go"
   refine ef e2 ?_
   unfold WT.toD
   walk_at "go"
   exact fin [y.nm] μ2 (λz hz=>by rw[NK.mp hz];exact (hw y hy).n) (by simp) (List.singleton_sublist.mpr (N5.mpr ⟨y,hy,rfl⟩)) (by simp) (B1.trans B2)
theorem rX (ws:List WT):(ws.map WT.toD).map nmD=ws.map WT.nm:=by rw[OR];rfl
theorem qY (ss:List ST'):(ss.map ST'.toD).map nmD=ss.map ST'.nm:=by rw[OR];rfl
theorem Co {ws:List WT}(h:∀ w∈ws,cR w.toD=true):(ws.map WT.toD).all cR=true:=by
 rw[Rf];exact Oe.mpr h
theorem xP {ns:List Str}{ss:List ST'}(h:∀ s∈ss,aX ns s.toD=true):(ss.map ST'.toD).all (aX ns)=true:=by
 rw[Rf];exact Oe.mpr h
structure PT.Good (p:PT):Prop where
 ok:p.Ok
 g0:1<=p.g
 g1:p.g<=60
 w1:1<=p.ws.length
 w6:p.ws.length<=6
 w:∀ w∈p.ws,cR w.toD=true
 wn:(p.ws.map WT.nm).Nodup
 s8:p.ss.length<=8
 s:∀ s∈p.ss,aX (p.ws.map WT.nm) s.toD=true
 sn:(p.ss.map ST'.nm).Pairwise λa b=>ltS a b=true
 sl:∀ s∈p.ss,s.rd.Sublist (p.ws.map WT.nm)/\s.rd≠[]
theorem PT.Good.b {p:PT}(h:p.Good):gU p.toD=true:=by
 show (wiI 1 60 (.int p.g)&&(((decide (1<=(p.ws.map WT.toD).length)&&decide ((p.ws.map WT.toD).length<=6))&&((p.ws.map WT.toD).all cR&&decide (((p.ws.map WT.toD).map nmD).Nodup)))&&(decide ((p.ss.map ST'.toD).length<=8)&&((p.ss.map ST'.toD).all (aX ((p.ws.map WT.toD).map nmD))&&xO ((p.ss.map ST'.toD).map nmD)))))=true
 rw[rX,qY,NC,NC,jX h.g0 h.g1,decide_eq_true h.w1,decide_eq_true h.w6,Co h.w,decide_eq_true h.wn,decide_eq_true h.s8,xP h.s]
 unfold xO
 rw[decide_eq_true h.sn];rfl
theorem oz {w:WT}(h:cR w.toD=true):nmS w.nm=true:=by
 have h:(nmS w.nm&&_)=true:=h
 rw[Nz] at h
 exact h.1
def j9:FSp:=λds μ Q=>kcO ds λb ds=>kcI ds λm ds=>kcI ds λn ds=>kcN ds ((Box μ b/\(1<=m/\m<=60)/\0<=n/\n<=8)/\∀ (p:PT) μ',p.Good->cF b μ μ'->Q p.toD μ')
theorem zD:∀ ds μ Q,j9 ds μ Q->ds.length=3:=λ_ _ _ h=>lcO h λ_ _ h=>lcI h λ_ _ h=>lcI h λ_ _ h=>by rw[(ecN h).1];rfl
def yt:STr:=aE (aQ (ao L3.rIx (bR (ae (TC (.int 1)) (ae (TC (.int 2)) (ae (TC (.int 3)) (ae (ao aH (TC (.int 1)) (ar aw (ae (ah 0) (ae (TC (.int 60)) (ak))))) (ak)))))) (ar aw (ae (ah 0) (ae (TC (.int 4)) (ak))))) (az 3)) (aE (aQ (ao L3.rIx (bR (ae (ao aH (TC (.int 1)) (ar aw (ae (ah 0) (ae (TC (.int 3)) (ak))))) (ae (ao aH (TC (.int 4)) (ar aw (ae (ah 0) (ae (TC (.int 3)) (ak))))) (ak)))) (ao g5 (ar aw (ae (ah 0) (ae (TC (.int 4)) (ak)))) (TC (.int 3)))) (az 4)) (aE (aQ (ar d9 (ae (df (iT (ar fO (ae (ah 0) (ae (ah 4) (ak))))) (az 0) (jq) (ar mr (ae (ah 1) (ae (ah 0) (ak)))) 1 [0]) (ak))) (az 5)) (aE (aQ (ar we (ae (ar fO (ae (ah 0) (ae (ar aw (ae (ah 0) (ae (ao aH (ah 2) (TC (.int 1))) (ak)))) (ak)))) (ak))) (az 6)) (aR (aG (ae (ah 3) (ae (ah 5) (ae (ar d9 (ae (df (iT (ah 6)) (az 0) (jq) (ar fe (ae (ah 1) (ae (ah 0) (ae (ah 2) (ae (ah 3) (ak)))))) 1 [0,5,1]) (ak))) (ak)))))))))
theorem DZ:∀ ds μ Q,j9 ds μ Q->yt { nx:=λ_ μ'=>RT Q .non μ',rt:=RT Q } (ini 7 ds) μ:=by
 intro ds μ Q h
 replace h:=ecO h
 obtain ⟨b,ds,rfl,h⟩:=h
 replace h:=ecI h
 obtain ⟨m,ds,rfl,h⟩:=h
 replace h:=ecI h
 obtain ⟨n,ds,rfl,h⟩:=h
 replace h:=ecN h
 obtain ⟨rfl,h⟩:=h
 walk_at "ini"
 unfold yt
 walk_at "go"
 obtain ⟨⟨hB,⟨m0,m1⟩,n0,n1⟩,k⟩:=h
 refine ytk hB (by decide) (by decide) λc1 μ1 c10 c11 B1=>?_
 walk_at "go"
 refine ytk B1.box (by decide) (by decide) λc2 μ2 c20 c21 B2=>?_
 have al:∀ d∈([.int 1,.int 2,.int 3,.int (1+c1)]:List D),IsI 1 60 d:=ai ⟨_,rfl,by decide,by decide⟩ (ai ⟨_,rfl,by decide,by decide⟩ (ai ⟨_,rfl,by decide,by decide⟩ (ai ⟨_,rfl,by omega,by omega⟩ aK)))
 obtain ⟨_,e1,gr,rfl,g0,g1⟩:=cc al c20 c21
 walk_at "go"
 refine ef e1 ?_
 walk_at "go"
 refine ytk B2.box (by decide) (by decide) λc3 μ3 c30 c31 B3=>?_
 walk_at "go"
 refine ytk B3.box (by decide) (by decide) λc4 μ4 c40 c41 B4=>?_
 walk_at "go"
 refine ytk B4.box (by decide) (by decide) λc5 μ5 c50 c51 B5=>?_
 walk_at "go"
 have i5:0<=c5.fdiv 3/\c5.fdiv 3 < 2:=by rw[cP (by decide)];omega
 have al2:∀ d∈([.int (1+c3),.int (4+c4)]:List D),IsI 1 6 d:=ai ⟨_,rfl,by omega,by omega⟩ (ai ⟨_,rfl,by omega,by omega⟩ aK)
 obtain ⟨_,e2,mw,rfl,w0,w1⟩:=cc al2 i5.1 i5.2
 refine ⟨⟨by decide,by unfold bz;decide⟩,ef e2 ?_⟩
 walk_at "go"
 refine ⟨⟨B5.box,by omega,by omega⟩,λzs μ6 zl hz znd B6=>?_⟩
 walk_at "go"
 refine nD B6.box (λr ys=>∃ (rs:List Str) (wl:List WT),r=rs.map .str/\ys=wl.map WT.toD/\(∀ z∈rs,nmS z=true)/\(∀ w∈wl,w.Ok/\cR w.toD=true)/\wl.map WT.nm++rs=zs) ⟨zs,[],rfl,rfl,hz,(λ_ h=>nomatch h),rfl⟩ (by simp;omega) ?_ ?_
 ·rintro d r ys μ' hB' ⟨rs,wl,er,rfl,hr,hw,hl⟩ N hN
  cases rs with
  | nil=>cases er
  | cons z rs=>
  cases er
  walk_at "go"
  refine ⟨⟨hB',hr z NB⟩,λw μ2 W Wn Wb B=>?_⟩
  refine hN (some w.toD) _ ⟨rs,wl++[w],rfl,by simp,(λy q=>hr y (NF _ q)),λy hy=>?_,by rw[← hl,O9,N7,Wn];simp⟩ B
  rcases N1.mp hy with q | q
  ·exact hw y q
  ·rw[NK.mp q];exact ⟨W,Wb⟩
 rintro ys μ7 ⟨rs,ws,er,rfl,_,hw,hl⟩ B7
 cases rs with
 | cons _ _=>cases er
 | nil=>
 rw[OC] at hl
 have wl:ws.length=zs.length:=by rw[← hl,NC]
 have wnd:(ws.map WT.nm).Nodup:=by rw[hl];exact znd
 walk_at "go"
 refine ytk B7.box (by omega) (by omega) λc8 μ8 c80 c81 B8=>?_
 walk_at "go"
 refine ⟨⟨B8.box,c80,by omega⟩,λns μ9 nl hn nnd B9=>?_⟩
 refine ⟨ns,⟨rfl,by omega⟩,λnn p1 p2=>?_⟩
 have nnl:=p1.length_eq
 have srt:=Dt p2 ((p1.nodup_iff).mpr nnd)
 have hnn:∀ z∈nn,nmS z=true:=λz q=>hn z (p1.mem_iff.mp q)
 walk_at "go"
 refine nD B9.box (λr ys=>∃ (rs:List Str) (sl:List ST'),r=rs.map .str/\ys=sl.map ST'.toD/\(∀ z∈rs,nmS z=true)/\(∀ s∈sl,s.Ok/\aX (ws.map WT.nm) s.toD=true/\s.rd.Sublist (ws.map WT.nm)/\s.rd≠[])/\sl.map ST'.nm++rs=nn) ⟨nn,[],rfl,rfl,hnn,(λ_ h=>nomatch h),rfl⟩ (by simp;omega) ?_ ?_
 ·rintro d r ys μ' hB' ⟨rs,sl,er,rfl,hr,hs,hl'⟩ N hN
  cases rs with
  | nil=>cases er
  | cons z rs=>
  cases er
  walk_at "go"
  refine ⟨ws,⟨hB',hr z NB,rfl,⟨by omega,by omega⟩,(λw h=>⟨(hw w h).1,oz (hw w h).2⟩),wnd,m0,m1⟩,λs μ2 S Sn Sr Sr0 Sb _ B=>?_⟩
  refine hN (some s.toD) _ ⟨rs,sl++[s],rfl,by simp,(λy q=>hr y (NF _ q)),λy hy=>?_,by rw[← hl',O9,N7,Sn];simp⟩ B
  rcases N1.mp hy with q | q
  ·exact hs y q
  ·rw[NK.mp q];exact ⟨S,Sb,Sr,Sr0⟩
 rintro ys μ10 ⟨rs,ss,er,rfl,_,hs,hl2⟩ B10
 cases rs with
 | cons _ _=>cases er
 | nil=>
 rw[OC] at hl2
 have sl:ss.length=nn.length:=by rw[← hl2,NC]
 walk_at "go"
 exact ⟨_,.refl _,k ⟨gr,ws,ss⟩ _ ⟨⟨⟨by show 0<=gr;omega,by show gr < _;omega⟩,λw h=>(hw w h).1,λs h=>(hs s h).1,by show ws.length<=8;omega,by show ss.length<=8;omega⟩,g0,g1,by show 1<=ws.length;omega,by show ws.length<=6;omega,λw h=>(hw w h).2,wnd,by show ss.length<=8;omega,λs h=>(hs s h).2.1,by show (ss.map ST'.nm).Pairwise _;rw[hl2];exact srt,λs h=>(hs s h).2.2⟩ (B1.trans (B2.trans (B3.trans (B4.trans (B5.trans (B6.trans (B7.trans (B8.trans (B9.trans B10)))))))))⟩
section
open PySem PySem.Spec PyProof PyProof.Rows L2
end
theorem lL {xs:List D}{P:D->Prop}{i:Int}{f:D->Prop}(k0:0<=i)(k1:i < xs.length)(al:∀ d∈xs,P d)(h:∀ d,P d->f d):kO (atD xs i) f:=by
 obtain ⟨d,e,p⟩:=cc al k0 k1
 exact ef e (h d p)
def GrY (b:Addr)(μ μ':Mu):Prop:=Box μ' b/\∀ a o,a≠b->μ a=some o->μ' a=some o
theorem GrY.of {b:Addr}{μ μ':Mu}(B:cF b μ μ'):GrY b μ μ':=⟨B.box,λa o h e=>by rw[B.oth a h];exact e⟩
theorem GrY.trans {b:Addr}{μ μ1 μ2:Mu}(x:GrY b μ μ1)(y:GrY b μ1 μ2):GrY b μ μ2:=⟨y.1,λa o h e=>y.2 a o h (x.2 a o h e)⟩
theorem GrY.new {μ:Mu}{b q:Addr}{o:MO}(h:Box μ b)(hq:μ q=none):GrY b μ (up μ q o):=by
 obtain ⟨g,s,c,e,r⟩:=h
 have ne:b≠q:=λz=>by rw[z,hq] at e;cases e
 exact ⟨⟨g,s,c,by rw[cW ne];exact e,r⟩,λa o h e=>by rw[cW (λz=>by rw[z,hq] at e;cases e)];exact e⟩
theorem Any.gr {μ μ':Mu}{b:Addr}{d:D}(h:Any μ d)(hB:Box μ b)(G:GrY b μ μ'):Any μ' d:=by
 induction h with
 | non=>exact .non
 | bl x=>exact .bl x
 | int x=>exact .int x
 | str h1 h2=>exact .str h1 h2
 | tup _ hl ih=>exact .tup ih hl
 | ls x=>exact .ls x
 | dct e=>exact .dct (G.2 _ _ (λz=>by subst z;obtain ⟨g,s,c,e',_⟩:=hB;rw[e'] at e;cases e) e)
theorem anyS {μ:Mu}{z:Str}(h:∀ c∈z.cps.toList,c < 128)(hl:z.length<=1000):Any μ (.str z):=.str (by
 rw[OW]
 intro c hc
 exact decide_eq_true (h c (by simpa using hc))) hl
theorem dG {z:Str}(h:nmS z=true):(1<=z.length/\z.length<=8)/\∀ c∈z.cps.toList,97<=c/\c<=122:=by
 unfold nmS at h
 simp only[Nz,decide_eq_true_eq,Oe,hX] at h
 refine ⟨h.1,λc hc=>?_⟩
 have:=h.2 c hc
 simpa only[sm,Nz,decide_eq_true_eq] using this
theorem dM {μ:Mu}{z:Str}(h:nmS z=true):Any μ (.str z):=anyS (λc hc=>by have:=(dG h).2 c hc;omega) (by have:=(dG h).1;omega)
theorem anyI {μ:Mu}{i:Int}(h:-1000000000000000000000000000000000<=i)(h':i<=1000000000000000000000000000000000):Any μ (.int i):=.int (by unfold bz;omega)
theorem EJ {μ:Mu}{o:Option Int}(h:∀ i,o=some i->lT i):Any μ (oD o):=by
 cases o with
 | none=>exact .non
 | some i=>have:=h i rfl;exact anyI (by have:=this.l;omega) (by have:=this.u;omega)
theorem nuA {μ:Mu}{i:Int}(h:lT i):Any μ (.int i):=anyI (by have:=h.l;omega) (by have:=h.u;omega)
theorem cm {μ:Mu}{ds:List D}(h:∀ d∈ds,Any μ d)(hl:ds.length<=1000:=by simp):Any μ (.tup ds):=.tup h hl
theorem E3 {μ:Mu}{z:Str}(h:soB (.str z)=true):Any μ (.str z):=by
 have h:(decide (z=Nr "line") || decide (z=Nr "turns"))=true:=h
 rw[UP,decide_eq_true_eq,decide_eq_true_eq] at h
 rcases h with rfl | rfl<;>exact .str (by decide +kernel) (by decide +kernel)
theorem WT.any {μ:Mu}{w:WT}(h:w.Ok)(hb:cR w.toD=true):Any μ w.toD:=by
 have hb:(nmS w.nm&&(wiI 1 20 (.int w.p)&&(wiI 1 60 (.int w.r)&&(nwB 60 (oD w.m)&&soB (.str w.so)))))=true:=hb
 simp only[Nz] at hb
 exact cm (ai (dM hb.1) (ai (nuA h.p) (ai (nuA h.r) (ai (EJ h.m) (ai (E3 hb.2.2.2.2) aK)))))
theorem fgA {μ:Mu}{d:D}(h:ka d):Any μ d:=by
 rcases h with ⟨i,rfl,h0,h1⟩ | ⟨a,b,rfl,⟨a0,a1⟩,b0,b1⟩
 ·exact anyI (by omega) (by omega)
 ·exact cm (ai (anyI (by omega) (by omega)) (ai (anyI (by omega) (by omega)) aK))
theorem BP {μ:Mu}{w:Str}(h:w∈dh):Any μ (.str w):=by
 simp only[dh,NT,Oy,or_false] at h
 rcases h with rfl | rfl | rfl | rfl | rfl<;>exact .str (by decide +kernel) (by decide +kernel)
theorem yH {w:Str}{xs:List D}(h:bM (.tup (.str w::xs))=true):w∈dh:=by
 rw[fk,Nz] at h
 cases e:bH fi w with
 | none=>rw[e] at h;cases h.1
 | some d=>
  rcases Eh e with ⟨rfl,_⟩ | ⟨h4,_⟩ | ⟨rfl,_⟩
  ·simp[dh]
  ·exact y4 h4
  ·simp[dh]
theorem ruA {μ:Mu}{w:Str}{ps:List D}(h:bM (.tup (.str w::ps))=true)(hp:∀ d∈ps,ka d)(hl:ps.length<=6):Any μ (.tup (.str w::ps)):=cm (ai (BP (yH h)) λd hd=>fgA (hp d hd)) (by simp;omega)
theorem tG {ns:List Str}{s:ST'}(h:aX ns s.toD=true):nmS s.nm=true/\cu ns (.tup (s.rd.map .str))=true/\wiI 1 8 (.int s.bt)=true/\wiI 0 1000000 (.int s.bg)=true/\nwB 1000000 (oD s.mn)=true/\bM (.tup (.str s.wd::s.ps))=true:=by
 have h:(nmS s.nm&&(cu ns (.tup (s.rd.map .str))&&(wiI 1 8 (.int s.bt)&&(wiI 0 1000000 (.int s.bg)&&(nwB 1000000 (oD s.mn)&&bM (.tup (.str s.wd::s.ps)))))))=true:=h
 simpa only[Nz] using h
theorem BL {ns:List Str}:∀ {b:Nat} {xs:List Str},cx ns b (xs.map .str)=true->∀ z∈xs,nmS z=true:=by
 intro b xs
 revert b
 induction xs with
 | nil=>intro _ _ z hz;cases hz
 | cons x xs ih=>
  intro b h z hz
  have h:(nmS x&&(decide (x∈ns.drop b)&&cx ns (gn ns x+1) (xs.map .str)))=true:=h
  simp only[Nz,and_assoc] at h
  rcases NT.mp hz with (rfl | hz)
  ·exact h.1
  ·exact ih h.2.2 z hz
theorem rdA {μ:Mu}{ns xs:List Str}(h:cu ns (.tup (xs.map .str))=true)(hl:xs.length<=8):Any μ (.tup (xs.map .str)):=by
 have h:(decide (xs.map D.str≠[])&&cx ns 0 (xs.map .str))=true:=h
 rw[Nz] at h
 refine cm (λd hd=>?_) (by simp;omega)
 obtain ⟨z,hz,rfl⟩:=N5.mp hd
 exact dM (BL h.2 z hz)
theorem ST'.any {μ:Mu}{ns:List Str}{s:ST'}(h:s.Ok)(hb:aX ns s.toD=true):Any μ s.toD:=by
 obtain ⟨h1,h2,_,_,_,h6⟩:=tG hb
 exact cm (ai (dM h1) (ai (rdA h2 h.rl) (ai (nuA h.b) (ai (nuA h.g) (ai (EJ h.m) (ai (ruA h6 h.p h.pl) aK))))))
theorem LV {μ:Mu}{ws:List WT}(h:∀ w∈ws,w.Ok/\cR w.toD=true)(hl:ws.length<=8):Any μ (.tup (ws.map WT.toD)):=cm (λd hd=>by obtain ⟨w,hw,rfl⟩:=N5.mp hd;exact WT.any (h w hw).1 (h w hw).2) (by simp;omega)
theorem Ls {μ:Mu}{ns:List Str}{ss:List ST'}(h:∀ s∈ss,s.Ok/\aX ns s.toD=true)(hl:ss.length<=8):Any μ (.tup (ss.map ST'.toD)):=cm (λd hd=>by obtain ⟨w,hw,rfl⟩:=N5.mp hd;exact ST'.any (h w hw).1 (h w hw).2) (by simp;omega)
theorem PT.Good.wA {μ:Mu}{p:PT}(h:p.Good):Any μ (.tup (p.ws.map WT.toD)):=LV (λw hw=>⟨h.ok.w w hw,h.w w hw⟩) h.ok.wl
theorem PT.Good.sA {μ:Mu}{p:PT}(h:p.Good):Any μ (.tup (p.ss.map ST'.toD)):=Ls (λw hw=>⟨h.ok.s w hw,h.s w hw⟩) h.ok.sl
theorem PT.Good.any {μ:Mu}{p:PT}(h:p.Good):Any μ p.toD:=cm (ai (nuA h.ok.g) (ai h.wA (ai h.sA aK)))
theorem rO {ns:List Str}{ds:List D}{d:D}(hd:d∈ds)(h:aX ns d=false):cg ns (.tup ds)=false:=by
 have:ds.all (aX ns)=false:=by
  rw[← Bool.not_eq_true,Oe]
  intro q;rw[q d hd] at h;cases h
 show (_&&(ds.all (aX ns)&&_))=false
 rw[this,NM,Od]
theorem Ep {g w s:D}(h:cg (ki w) s=false):gU (.tup [g,w,s])=false:=by
 show (_&&(_&&cg (ki w) s))=false
 rw[h,Od,Od]
theorem ui (ws:List WT):ki (.tup (ws.map WT.toD))=ws.map WT.nm:=rX ws
section
open PySem PySem.Spec PyProof PyProof.Rows L2
theorem Bv:U6 (.type "list_reverseiterator") "__len__" = pure none:=by rw[Q4,PX];kernel_rfl
theorem EH:U6 (.type "list_reverseiterator") "__length_hint__" = pure (some (.builtin "list_reverseiterator.__length_hint__")):=by rw[Q4,PX];kernel_rfl
theorem Hy:isSubtype (.type "list_reverseiterator") (.type "list_reverseiterator")=pure true:=by rw[SS];kernel_rfl
section
variable {prog:NO} {w:N0} {A:NY} {E:Nu->Nv->Prop} {s:Nv}
theorem Dy {r:Addr}{Q:Bool->Nv->Prop}(ty:s.TypeIs (.ref r) "list_reverseiterator")(h:Q false s):NL (NS prog w) A (Pc (.ref r)) Q E s:=by
 unfold Pc -- no len,a hint that is silent
 refine wpAny_bind (Q3 ty Bv (show NL _ _ (specialOf (.ref r) (Nr "__length_hint__") >>= _) _ _ _ from wpAny_bind (Q3 ty EH ?_)))
 generalize hid:("list_reverseiterator.__length_hint__" : String)=nm
 wp_delta
 rw[show splitId nm=some ("list_reverseiterator", "__length_hint__") by subst hid;decide +kernel]
 subst hid
 exact wpAny_bind (PK (T := "list_reverseiterator") (b:=true) ty Hy (wpAny_pure h))
theorem zr {items acc:Array Nu}(h:UX (λi v=>items[items.size - 1 - i]? = some v) acc items.size):acc.toList=items.toList.reverse:=by
 obtain ⟨h1,h2⟩:=h
 apply QA
 intro i
 by_cases q:i < items.size
 ·have e:=N9 (xs:=acc) (i:=i) (by omega)
  have e2:=h2 i _ e
  rw[Oz,e,List.getElem?_reverse (by simpa using q),Oa,Oz,e2]
 ·rw[Oz,OS (by omega),PY (by rw[Qb,Oa];omega)]
theorem vC {I l:Addr}{items:Array Nu}{Q:List Nu->Nv->Prop}(hA:A.handled=none)(ne:l≠I)(hit:s.heap.IsRevIter I l ((items.size:Int) - 1))(hl:s.heap.IsList l items)(zs:items.size<=sizeLine)
  (h:∀ (g:Heap) tk (acc:Array Nu),(∀ b o,b≠I->s.heap.get? b=some o->g.get? b=some o)->acc.toList=items.toList.reverse->Q acc.toList { s with heap:=g,toks:=tk }):NL (NS prog w) A (UY (.ref I)) Q E s:=by
 have lI:I < s.heap.objs.size:=let ⟨_,e,_⟩:=hit;NG e
 have ll:l < s.heap.objs.size:=let ⟨_,e,_⟩:=hl;NG e
 unfold UY
 refine wpAny_bind (SQ (run_plain SA Sz (wpAny_bind (OA (wpAny_pure ⟨Pz QB _,run_plain QB Um ?_⟩)))))
 have new:(s.heap.push { cls:=.type "list", data:=.seq #[] }).get? s.heap.objs.size=some { cls:=.type "list", data:=.seq #[] }:=NH _ rfl
 have Fv:(s.heap.push { cls:=.type "list", data:=.seq #[] }).IsRevIter I l ((items.size:Int) - 1):=hit.at λo e=>Nw _ e
 have hl1:(s.heap.push { cls:=.type "list", data:=.seq #[] }).IsList l items:=hl.at λo e=>Nw _ e
 refine (show NL _ A.in1 (OP (.ref s.heap.objs.size) (.ref I) (.ref s.heap.objs.size)) _ _ _ from ?_)
 unfold OP -- no list of its own kind
 refine wpAny_bind (wpAny_typeOf (T := "list_reverseiterator") Fv.typeIs ?_)
 have other:PB (.ref s.heap.objs.size) (.ref I)=false:=by simp[PB,Qr lI]
 rw[if_neg (show ¬ _ by rw[other];decide)]
 refine wpAny_bind (wpAny_pyIter_revIter Fv (wpAny_bind (wpAny_holding (Dy Fv.typeIs (Q5 (λz=>absurd z (by decide)) λ_=>wpAny_pure ⟨Pz F.plain_extend_loop _,?_⟩)))))
 have W:=Walks.listRev (prog:=prog) (w:=w) (A:=A.in1) hA I l ne items
 refine SU W.toS zs s.heap.objs.size (by simp only[NT,Oy,or_false,not_or];exact ⟨Qr lI,Qr ll⟩) _ items.size 0 _ #[] 0 rfl (OM _) ⟨OM _,by simpa using Fv,hl1⟩ new (VM _) λs' acc' c' hm l1 it=>?_
 rw[Vs hm]
 refine wpAny_bind (U3 l1 (wpAny_pure (h s'.heap s'.toks acc' (λb o hb e=>hm.heap b o (λz=>?_) (Nw _ e)) (zr it))))
 rcases NT.mp z with z | z
 ·exact absurd z (NP (NG e))
 ·exact hb (NK.mp z)
theorem zT {I l:Addr}{items:Array Nu}{Q:Nu->Nv->Prop}(hA:A.handled=none)(ne:l≠I)(hit:s.heap.IsRevIter I l ((items.size:Int) - 1))(hl:s.heap.IsList l items)(zs:items.size<=sizeLine)
  (hQ:∀ (g:Heap) tk (acc:Array Nu),(∀ b o,b≠I->s.heap.get? b=some o->g.get? b=some o)->acc.toList=items.toList.reverse->Q (.ref g.objs.size) { s with heap:=g.push { cls:=.type "tuple", data:=.seq acc },toks:=tk }):NL (NS prog w) A (call (.type "tuple") [.ref I]) Q E s:=by
 have isr:s.TypeIs (.ref I) "list_reverseiterator" := hit.typeIs
 have made:Pt (NS prog w) A.in1 (.call (.builtin "tuple.__new__") ⟨[.type "tuple", .ref I],[]⟩) (Vj (λobj s₁=>s₁.TypeIs obj "tuple" /\ Q obj s₁) E) s:=by
  refine codeAny_of_tree (wpAny_bind (PN (F.newCall_tuple_1 _) (wpAny_pure ⟨Pz Ur _,run_plain Ur F.entry_tuple_new ?_⟩)))
  have u1:=sub_tuple_self
  have u2:=init_tuple_lookup
  have u3:=madeHere_tuple
  wp_walk using wpAny_typeOf isr,vC (A:=A.in1.in1) hA ne hit hl zs
  intro g tk acc kp its
  have whole:acc.toList.toArray=acc:=SX
  have few:acc.toList.toArray.size<=sizeLine:=by have:=congrArg PM its;rw[Qb,Oa,Oa] at this;rw[whole,this];exact zs
  have end':NL (NS prog w) A.in1.in1 (Ox acc.toList.toArray) (λv s'=>Vj (λobj s₁=>s₁.TypeIs obj "tuple" /\ Q obj s₁) E (.ok (.ret v)) s') (λe s'=>Vj (λobj s₁=>s₁.TypeIs obj "tuple" /\ Q obj s₁) E (.error e) s') { s with heap:=g,toks:=tk }:=by
   unfold Ox;exact OA (by rw[whole];exact ⟨⟨_,NH _ rfl,rfl⟩,hQ g tk acc kp its⟩) few
  exact (show NL _ _ (Ox acc.toList.toArray >>= λv=>ret v) _ _ _ from wpAny_bind (OQ end' (λv s' h=>wpAny_pure h) λ_ _ h=>h))
 exact callType_codes SY (F.typeCall_tuple_1 _) F.entry_object_init made λobj s₁ h₁=>⟨h₁.1,F.args_object_init_2 obj _,object_init_meets SY.init.lookup SY.made (by decide) prog w A.in1 _ s₁ ⟨h₁.1,rfl,h₁.2⟩⟩
end
section
variable {X:Cx} {e:NX} {x y:Str} {p p' pos cpos:Pos}
theorem CM {vs:List V}{us:List Nu}(r:Vals vs us):Vals vs.reverse us.reverse:=by
 induction r with
 | nil=>exact .nil
 | cons h _ ih=>rw[Pu,Pu];exact ih.append (.cons h .nil)
theorem zp {te:TE}(hc:X.calm=true)(hg:Gl X x)(hm:X.mg x=none)(hv:N4 x=some (.type "tuple"))(hg':Gl X y)(hm':X.mg y=none)(hv':N4 y=some (.type "reversed"))(ho:PE X e te)
  (hn:x ≠ "__name__" := by decide) (hdb:(x == ("__debug__" : Str))=false:=by decide) (hn':y ≠ "__name__" := by decide) (hdb':(y == ("__debug__" : Str))=false:=by decide)
  (he:Nx [e] X.env=(false,OF e X.env)::Nx [] X.env:=by rfl) (hpl:(N8 cpos (Nx [] X.env)).any (·.1)=false:=by rfl) (hnil:N8 cpos (Nx [] X.env)=[]:=by rfl)
  (he':Nx [.Call (.Name y p') [e] [] cpos] X.env=(false,OF (.Call (.Name y p') [e] [] cpos) X.env)::Nx [] X.env:=by rfl) (hpl':(N8 pos (Nx [] X.env)).any (·.1)=false:=by rfl) (hnil':N8 pos (Nx [] X.env)=[]:=by rfl) :
  PE X (.Call (.Name x p) [.Call (.Name y p') [e] [] cpos] [] pos) (λσ H Q=>te σ H λv H1=>∃ (l:Addr) (ys:List V),v=.ref l/\SqL X.K H1 l ys/\∀ z,H1 z=none->Q (.ref z) (upd H1 z (.tup ys.reverse))):=by
 intro pins s σ H Q I h
 refine OL (gy I hg hm hv ?_ hn hdb)
 refine OO ?_ he' hpl'
 rw[he',show (false,OF (.Call (.Name y p') [e] [] cpos) X.env)::Nx [] X.env=(false,OF (.Call (.Name y p') [e] [] cpos) X.env)::Nx [] X.env from rfl]
 show NL _ _ (S2 ((false,OF _ X.env)::N8 pos (Nx [] X.env))) _ _ s
 rw[hnil']
 refine Pj (OL (gy I hg' hm' hv' (OO ?_ he hpl) hn' hdb'))
 rw[he]
 show NL _ _ (S2 ((false,OF _ X.env)::N8 cpos (Nx [] X.env))) _ _ s
 rw[hnil]
 refine Pj (thn (ho pins s σ H _ I h) λv s1 ⟨w1,H1,I1,r1,l,ys,ey,sq,q⟩=>Pr ?_)
 subst ey
 cases (show v=OK l from r1)
 obtain ⟨its,rv,pl,hz⟩:=I1.list sq
 refine call_reversed_list pl.isList (Pr ?_)
 have ll:l < s1.heap.objs.size:=let ⟨_,e,_⟩:=pl.isList;NG e
 refine zT (A:=X.A) (I:=s1.heap.objs.size) (l:=l) (items:=its.toArray) (I1.ok.hd hc) (NP ll) ⟨_,NH _ rfl,rfl,rfl⟩ (pl.isList.at λo e=>Nw _ e) (by rw[NJ,← rv.length];exact hz) λg tk acc kp ea=>?_
 have I2:Inv X pins σ H1 { s1 with heap:=g,toks:=tk }:=I1.kept (t':=tk) λb o e=>kp b o (NP (NG e)) (Nw _ e)
 refine ⟨.ref g.objs.size,_,I2.laid (t':=tk) (o:=.tup ys.reverse) (λb o e=>Nw _ e) (NN _) ⟨by rw[Qb];exact hz,acc.toList,?_,by rw[SX];exact qS.new g acc⟩,rfl,q _ (I2.hok.fresh (NN _))⟩
 rw[ea]
 exact CM rv
def rE (Te:ETr):ETr:=λρ μ Q=>Te ρ μ λx μ1=>kLz x λxs=>Q (.tup xs.reverse) μ1
theorem DpL.rev {K:Nt}{H:Hp}:∀ {xs:List V} {ds:List D},DpL K H xs ds->DpL K H xs.reverse ds.reverse
 | _,_,.nil=>.nil
 | _,_,.cons h l=>by rw[Pu,Pu];exact (DpL.rev l).append (.cons h .nil)
theorem AM {Te:ETr}(hc:X.calm=true)(hg:Gl X x)(hm:X.mg x=none)(hv:N4 x=some (.type "tuple"))(hg':Gl X y)(hm':X.mg y=none)(hv':N4 y=some (.type "reversed"))(ho:LE X e Te)
  (hn:x ≠ "__name__" := by decide) (hdb:(x == ("__debug__" : Str))=false:=by decide) (hn':y ≠ "__name__" := by decide) (hdb':(y == ("__debug__" : Str))=false:=by decide)
  (he:Nx [e] X.env=(false,OF e X.env)::Nx [] X.env:=by rfl) (hpl:(N8 cpos (Nx [] X.env)).any (·.1)=false:=by rfl) (hnil:N8 cpos (Nx [] X.env)=[]:=by rfl)
  (he':Nx [.Call (.Name y p') [e] [] cpos] X.env=(false,OF (.Call (.Name y p') [e] [] cpos) X.env)::Nx [] X.env:=by rfl) (hpl':(N8 pos (Nx [] X.env)).any (·.1)=false:=by rfl) (hnil':N8 pos (Nx [] X.env)=[]:=by rfl) :
  LE X (.Call (.Name x p) [.Call (.Name y p') [e] [] cpos] [] pos) (rE Te):=by
 obtain ⟨te,pe,se⟩:=ho.ex
 refine ⟨_,zp hc hg hm hv hg' hm' hv' pe hn hdb hn' hdb' he hpl hnil he' hpl' hnil',λσ H ρ μ Q Q' rl h k=>se σ H ρ μ _ _ rl h λv H1 dx μ1 t1 m1 p1 h1=>?_⟩
 cases p1 with
 | @ls q xs ds sq l=>
  refine ⟨q,xs,rfl,sq.sq,λz hz=>?_⟩
  have tn:Tk H1 (L2.upd H1 z (.tup xs.reverse)):=.new hz
  exact k _ _ _ μ1 (t1.trans tn) (di m1 hz) (.tup (SqT.of aP) (l.mono tn).rev) h1
 | _=>exact Ny h1
theorem Am (a:ETr)(ρ:ST)(μ:Mu)(Q:DK):rE a ρ μ Q=a ρ μ λx μ1=>kLz x λxs=>Q (.tup xs.reverse) μ1:=propext NA
end
end
end L3
namespace Kk
local macro_rules | `(tactic| walk_at "ln")=>`(tactic| (intro ds μ Q h;split at h;rfl;exact h.elim))
open PySem L3
def Nj:=Jn @Am <| @Li
local macro_rules | `(tactic| walk_at "go")=>zzS "↓Kk.Nj L3.Jg ↓L3.yB ↓L3.tJ ↓L3.BY ↓L3.C4 ↓L3.Hi ↓L3.GY ↓L3.G2 ↓L3.Hg ↓L3.Hh ↓L3.G8 ↓L3.qT ↓L3.kz L3.dm L3.cO L3.dQ L3.dJ L3.dq L3.dF L3.eJ L3.eM L3.cM L3.dP L3.dI L3.dD L3.dE L3.eL L3.dk L3.eT L3.du L3.eP L3.dN L3.eR L3.mh L3.ux L3.pW L3.vf L3.mB L3.tY L3.qv L3.tX L3.nL L3.uj L3.qc L3.uY L3.nI L3.vh L3.pU L3.vm L3.mW L3.t8 L3.qp L3.uW L3.oH L3.uk L3.qj L3.uG L3.mG L3.uI L3.pZ L3.vt L3.mQ L3.kc List.map_cons List.map_nil List.replicate List.cons_append List.nil_append L3.lk L3.Ir L3.HN L3.Jz L3.II L3.Iv L3.JN L3.qI L3.nQ L3.lr L3.kW L3.Br L3.Dm L3.yp L3.mj L3.jU L3.rq L3.xG L3.wN L3.sM L3.qU L3.r8 L3.sL true_and and_true and_self Bool.not_true Bool.not_false decide_true decide_false Bool.or_true Bool.or_false Bool.true_or Bool.false_or Bool.and_false Bool.false_and Bool.and_true Bool.true_and Int.reduceToNat Int.reducePow Int.reduceNeg Int.reduceSub Int.reduceAdd Int.reduceMul Int.reduceEq Int.reduceLT Int.reduceLE Int.reduceBEq L3.nt L3.iO L3.iI L3.iK L3.iJ L3.iL L3.iH L3.iM if_true if_false Bool.false_eq_true reduceCtorEq decide_eq_true_eq"
local macro_rules | `(tactic| walk_at "ok")=>`(tactic| (simp only[L3.ie,L3.MulOk,L3.S64,L3.bz,L3.oJ] at *;omega))
local macro_rules | `(tactic| walk_at "ini")=>`(tactic| simp only[ini,List.map,List.length,List.replicate,Nat.reduceSub,Nat.reduceAdd,Nat.sub_self,List.cons_append,List.nil_append,List.append_nil])
abbrev gF:FSp:=L3.aw
def mL:STr:=aE (aQ (ao gj (ao aH (ao aH (ao gG (ao L3.rIx (ah 0) (TC (.int 1))) (TC (.int 48271))) (ao gG (TC (.int 8191)) (ao L3.rIx (ah 0) (TC (.int 2))))) (TC (.int 17))) (TC (.int 2147483647))) (az 3)) (aE (fb (ah 0) (TC (.int 1)) (ao gj (ao aH (ao gG (ah 3) (ah 3)) (ao L3.rIx (ah 0) (TC (.int 2)))) (TC (.int 2147483629)))) (aR (ao gj (ao g5 (ao L3.rIx (ah 0) (TC (.int 1))) (TC (.int 13))) (ah 1))))
def vN:STr:=aE (bF (TB (ao rGt (ao L3.rIx (ah 0) (TC (.int 0))) (TC (.int 0)))) (aE (aQ (ao gj (ao L3.rIx (ah 0) (TC (.int 0))) (ah 1)) (az 2)) (aE (fb (ah 0) (TC (.int 0)) (ao g5 (ao L3.rIx (ah 0) (TC (.int 0))) (ah 1))) (aR (ah 2)))) (aU)) (aE (fb (ah 0) (TC (.int 2)) (ao aH (ao L3.rIx (ah 0) (TC (.int 2))) (TC (.int 1)))) (mL))
theorem pk:∀ ds μ Q,gF ds μ Q->ds.length=2:=L3.AG
theorem rf:∀ ds μ Q,gF ds μ Q->vN { nx:=λ_ μ'=>RT Q .non μ',rt:=RT Q } (ini 4 ds) μ:=L3.CH
abbrev gB:FSp:=L3.iw
def oo:STr:=aE (bF (TB (ao rEq (ah 2) (TC (.str "still")))) (aR (aG (ae (ah 2) (ae (ah 4) (ak))))) (aU)) (aE (aQ (ar L3.dX (ae (ao aH (TC (.int 1)) (ar L3.aw (ae (ah 0) (ae (TC (.int 6)) (ak))))) (ae (ao aH (TC (.int 1)) (ar L3.aw (ae (ah 0) (ae (TC (.int 3)) (ak))))) (ak)))) (az 5)) (aE (aQ (ao L3.rIx (bR (ae (aG (ae (TC (.int 1)) (ae (TC (.int 2)) (ak)))) (ae (aG (ae (TC (.int 2)) (ae (TC (.int 3)) (ak)))) (ae (aG (ae (TC (.int 1)) (ae (TC (.int 7)) (ak)))) (ae (aG (ae (TC (.int 7)) (ae (TC (.int 8)) (ak)))) (ak)))))) (ar L3.aw (ae (ah 0) (ae (TC (.int 4)) (ak))))) (az 6)) (aE (bF (TB (ao rEq (ah 2) (TC (.str "swell")))) (aR (aG (ae (ah 2) (ae (ah 4) (ae (ar L3.dX (ae (ao aH (ao L3.rIx (ah 5) (TC (.int 0))) (ao L3.rIx (ah 5) (TC (.int 1)))) (ae (ao L3.rIx (ah 5) (TC (.int 1))) (ak)))) (ae (ah 6) (ae (ah 3) (ak)))))))) (aU)) (aE (bF (TB (ao rEq (ah 2) (TC (.str "heed")))) (aR (aG (ae (ah 2) (ae (ah 4) (ae (ah 5) (ae (ao L3.rIx (bR (ae (ah 6) (ae (aG (ae (TC (.int 1)) (ae (TC (.int 1)) (ak)))) (ae (aG (ae (TC (.int 1)) (ae (TC (.int 16)) (ak)))) (ak))))) (ar L3.aw (ae (ah 0) (ae (TC (.int 3)) (ak))))) (ae (ah 3) (ak)))))))) (aU)) (aE (bF (TB (ao rEq (ah 2) (TC (.str "calm")))) (aE (aQ (ar L3.aw (ae (ah 0) (ae (TC (.int 5)) (ak)))) (az 7)) (aR (aG (ae (ah 2) (ae (ah 4) (ae (ah 5) (ae (ah 7) (ae (ao aH (ah 7) (ar L3.aw (ae (ah 0) (ae (TC (.int 5)) (ak))))) (ae (ah 3) (ak)))))))))) (aU)) (aR (aG (ae (ah 2) (ae (ah 4) (ae (ah 5) (ae (ah 6) (ae (ah 3) (ak)))))))))))))
def vP:STr:=aE (aQ (ao L3.rIx (bR (ae (TC (.str "still")) (ae (TC (.str "step")) (ae (TC (.str "swell")) (ae (TC (.str "heed")) (ae (TC (.str "calm")) (ak))))))) (ar L3.aw (ae (ah 0) (ae (TC (.int 5)) (ak))))) (az 2)) (aE (aQ (ar L3.bV (ae (ah 0) (ae (TC (.int 1)) (ae (ah 1) (ak))))) (az 3)) (aE (aQ (ar L3.bV (ae (ah 0) (ae (TC (.int 1)) (ae (ao g5 (ao L3.rIx (ah 3) (TC (.int 0))) (ao L3.rIx (ah 3) (TC (.int 1)))) (ak))))) (az 4)) (oo)))
theorem pS:∀ ds μ Q,gB ds μ Q->ds.length=2:=L3.Ar
theorem sF:∀ ds μ Q,gB ds μ Q->vP { nx:=λ_ μ'=>RT Q .non μ',rt:=RT Q } (ini 8 ds) μ:=L3.DO
abbrev fc:FSp:=L3.fe
def kf:STr:=aE (aQ (ao L3.rIx (bR (ae (ao aH (TC (.int 1)) (ar L3.aw (ae (ah 0) (ae (TC (.int 3)) (ak))))) (ae (ao aH (TC (.int 1)) (ar L3.aw (ae (ah 0) (ae (TC (.int 8)) (ak))))) (ak)))) (ao g5 (ar L3.aw (ae (ah 0) (ae (TC (.int 6)) (ak)))) (TC (.int 5)))) (az 5)) (aE (aQ (ao L3.rIx (bR (ae (TC .non) (ae (ar L3.aw (ae (ah 0) (ae (TC (.int 25)) (ak)))) (ak)))) (ar L3.aw (ae (ah 0) (ae (TC (.int 2)) (ak))))) (az 6)) (aR (aG (ae (ah 1) (ae (ah 4) (ae (ah 5) (ae (ar L3.aw (ae (ah 0) (ae (TC (.int 4)) (ak)))) (ae (ah 6) (ae (ar L3.iw (ae (ah 0) (ae (ah 3) (ak)))) (ak))))))))))
def pM:STr:=aE (aQ (ar d9 (ae (df (iT (ah 2)) (az 0) (TB (ao rGt (ar L3.aw (ae (ah 1) (ae (TC (.int 3)) (ak)))) (TC (.int 0)))) (ao L3.rIx (ah 0) (TC (.int 0))) 1 [0]) (ak))) (az 4)) (aE (bF (TB (ao rEq (ah 4) (aG (ak)))) (aQ (aG (ae (ao L3.rIx (ao L3.rIx (ah 2) (ar L3.aw (ae (ah 0) (ae (ar cX (ae (ah 2) (ak))) (ak))))) (TC (.int 0))) (ak))) (az 4)) (aU)) (kf))
theorem lP:∀ ds μ Q,fc ds μ Q->ds.length=4:=L3.um
theorem oO:∀ ds μ Q,fc ds μ Q->pM { nx:=λ_ μ'=>RT Q .non μ',rt:=RT Q } (ini 7 ds) μ:=L3.xS
theorem z7 {ns:List Str}{d:D}(h:nmB d=false):∀ (ds:List D) (b:Nat),d∈ds->cx ns b ds=false:=by
 intro ds
 induction ds with
 | nil=>intro b hd;cases hd
 | cons x r ih=>
  intro b hd
  rcases NT.mp hd with e | hd'
  ·subst e;exact u5 h
  ·cases x with
   | str z=>simp only[cx,ih _ hd',Od]
   | _=>rfl
theorem kn {ns:List Str}{ds:List D}{d:D}(hd:d∈ds)(h:nmB d=false):cu ns (.tup ds)=false:=by
 simp only[cu,z7 h ds 0 hd,Od]
theorem D1 {ns:List Str}{z:Str}(nd:ns.Nodup):∀ {b:Nat},z∈ns.drop b->b<=gn ns z:=by
 intro b h
 unfold gn
 by_cases q:b<=ns.findIdx λy=>decide (y=z)
 ·exact q
 ·exfalso
  have hz:=ON h
  have lt:(ns.findIdx λy=>decide (y=z)) < ns.length:=OX ⟨z,hz,by simp⟩
  have ez:ns[ns.findIdx λy=>decide (y=z)]=z:=by
   have:=List.findIdx_getElem (w:=lt)
   simpa using this
  have ht:z∈ns.take b:=by
   rw[List.mem_take_iff_getElem]
   exact ⟨_,by omega,ez⟩
  rw[← SF b ns] at nd
  exact (O5.mp nd).2.2 z ht z h rfl
theorem AA {ns:List Str}(nd:ns.Nodup){z:Str}:∀ (ds:List D) (b:Nat),cx ns b ds=true->D.str z∈ds->b<=gn ns z/\z∈ns:=by
 intro ds
 induction ds with
 | nil=>intro b _ hd;cases hd
 | cons x r ih=>
  intro b h hd
  cases x with
  | str y=>
   simp only[cx,Nz,decide_eq_true_eq] at h
   have p1:=D1 nd h.2.1
   rcases NT.mp hd with e | hd
   ·cases e;exact ⟨p1,ON h.2.1⟩
   ·have:=ih _ h.2.2 hd;exact ⟨by omega,this.2⟩
  | _=>cases h
theorem fg {ns:List Str}(nd:ns.Nodup){y z:Str}{r:List D}(hr:D.str y∈r)(h:gn ns y<=gn ns z):cu ns (.tup (.str z::r))=false:=by
 cases q:cx ns 0 (.str z::r) with
 | false=>simp only[cu,q,Od]
 | true=>
  exfalso
  simp only[cx,Nz] at q
  have:=(AA nd r _ q.2.2 hr).1
  omega
theorem C1 {ns:List Str}{z y:Str}(nd:ns.Nodup)(hz:ns.getLast? = some z)(hy:y∈ns):gn ns y<=gn ns z:=by
 have ne:ns≠[]:=λe=>by rw[e] at hz;cases hz
 have e:=Q6 ne
 have e1:ns.getLast ne=z:=by rw[QV ne] at hz;exact Oc hz
 rw[e1] at e
 have nz:z ∉ ns.dropLast:=λh=>by
  rw[← e] at nd
  exact (O5.mp nd).2.2 z h z (by simp) rfl
 have pz:gn ns z=ns.dropLast.length:=by
  have no:ns.dropLast.findIdx (λy=>decide (y=z))=ns.dropLast.length:=Sj.mpr λy hy=>decide_eq_false λq=>nz (q ▸ hy)
  unfold gn
  conv=>lhs;rw[← e]
  rw[Tg,no,if_neg (Px _),Up]
  simp
 have lt:gn ns y < ns.length:=OX ⟨y,hy,by simp⟩
 rw[pz,List.length_dropLast]
 omega
theorem L5:nmS (Nr "zzzzzzzzz")=false:=by decide +kernel
theorem La (z:Str):nmS (z++Nr "Z")=false:=by
 cases q:nmS (z++Nr "Z") with
 | false=>rfl
 | true=>
  exfalso
  have e:(Nr "Z").cps.toList=[90]:=by decide +kernel
  have:=(dG q).2 90 (by rw[app_list,e];simp)
  omega
theorem Ma (z:Str):nmS (z++Nr "A")=false:=by
 cases q:nmS (z++Nr "A") with
 | false=>rfl
 | true=>
  exfalso
  have e:(Nr "A").cps.toList=[65]:=by decide +kernel
  have:=(dG q).2 65 (by rw[app_list,e];simp)
  omega
theorem Mj {μ:Mu}{x y:Str}(hx:nmS x=true)(hy:∀ c∈y.cps.toList,c < 128)(hl:y.length<=900):Any μ (.str (x++y)):=anyS (λc hc=>by
 rw[app_list] at hc
 rcases N1.mp hc with h | h
 ·have:=(dG hx).2 c h;omega
 ·exact hy c h) (by rw[yO];have:=(dG hx).1;omega)
theorem ED {α:Type}{xs:List α}{lo hi:Option Int}{d:α}(h:d∈cutD xs lo hi):d∈xs:=ON (QW h)
theorem Bo (zs:List Str):∀ c∈(RW (Nr "") zs).cps.toList,∃ z∈zs,c∈z.cps.toList:=by
 induction zs with
 | nil=>intro c hc;exact absurd hc (by have:(RW (Nr "") []).cps.toList=[]:=rfl;rw[this];simp)
 | cons x r ih=>
  intro c hc
  cases r with
  | nil=>exact ⟨x,NB,hc⟩
  | cons y r=>
   have e:RW (Nr "") (x::y::r)=x++Nr "" ++ RW (Nr "") (y::r):=rfl
   rw[e,app_list,app_list] at hc
   have e0:(Nr "").cps.toList=[]:=by decide +kernel
   rw[e0,OC] at hc
   rcases N1.mp hc with h | h
   ·exact ⟨x,NB,h⟩
   ·obtain ⟨z,hz,hc⟩:=ih c h
    exact ⟨z,NF _ hz,hc⟩
theorem EL {xs:List Str}{z:Str}(h:xs.getLast? = some z):atD (xs.map D.str) (-1)=some (.str z):=by
 have ne:xs≠[]:=λe=>by rw[e] at h;cases h
 have l0:0 < xs.length:=Q8.mpr ne
 unfold atD L2.atI L2.ixN
 rw[NC,if_neg (by omega),if_pos (by omega)]
 show (xs.map D.str)[(-1+(xs.length:Int)).toNat]? = _
 rw[show (-1+(xs.length:Int)).toNat=xs.length - 1 by omega,Of]
 rw[List.getLast?_eq_getElem?] at h
 rw[h];rfl
def eQ:FSp:=λds μ Q=>kcO ds λb ds=>kcT ds λxs ds=>kcL ds λys ds=>kcN ds (∃ (rd ns:List Str),(Box μ b/\xs=rd.map .str/\ys=ns.map .str/\rd≠[]/\rd.Sublist ns/\ns.Nodup/\(∀ z∈ns,nmS z=true)/\ns.length<=6)/\∀ d μ',Any μ' d->cu ns d=false->Box μ' b->Q d μ')
theorem oT:∀ ds μ Q,eQ ds μ Q->ds.length=3:=λ_ _ _ h=>lcO h λ_ _ h=>lcT h λ_ _ h=>lcL h λ_ _ h=>by rw[(ecN h).1];rfl
def kQ:STr:=aE (aQ (bR (ae (aG (ak)) (ae (ar fB (ae (ah 1) (ak))) (ae (ao aH (ah 1) (aG (ae (ao L3.rIx (ah 1) (TC (.int 0))) (ak)))) (ae (aG (ae (ao L3.rIx (ah 1) (TC (.int 0))) (ae (ao L3.rIx (ah 1) (TC (.int 0))) (ak)))) (ae (ao aH (ah 1) (aG (ae (TC (.str "zzzzzzzzz")) (ak)))) (ae (TC .non) (ae (ao L3.rIx (ah 1) (TC (.int 0))) (ae (aG (ae (aG (ae (ao L3.rIx (ah 1) (TC (.int 0))) (ak))) (ak))) (ak)))))))))) (az 3)) (aE (aQ (ao aH (ah 3) (bR (ae (aG (ae (ao aH (ao L3.rIx (ah 1) (TC (.int 0))) (TC (.str "Z"))) (ak))) (ae (aG (ae (TC (.int 1)) (ak))) (ae (ao aH (TSl (ah 1) (ONo) (fE (TC (.int 1)))) (aG (ae (TC (.bl true)) (ak)))) (ae (rF (TC (.str "")) (ah 1)) (ak))))))) (az 3)) (aE (bF (TB (ao rGt (ar cX (ae (ah 2) (ak))) (TC (.int 1)))) (aQ (ao aH (ah 3) (bR (ae (rE (ah 2)) (ae (aG (ae (ao L3.rIx (ah 2) (TUn z6 (TC (.int 1)))) (ae (ao L3.rIx (ah 2) (TC (.int 0))) (ak)))) (ae (ao aH (ar d9 (ae (ah 2) (ak))) (aG (ae (ao L3.rIx (ah 2) (TC (.int 0))) (ak)))) (ak)))))) (az 3)) (aU)) (aR (ao L3.rIx (ah 3) (ar L3.aw (ae (ah 0) (ae (ar cX (ae (ah 3) (ak))) (ak))))))))
theorem qL:∀ ds μ Q,eQ ds μ Q->kQ { nx:=λ_ μ'=>RT Q .non μ',rt:=RT Q } (ini 4 ds) μ:=by
 intro ds μ Q h
 replace h:=ecO h
 obtain ⟨b,ds,rfl,h⟩:=h
 replace h:=ecT h
 obtain ⟨xs,ds,rfl,h⟩:=h
 replace h:=ecL h
 obtain ⟨ys,ds,rfl,h⟩:=h
 replace h:=ecN h
 obtain ⟨rfl,h⟩:=h
 walk_at "ini"
 unfold kQ
 walk_at "go"
 obtain ⟨rd,ns,⟨hB,rfl,rfl,rne,sl,nd,hn,l6⟩,k⟩:=h
 cases rd with
 | nil=>exact absurd rfl rne
 | cons z rd=>
 have hr:∀ y∈z::rd,nmS y=true:=λy hy=>hn y (sl.subset hy)
 have nz:=hr z NB
 have zin:z∈ns:=sl.subset NB
 have l8:rd.length+1<=6:=by have:=sl.length_le;simp at this;omega
 rw[N7]
 walk_at "go"
 have c1:=tQ (D.str z::rd.map D.str) none (some 1)
 rw[ND,NC] at c1
 have zl:=(dG nz).1
 have eZ:(Nr "Z").length=1:=by decide +kernel
 have e0:(Nr "").length=0:=by decide +kernel
 have Np:((z::rd).map (λx=>x.length)).sum<=48:=by
  have:=A9 (n:=8) (zs:=z::rd) λy hy=>(dG (hr y hy)).1.2
  simp only[ND] at this ⊢
  omega
 have jA:∀ μ,Any μ (.str (Txt.join (Nr "") (z::rd))):=λμ=>by
  rw[GO]
  refine anyS (λc hc=>?_) ?_
  ·obtain ⟨y,hy,hc⟩:=Bo _ c hc
   have:=(dG (hr y hy)).2 c hc;omega
  ·have h1:=StrLaws.join_length_le (Nr "") (z::rd)
   rw[e0] at h1
   simp only[VD,VE] at h1
   omega
 have zA:∀ μ,Any μ (.str z):=λμ=>dM nz
 have rA:∀ μ,∀ d∈rd.map D.str,Any μ d:=λμ d hd=>by obtain ⟨y,hy,rfl⟩:=N5.mp hd;exact dM (hr y (NF _ hy))
 have nA:∀ μ,∀ d∈ns.map D.str,Any μ d:=λμ d hd=>by obtain ⟨y,hy,rfl⟩:=N5.mp hd;exact dM (hn y hy)
 have app:∀ {μ:Mu} {xs ys:List D},(∀ d∈xs,Any μ d)->(∀ d∈ys,Any μ d)->∀ d∈xs++ys,Any μ d:=λh1 h2 d hd=>(N1.mp hd).elim (h1 d) (h2 d)
 have z9A:∀ μ,Any μ (.str "zzzzzzzzz"):=λμ=>.str (by decide +kernel) (by decide +kernel)
 have cA:∀ μ,∀ d∈cutD (D.str z::rd.map D.str) none (some 1),Any μ d:=λμ d hd=>ai (P:=Any μ) (zA μ) (rA μ) d (ED hd)
 have few:∀ {xs:List D},xs.length<=20->xs.length<=1000:=λh=>by omega
 have base:∀ μ,∀ d∈([.tup [],.ls (D.str z::rd.map D.str),.tup (D.str z::(rd.map D.str++[D.str z])),.tup [D.str z,D.str z],.tup (D.str z::(rd.map D.str++[D.str "zzzzzzzzz"])),.non,.str z,.tup [.tup [D.str z]],.tup [D.str (z++Nr "Z")],.tup [.int 1],.tup (cutD (D.str z::rd.map D.str) none (some 1)++[.bl true]),.str (Txt.join (Nr "") (z::rd))]:List D),Any μ d/\cu ns d=false:=λμ=>by
  refine ai ⟨cm aK,rfl⟩ (ai ⟨.ls _,rfl⟩ (ai ⟨cm (ai (zA μ) (app (rA μ) (ai (zA μ) aK))) ?_,fg nd (y:=z) (NR _ (by simp)) (NN _)⟩ (ai ⟨cm (ai (zA μ) (ai (zA μ) aK)),fg nd (y:=z) (by simp) (NN _)⟩ (ai ⟨cm (ai (zA μ) (app (rA μ) (ai (z9A μ) aK))) ?_,kn (d:=.str "zzzzzzzzz") (NF _ (NR _ (by simp))) L5⟩ (ai ⟨.non,rfl⟩ (ai ⟨zA μ,rfl⟩ (ai ⟨cm (ai (cm (ai (zA μ) aK)) aK),rfl⟩ (ai ⟨cm (ai (Mj nz (by decide +kernel) (by omega)) aK),kn (d:=.str (z++Nr "Z")) (by simp) (La z)⟩ (ai ⟨cm (ai (anyI (by decide) (by decide)) aK),rfl⟩ (ai ⟨cm (app (cA μ) (ai (.bl true) aK)) ?_,kn (d:=.bl true) (NR _ (by simp)) rfl⟩ (ai ⟨jA μ,rfl⟩ aK)))))))))))
  all_goals simp only[ND,NQ,Ol,NC];omega
 refine ⟨?_,?_,?_,?_,z::rd,strs_map (z::rd),?_,?_,?_⟩
 ·simp only[ND,NQ,Ol,NC];omega
 ·simp only[ND,NQ,Ol,NC];omega
 ·omega
 ·simp only[ND,Ol];omega
 ·rw[e0];simp only[VD,VE];omega
 ·simp
 refine kif (λh1=>?_) λh1=>?_
 ·rw[NC] at h1
  obtain ⟨y0,r0,rfl⟩:∃ y r,ns=y::r:=by cases ns with | nil=>simp at h1 | cons y r=>exact ⟨y,r,rfl⟩
  obtain ⟨yl,hyl⟩:∃ yl,(y0::r0).getLast? = some yl:=⟨_,List.getLast?_cons⟩
  have r0ne:r0≠[]:=λe=>by subst e;simp at h1
  have ylin:yl∈y0::r0:=List.mem_of_getLast? hyl
  rw[EL hyl]
  walk_at "go"
  refine ⟨?_,?_,?_⟩
  ·simp only[ND,Ol,NC] at l6 ⊢;omega
  ·simp
  refine ytk hB (by simp) (by simp) λk1 μ1 k10 k11 B1=>?_
  walk_at "go"
  have rev:(D.str y0::r0.map D.str).reverse=.str yl::((y0::r0).dropLast.map D.str).reverse:=by
   have e:=Q6 (show y0::r0≠[] by simp)
   have e1:(y0::r0).getLast (by simp)=yl:=by rw[QV (by simp)] at hyl;exact Oc hyl
   rw[e1] at e
   have:D.str y0::r0.map D.str=(y0::r0).map D.str:=rfl
   rw[this]
   conv=>lhs;rw[← e]
   simp
  have y0in:D.str y0∈((y0::r0).dropLast.map D.str).reverse:=by
   rw[UD]
   refine N5.mpr ⟨y0,?_,rfl⟩
   cases r0 with
   | nil=>exact absurd rfl r0ne
   | cons a c=>simp
  have p0:=C1 nd hyl (y:=y0) NB
  refine lL (P:=λd=>Any μ1 d/\cu (y0::r0) d=false) k10 k11 ?_ λx hx=>⟨_,.refl _,k x _ hx.1 hx.2 B1.box⟩
  have b1:=base μ1
  refine λd hd=>?_
  have hd:d∈([.tup [],.ls (D.str z::rd.map D.str),.tup (D.str z::(rd.map D.str++[D.str z])),.tup [D.str z,D.str z],.tup (D.str z::(rd.map D.str++[D.str "zzzzzzzzz"])),.non,.str z,.tup [.tup [D.str z]],.tup [D.str (z++Nr "Z")],.tup [.int 1],.tup (cutD (D.str z::rd.map D.str) none (some 1)++[.bl true]),.str (Txt.join (Nr "") (z::rd))]:List D)++[.tup (D.str y0::r0.map D.str).reverse,.tup [.str yl,.str y0],.tup (D.str y0::(r0.map D.str++[.str y0]))]:=hd
  rcases N1.mp hd with h | h
  ·exact b1 d h
  ·have nA':∀ d∈D.str y0::r0.map D.str,Any μ1 d:=nA μ1
   refine ai (P:=λd=>Any μ1 d/\cu (y0::r0) d=false) ⟨cm (λd hd=>nA' d (UD.mp hd)) ?_,?_⟩ (ai ⟨cm (ai (dM (hn yl ylin)) (ai (dM (hn y0 NB)) aK)),fg nd (y:=y0) (by simp) p0⟩ (ai ⟨cm (ai (nA' _ NB) (app (λd hd=>nA' d (NF _ hd)) (ai (nA' _ NB) aK))) ?_,fg nd (y:=y0) (NR _ (by simp)) (NN _)⟩ aK)) d h
   ·simp only[Qb,ND,NC] at l6 ⊢;omega
   ·rw[rev];exact fg nd y0in p0
   ·simp only[NQ,Ol,ND,NC] at l6 ⊢;omega
 ·refine ytk hB (by simp) (by simp) λk1 μ1 k10 k11 B1=>?_
  walk_at "go"
  exact lL (P:=λd=>Any μ1 d/\cu ns d=false) k10 k11 (base μ1) λx hx=>⟨_,.refl _,k x _ hx.1 hx.2 B1.box⟩
def bT:FSp:=λds μ Q=>kcO ds λb ds=>kcI ds λlo ds=>kcI ds λhi ds=>kcN ds ((Box μ b/\0<=lo/\lo<=hi/\hi<=1000000)/\∀ d μ',Any μ' d->wiI lo hi d=false->d≠.non->Box μ' b->Q d μ')
theorem lY:∀ ds μ Q,bT ds μ Q->ds.length=3:=λ_ _ _ h=>lcO h λ_ _ h=>lcI h λ_ _ h=>lcI h λ_ _ h=>by rw[(ecN h).1];rfl
def je:STr:=aE (aQ (bR (ae (ao rH (ah 1) (TC (.int 1))) (ae (ao aH (ah 2) (TC (.int 1))) (ae (TC (.bl true)) (ae (TC (.bl false)) (ae (TC (.str "1")) (ae (aG (ae (ah 1) (ak))) (ae (bR (ae (ah 2) (ak))) (ae (TUn z6 (ao ny (TC (.int 10)) (TC (.int 30)))) (ae (ao ny (TC (.int 10)) (TC (.int 30))) (ae (Ea) (ak)))))))))))) (az 3)) (aR (ao L3.rIx (ah 3) (ar L3.aw (ae (ah 0) (ae (TC (.int 10)) (ak))))))
theorem mI:∀ ds μ Q,bT ds μ Q->je { nx:=λ_ μ'=>RT Q .non μ',rt:=RT Q } (ini 4 ds) μ:=by
 intro ds μ Q h
 replace h:=ecO h
 obtain ⟨b,ds,rfl,h⟩:=h
 replace h:=ecI h
 obtain ⟨lo,ds,rfl,h⟩:=h
 replace h:=ecI h
 obtain ⟨hi,ds,rfl,h⟩:=h
 replace h:=ecN h
 obtain ⟨rfl,h⟩:=h
 walk_at "ini"
 unfold je
 walk_at "go"
 obtain ⟨⟨hB,l0,lh,h1⟩,k⟩:=h
 refine ⟨by walk_at "ok", by walk_at "ok", λq hq=>?_⟩
 have G:=GrY.new (o:=.dct []) hB hq
 walk_at "go"
 refine ytk G.1 (by decide) (by decide) λk1 μ1 k10 k11 B1=>?_
 walk_at "go"
 refine lL (P:=λd=>Any (up μ q (.dct [])) d/\wiI lo hi d=false/\d≠.non) k10 k11 ?_ λx hx=>⟨_,.refl _,k x _ (hx.1.gr G.1 (.of B1)) hx.2.1 hx.2.2 B1.box⟩
 have no:∀ {i:Int},i < lo∨hi < i->wiI lo hi (.int i)=false:=λ{i} h=>by
  simp only[wiI]
  rcases h with h | h
  ·rw[decide_eq_false (by omega),NM]
  ·rw[decide_eq_false (p:=i<=hi) (by omega),Od]
 exact ai ⟨anyI (by omega) (by omega),no (.inl (by omega)),nofun⟩ (ai ⟨anyI (by omega) (by omega),no (.inr (by omega)),nofun⟩ (ai ⟨.bl _,rfl,nofun⟩ (ai ⟨.bl _,rfl,nofun⟩ (ai ⟨.str (by decide +kernel) (by decide +kernel),rfl,nofun⟩ (ai ⟨cm (ai (anyI (by omega) (by omega)) aK),rfl,nofun⟩ (ai ⟨.ls _,rfl,nofun⟩ (ai ⟨anyI (by decide) (by decide),no (.inl (by omega)),nofun⟩ (ai ⟨anyI (by decide) (by decide),no (.inr (by omega)),nofun⟩ (ai ⟨.dct bp,rfl,nofun⟩ aK)))))))))
theorem G1 {w:Str}{d:D}{r:List D}(h:okR w (d::r)=true):∃ p q,d=.tup [.int p,.int q]:=by
 unfold okR at h
 split at h
 ·rename_i a e;cases e;exact g8 h
 ·rename_i a u g t e
  cases e
  rw[Nz] at h
  have h:=h.1
  unfold grw at h
  rw[Nz] at h
  obtain ⟨x,y,rfl⟩:=g8 h.1
  have h2:=h.2
  simp only[Nz] at h2
  exact g8 h2.1
 ·rename_i a u l hh t e
  cases e
  rw[Nz] at h
  have h:=h.1
  unfold grw at h
  rw[Nz] at h
  obtain ⟨x,y,rfl⟩:=g8 h.1
  have h2:=h.2
  simp only[Nz] at h2
  exact g8 h2.1
 ·cases h
theorem zt {w:Str}{ps:List D}(h:bM (.tup (.str w::ps))=true):∃ p q r,ps=.tup [.int p,.int q]::r:=by
 rw[fk,Nz] at h
 cases ps with
 | nil=>cases h.2
 | cons d r=>
  obtain ⟨p,q,rfl⟩:=G1 h.2
  exact ⟨p,q,r,rfl⟩
theorem Cz {w:Str}{xs r:List D}:bM (.tup (.str w::.ls xs::r))=false:=by
 rw[fk]
 cases q:okR w (.ls xs::r) with
 | false=>rw[Od]
 | true=>obtain ⟨_,_,e⟩:=G1 q;cases e
theorem xU {w:Str}{ps:List D}{d:D}(h:bM (.tup (.str w::ps))=true):bM (.tup (.str w::(ps++[d])))=false:=by
 rw[fk,Nz] at h
 rw[fk]
 have:z4 (bH fi w) (ps++[d])=false:=by
  unfold z4 at h ⊢
  cases e:bH fi w with
  | none=>rfl
  | some x=>
   rw[e] at h
   have h:=h.1
   cases x with
   | int n=>
    simp only[lr,decide_eq_true_eq] at h
    simp only[lr]
    refine decide_eq_false ?_
    rw[NQ,Pl]
    omega
   | _=>rcases Eh e with ⟨_,h⟩ | ⟨_,h⟩ | ⟨_,h⟩ <;> cases h
 rw[this,NM]
def Ld:List D:=[.tup [.str "still", .tup [.int 1,.int 2]],.tup [.str "still", .int 3],.tup [.str "still", .tup [.int 2,.int 2]],.tup [.str "still", .tup [.int 61,.int 1]]]
theorem FE:Ld.all (λd=>!bM d)=true:=by decide +kernel
def K7:List D:=[.tup [.str "step", .tup [.int 3,.int 1],.tup [.int 1,.int 1],.tup [.int 1,.int 1],.tup [.int 9,.int 1]],.tup [.str "step", .tup [.int 3,.int 1],.tup [.int 0,.int 1],.tup [.int 1,.int 2],.tup [.int 9,.int 1]],.non,.str "still", .tup [.str "swell", .tup [.int 3,.int 1],.tup [.int 1,.int 1],.tup [.int 1,.int 2],.tup [.int 9,.int 1]],.tup [.str "step", .tup [.int 9,.int 1],.tup [.int 1,.int 1],.tup [.int 1,.int 2],.tup [.int 8,.int 1]],.tup []]
theorem GH:K7.all (λd=>!bM d)=true:=by decide +kernel
def Lo:List D:=[.tup [.str "heed", .tup [.int 3,.int 1],.tup [.int 1,.int 1],.tup [.int 0,.int 1],.tup [.int 9,.int 1]],.tup [.str "calm", .tup [.int 3,.int 1],.tup [.int 1,.int 1],.int 3,.int 2,.tup [.int 9,.int 1]]]
theorem GB:Lo.all (λd=>!bM d)=true:=by decide +kernel
def Lu:List D:=[.tup [.str "calm", .tup [.int 3,.int 1],.tup [.int 1,.int 1],.bl true,.int 2,.tup [.int 9,.int 1]]]
theorem Ez:Lu.all (λd=>!bM d)=true:=by decide +kernel
def uz:Nat->D->Bool
 | _,.non=>true
 | _,.bl _=>true
 | _,.int i=>decide (-1000<=i)&&decide (i<=1000)
 | _,.str z=>z.cps.all (· < 128)&&decide (z.length<=1000)
 | n+1,.tup ds=>ds.all (uz n)&&decide (ds.length<=1000)
 | _,_=>false
theorem DJ {μ:Mu}:∀ (n:Nat) (d:D),uz n d=true->Any μ d:=by
 intro n
 induction n with
 | zero=>
  intro d h
  cases d with
  | non=>exact .non
  | bl b=>exact .bl b
  | int i=>simp only[uz,Nz,decide_eq_true_eq] at h;exact anyI (by omega) (by omega)
  | str z=>simp only[uz,Nz,decide_eq_true_eq] at h;exact .str h.1 h.2
  | _=>cases h
 | succ n ih=>
  intro d h
  cases d with
  | non=>exact .non
  | bl b=>exact .bl b
  | int i=>simp only[uz,Nz,decide_eq_true_eq] at h;exact anyI (by omega) (by omega)
  | str z=>simp only[uz,Nz,decide_eq_true_eq] at h;exact .str h.1 h.2
  | tup ds=>simp only[uz,Nz,decide_eq_true_eq,Oe] at h;exact .tup (λd hd=>ih d (h.1 d hd)) h.2
  | _=>cases h
theorem mm {μ:Mu}{l:List D}(h:l.all (uz 3)=true)(h':l.all (λd=>!bM d)=true):∀ d∈l,Any μ d/\bM d=false:=λd hd=>by
 rw[Oe] at h h'
 exact ⟨DJ 3 d (h d hd),by simpa using h' d hd⟩
theorem CS:bH fi (Nr "Still")=none:=by decide +kernel
theorem KW (x:D)(xs:List D):cutD (x::xs) (some 1) none=xs:=iG (x::xs) 1
theorem Lh (x y:D)(xs:List D):cutD (x::y::xs) (some 2) none=xs:=iG (x::y::xs) 2
def bK:FSp:=λds μ Q=>match ds with
 | [.obj b,.tup (.str w::xs)]=>(Box μ b/\bM (.tup (.str w::xs))=true/\(∀ d∈xs,ka d)/\xs.length<=6)/\∀ d μ',Any μ' d->bM d=false->Box μ' b->Q d μ'
 | _=>False
theorem j4:∀ ds μ Q,bK ds μ Q->ds.length=2:=by
 unfold bK
 walk_at "ln"
def gL:STr:=aE (aQ (ao L3.rIx (ah 1) (TC (.int 1))) (az 2)) (aE (aQ (bR (ae (aG (ae (TC (.str "still")) (ae (aG (ae (TC (.int 1)) (ae (TC (.int 2)) (ak)))) (ak)))) (ae (aG (ae (TC (.str "still")) (ae (TC (.int 3)) (ak)))) (ae (aG (ae (TC (.str "still")) (ae (aG (ae (TC (.int 2)) (ae (TC (.int 2)) (ak)))) (ak)))) (ae (aG (ae (TC (.str "still")) (ae (aG (ae (TC (.int 61)) (ae (TC (.int 1)) (ak)))) (ak)))) (ae (aG (ae (TC (.str "still")) (ae (ah 2) (ae (ah 2) (ak))))) (ae (ar fB (ae (ah 1) (ak))) (ak)))))))) (az 3)) (aE (aQ (ao aH (ah 3) (bR (ae (TSl (ah 1) (fE (TC (.int 1))) (ONo)) (ak)))) (az 3)) (aE (aQ (ao aH (ah 3) (bR (ae (aG (ae (TC (.str "step")) (ae (aG (ae (TC (.int 3)) (ae (TC (.int 1)) (ak)))) (ae (aG (ae (TC (.int 1)) (ae (TC (.int 1)) (ak)))) (ae (aG (ae (TC (.int 1)) (ae (TC (.int 1)) (ak)))) (ae (aG (ae (TC (.int 9)) (ae (TC (.int 1)) (ak)))) (ak))))))) (ae (aG (ae (TC (.str "step")) (ae (aG (ae (TC (.int 3)) (ae (TC (.int 1)) (ak)))) (ae (aG (ae (TC (.int 0)) (ae (TC (.int 1)) (ak)))) (ae (aG (ae (TC (.int 1)) (ae (TC (.int 2)) (ak)))) (ae (aG (ae (TC (.int 9)) (ae (TC (.int 1)) (ak)))) (ak))))))) (ae (TC .non) (ae (TC (.str "still")) (ak))))))) (az 3)) (aE (aQ (ao aH (ah 3) (bR (ae (aG (ae (TC (.str "swell")) (ae (aG (ae (TC (.int 3)) (ae (TC (.int 1)) (ak)))) (ae (aG (ae (TC (.int 1)) (ae (TC (.int 1)) (ak)))) (ae (aG (ae (TC (.int 1)) (ae (TC (.int 2)) (ak)))) (ae (aG (ae (TC (.int 9)) (ae (TC (.int 1)) (ak)))) (ak))))))) (ae (aG (ae (TC (.str "step")) (ae (aG (ae (TC (.int 9)) (ae (TC (.int 1)) (ak)))) (ae (aG (ae (TC (.int 1)) (ae (TC (.int 1)) (ak)))) (ae (aG (ae (TC (.int 1)) (ae (TC (.int 2)) (ak)))) (ae (aG (ae (TC (.int 8)) (ae (TC (.int 1)) (ak)))) (ak))))))) (ae (aG (ak)) (ae (ao L3.rIx (ah 1) (TC (.int 0))) (ak))))))) (az 3)) (aE (aQ (ao aH (ah 3) (bR (ae (aG (ae (TC (.str "heed")) (ae (aG (ae (TC (.int 3)) (ae (TC (.int 1)) (ak)))) (ae (aG (ae (TC (.int 1)) (ae (TC (.int 1)) (ak)))) (ae (aG (ae (TC (.int 0)) (ae (TC (.int 1)) (ak)))) (ae (aG (ae (TC (.int 9)) (ae (TC (.int 1)) (ak)))) (ak))))))) (ae (aG (ae (TC (.str "calm")) (ae (aG (ae (TC (.int 3)) (ae (TC (.int 1)) (ak)))) (ae (aG (ae (TC (.int 1)) (ae (TC (.int 1)) (ak)))) (ae (TC (.int 3)) (ae (TC (.int 2)) (ae (aG (ae (TC (.int 9)) (ae (TC (.int 1)) (ak)))) (ak)))))))) (ae (aG (ae (TC (.str "Still")) (ae (ah 2) (ak)))) (ak)))))) (az 3)) (aE (aQ (ao aH (ah 3) (bR (ae (aG (ae (TC (.str "calm")) (ae (aG (ae (TC (.int 3)) (ae (TC (.int 1)) (ak)))) (ae (aG (ae (TC (.int 1)) (ae (TC (.int 1)) (ak)))) (ae (TC (.bl true)) (ae (TC (.int 2)) (ae (aG (ae (TC (.int 9)) (ae (TC (.int 1)) (ak)))) (ak)))))))) (ae (ao aH (ah 1) (aG (ae (ah 2) (ak)))) (ae (ao aH (aG (ae (ao L3.rIx (ah 1) (TC (.int 0))) (ae (bR (ae (ao L3.rIx (ah 2) (TC (.int 0))) (ae (ao L3.rIx (ah 2) (TC (.int 1))) (ak)))) (ak)))) (TSl (ah 1) (fE (TC (.int 2))) (ONo))) (ae (TC (.int 7)) (ak))))))) (az 3)) (aR (ao L3.rIx (ah 3) (ar L3.aw (ae (ah 0) (ae (ar cX (ae (ah 3) (ak))) (ak))))))))))))
theorem kj:∀ ds μ Q,bK ds μ Q->gL { nx:=λ_ μ'=>RT Q .non μ',rt:=RT Q } (ini 4 ds) μ:=by
 intro ds μ Q h
 unfold bK at h
 split at h
 case h_2=>exact h.elim
 rename_i b w xs
 walk_at "ini"
 unfold gL
 walk_at "go"
 obtain ⟨⟨hB,hR,hp,pl⟩,k⟩:=h
 obtain ⟨p,q,r,rfl⟩:=zt hR
 have wA:∀ μ,Any μ (.str w):=λμ=>BP (yH hR)
 have fA:∀ μ,∀ d∈D.tup [.int p,.int q]::r,Any μ d:=λμ d hd=>fgA (hp d hd)
 have pA:∀ μ,Any μ (.tup [.int p,.int q]):=λμ=>fA μ _ NB
 have rA:∀ μ,∀ d∈r,Any μ d:=λμ d hd=>fA μ d (NF _ hd)
 rw[ND] at pl
 walk_at "go"
 simp only[KW,Lh]
 walk_at "go"
 refine ⟨?_,?_,?_,?_,?_,?_,?_,?_⟩
 iterate 7 (simp only[ND,Ol];omega)
 refine ytk hB (by simp) (by simp) λk1 μ1 k10 k11 B1=>?_
 walk_at "go"
 refine lL (P:=λd=>Any μ1 d/\bM d=false) k10 k11 (λd hd=>?_) λx hx=>⟨_,.refl _,k x _ hx.1 hx.2 B1.box⟩
 have hd:d∈Ld++([.tup [.str "still", .tup [.int p,.int q],.tup [.int p,.int q]],.ls (.str w::.tup [.int p,.int q]::r),.tup (.tup [.int p,.int q]::r)]++(K7++(.str w::(Lo++(.tup [.str "Still", .tup [.int p,.int q]]::(Lu++[.tup (.str w::.tup [.int p,.int q]::(r++[.tup [.int p,.int q]])),.tup (.str w::.ls [.int p,.int q]::r),.int 7])))))):=hd
 have pA:=pA μ1
 have wA:=wA μ1
 have rA:=rA μ1
 have stA:Any μ1 (.str "still"):=.str (by decide +kernel) (by decide +kernel)
 have StA:Any μ1 (.str "Still"):=.str (by decide +kernel) (by decide +kernel)
 rcases N1.mp hd with h | h
 ·exact mm (by decide +kernel) FE d h
 rcases N1.mp h with (h | h)
 ·refine ai (P:=λd=>Any μ1 d/\bM d=false) ⟨cm (ai stA (ai pA (ai pA aK))),e6 uy (by simp)⟩ (ai ⟨.ls _,rfl⟩ (ai ⟨cm (ai pA rA) (by simp;omega),rfl⟩ aK)) d h
 rcases N1.mp h with (h | h)
 ·exact mm (by decide +kernel) GH d h
 rcases NT.mp h with h | h
 ·rw[h];exact ⟨wA,rfl⟩
 rcases N1.mp h with (h | h)
 ·exact mm (by decide +kernel) GB d h
 rcases NT.mp h with h | h
 ·rw[h];exact ⟨cm (ai StA (ai pA aK)),u9 CS⟩
 rcases N1.mp h with (h | h)
 ·exact mm (by decide +kernel) Ez d h
 ·exact ai (P:=λd=>Any μ1 d/\bM d=false) ⟨cm (ai wA (ai pA λd hd=>(N1.mp hd).elim (rA d) λh=>by rw[NK.mp h];exact pA)) (by simp;omega),xU (ps:=.tup [.int p,.int q]::r) hR⟩ (ai ⟨cm (ai wA (ai (.ls _) rA)) (by simp;omega),Cz⟩ (ai ⟨anyI (by decide) (by decide),rfl⟩ aK)) d h
theorem GF {ns:List Str}{n r c g m u:D}(h:nmB n=false):aX ns (.tup [n,r,c,g,m,u])=false:=by simp only[aX,h,NM]
theorem Fb {ns:List Str}{n r c g m u:D}(h:cu ns r=false):aX ns (.tup [n,r,c,g,m,u])=false:=by simp only[aX,h,NM,Od]
theorem Fm {ns:List Str}{n r c g m u:D}(h:wiI 1 8 c=false):aX ns (.tup [n,r,c,g,m,u])=false:=by simp only[aX,h,NM,Od]
theorem Gs {ns:List Str}{n r c g m u:D}(h:wiI 0 1000000 g=false):aX ns (.tup [n,r,c,g,m,u])=false:=by simp only[aX,h,NM,Od]
theorem Gn {ns:List Str}{n r c g m u:D}(h:nwB 1000000 m=false):aX ns (.tup [n,r,c,g,m,u])=false:=by simp only[aX,h,NM,Od]
theorem EG {ns:List Str}{n r c g m u:D}(h:bM u=false):aX ns (.tup [n,r,c,g,m,u])=false:=by simp only[aX,h,Od]
theorem Ib {hi:Int}{d:D}(h:wiI 0 hi d=false)(hn:d≠.non):nwB hi d=false:=by
 cases d with
 | non=>exact absurd rfl hn
 | _=>exact h
theorem MN (a b c d e f:D):cutD [a,b,c,d,e,f] (some 1) none=[b,c,d,e,f]:=rfl
theorem M3 (a b c d e f:D):cutD [a,b,c,d,e,f] (some 2) none=[c,d,e,f]:=rfl
theorem MI (a b c d e f:D):cutD [a,b,c,d,e,f] (some 3) none=[d,e,f]:=rfl
theorem Ni (a b c d e f:D):cutD [a,b,c,d,e,f] (some 4) none=[e,f]:=rfl
theorem MH (a b c d e f:D):cutD [a,b,c,d,e,f] none (some 2)=[a,b]:=rfl
theorem Nh (a b c d e f:D):cutD [a,b,c,d,e,f] none (some 3)=[a,b,c]:=rfl
theorem Mw (a b c d e f:D):cutD [a,b,c,d,e,f] none (some 4)=[a,b,c,d]:=rfl
theorem MX (a b c d e f:D):cutD [a,b,c,d,e,f] none (some 5)=[a,b,c,d,e]:=rfl
def bG:FSp:=λds μ Q=>match ds with
 | [.obj b,.tup [nd,.tup xs,bd,gd,md,.tup (.str w::ps)],.ls ys]=>∃ (s:ST') (ns:List Str),(Box μ b/\(nd=.str s.nm/\xs=s.rd.map .str/\bd=.int s.bt/\gd=.int s.bg/\md=oD s.mn/\w=s.wd/\ps=s.ps)/\s.Ok/\aX ns s.toD=true/\s.rd.Sublist ns/\s.rd≠[]/\ys=ns.map .str/\ns.Nodup/\(∀ z∈ns,nmS z=true)/\ns≠[]/\ns.length<=6)/\∀ d e μ',Any μ' d->aX ns d=e->(e=true->nmD d=s.nm)->Box μ' b->Q (.tup [d,.bl e]) μ'
 | _=>False
theorem jm:∀ ds μ Q,bG ds μ Q->ds.length=3:=by
 unfold bG
 walk_at "ln"
def fQ:STr:=aE (aQ (ah 1) (oF [3,4,5,6,7,8])) (aE (aQ (ar L3.aw (ae (ah 0) (ae (TC (.int 9)) (ak)))) (az 9)) (aE (bF (TB (ao rEq (ah 9) (TC (.int 0)))) (aR (aG (ae (ao aH (aG (ae (ao L3.rIx (bR (ae (ao aH (ah 3) (TC (.str "A"))) (ae (TC (.str "")) (ae (TC (.str "abcdefghi")) (ae (TC .non) (ae (TC (.int 3)) (ae (aG (ae (ah 3) (ak))) (ak)))))))) (ar L3.aw (ae (ah 0) (ae (TC (.int 6)) (ak))))) (ak))) (TSl (ah 1) (fE (TC (.int 1))) (ONo))) (ae (TC (.bl false)) (ak))))) (aU)) (aE (bF (TB (ao rEq (ah 9) (TC (.int 1)))) (aR (aG (ae (ao aH (aG (ae (ah 3) (ae (ar eQ (ae (ah 0) (ae (ah 4) (ae (ah 2) (ak))))) (ak)))) (TSl (ah 1) (fE (TC (.int 2))) (ONo))) (ae (TC (.bl false)) (ak))))) (aU)) (aE (bF (TB (ao rEq (ah 9) (TC (.int 2)))) (aR (aG (ae (ao aH (ao aH (TSl (ah 1) (ONo) (fE (TC (.int 2)))) (aG (ae (ao L3.rIx (bR (ae (ar bT (ae (ah 0) (ae (TC (.int 1)) (ae (TC (.int 8)) (ak))))) (ae (TC .non) (ak)))) (ao g5 (ar L3.aw (ae (ah 0) (ae (TC (.int 4)) (ak)))) (TC (.int 3)))) (ak)))) (TSl (ah 1) (fE (TC (.int 3))) (ONo))) (ae (TC (.bl false)) (ak))))) (aU)) (aE (bF (TB (ao rEq (ah 9) (TC (.int 3)))) (aR (aG (ae (ao aH (ao aH (TSl (ah 1) (ONo) (fE (TC (.int 3)))) (aG (ae (ao L3.rIx (bR (ae (ar bT (ae (ah 0) (ae (TC (.int 0)) (ae (ao ny (TC (.int 10)) (TC (.int 6))) (ak))))) (ae (TC .non) (ak)))) (ao g5 (ar L3.aw (ae (ah 0) (ae (TC (.int 4)) (ak)))) (TC (.int 3)))) (ak)))) (TSl (ah 1) (fE (TC (.int 4))) (ONo))) (ae (TC (.bl false)) (ak))))) (aU)) (aE (bF (TB (ao rEq (ah 9) (TC (.int 4)))) (aR (aG (ae (ao aH (TSl (ah 1) (ONo) (fE (TC (.int 4)))) (aG (ae (ar bT (ae (ah 0) (ae (TC (.int 0)) (ae (ao ny (TC (.int 10)) (TC (.int 6))) (ak))))) (ae (ah 8) (ak))))) (ae (TC (.bl false)) (ak))))) (aU)) (aE (bF (TB (ao rEq (ah 9) (TC (.int 5)))) (aR (aG (ae (ao aH (TSl (ah 1) (ONo) (fE (TC (.int 5)))) (aG (ae (ar bK (ae (ah 0) (ae (ah 8) (ak)))) (ak)))) (ae (TC (.bl false)) (ak))))) (aU)) (aE (bF (TB (ao rEq (ah 9) (TC (.int 6)))) (aR (aG (ae (ao L3.rIx (bR (ae (ar fB (ae (ah 1) (ak))) (ae (TSl (ah 1) (ONo) (fE (TC (.int 5)))) (ae (ao aH (ah 1) (aG (ae (TC .non) (ak)))) (ae (aG (ak)) (ae (TC .non) (ae (ah 3) (ae (TC (.int 5)) (ak))))))))) (ar L3.aw (ae (ah 0) (ae (TC (.int 7)) (ak))))) (ae (TC (.bl false)) (ak))))) (aU)) (aE (aQ (ao L3.rIx (bR (ae (TC (.int 1)) (ae (TC (.int 8)) (ak)))) (ar L3.aw (ae (ah 0) (ae (TC (.int 2)) (ak))))) (az 5)) (aE (aQ (ao L3.rIx (bR (ae (TC (.int 0)) (ae (ao ny (TC (.int 10)) (TC (.int 6))) (ak)))) (ar L3.aw (ae (ah 0) (ae (TC (.int 2)) (ak))))) (az 6)) (aR (aG (ae (aG (ae (ah 3) (ae (ar d9 (ae (ah 2) (ak))) (ae (ah 5) (ae (ah 6) (ae (ao L3.rIx (bR (ae (TC .non) (ae (TC (.int 0)) (ae (ao ny (TC (.int 10)) (TC (.int 6))) (ak))))) (ar L3.aw (ae (ah 0) (ae (TC (.int 3)) (ak))))) (ae (ah 8) (ak)))))))) (ae (TC (.bl true)) (ak)))))))))))))))
theorem jH:∀ ds μ Q,bG ds μ Q->fQ { nx:=λ_ μ'=>RT Q .non μ',rt:=RT Q } (ini 10 ds) μ:=by
 intro ds μ Q h
 unfold bG at h
 split at h
 case h_2=>exact h.elim
 rename_i b nd xs bd gd md w ps ys
 walk_at "ini"
 unfold fQ
 walk_at "go"
 obtain ⟨s,ns,⟨hB,⟨rfl,rfl,rfl,rfl,rfl,rfl,rfl⟩,O,SB,sl,rne,rfl,nnd,hn,nne,l6⟩,k⟩:=h
 obtain ⟨b1,b2,b3,b4,b5,b6⟩:=tG SB
 have nA:∀ μ,Any μ (.str s.nm):=λμ=>dM b1
 have rA:∀ μ,Any μ (.tup (s.rd.map .str)):=λμ=>rdA b2 O.rl
 have bA:∀ μ,Any μ (.int s.bt):=λμ=>nuA O.b
 have gA:∀ μ,Any μ (.int s.bg):=λμ=>nuA O.g
 have mA:∀ μ,Any μ (oD s.mn):=λμ=>EJ O.m
 have uA:∀ μ,Any μ (.tup (.str s.wd::s.ps)):=λμ=>ruA b6 O.p O.pl
 have yk:∀ {μ:Mu} {n r c g m u:D},Any μ n->Any μ r->Any μ c->Any μ g->Any μ m->Any μ u->Any μ (.tup [n,r,c,g,m,u]):=λh1 h2 h3 h4 h5 h6=>cm (ai h1 (ai h2 (ai h3 (ai h4 (ai h5 (ai h6 aK))))))
 have no:∀ {d:D} {μ':Mu},Any μ' d->aX ns d=false->Box μ' b->RT Q (.tup [d,.bl false]) μ':=λh1 h2 h3=>⟨_,.refl _,k _ false _ h1 h2 nofun h3⟩
 refine ytk hB (by decide) (by decide) λk1 μ1 k10 k11 B1=>?_
 walk_at "go"
 simp only[MN,M3,MI,Ni,MH,Nh,Mw,MX]
 walk_at "go"
 have zl:=(dG b1).1
 have eA:(Nr "A").length=1:=by decide +kernel
 refine kif (λ_=>?_) λ_=>?_
 ·refine ⟨by omega,?_⟩
  refine ytk B1.box (by decide) (by decide) λk2 μ2 k20 k21 B2=>?_
  walk_at "go"
  refine lL (P:=λd=>Any μ2 d/\nmB d=false) k20 k21 (ai ⟨Mj b1 (by decide +kernel) (by omega),Ma _⟩ (ai ⟨.str (by decide +kernel) (by decide +kernel),by decide +kernel⟩ (ai ⟨.str (by decide +kernel) (by decide +kernel),by decide +kernel⟩ (ai ⟨.non,rfl⟩ (ai ⟨anyI (by decide) (by decide),rfl⟩ (ai ⟨cm (ai (nA _) aK),rfl⟩ aK)))))) λx hx=>?_
  walk_at "go"
  exact ⟨by simp,no (yk hx.1 (rA _) (bA _) (gA _) (mA _) (uA _)) (GF hx.2) B2.box⟩
 refine kif (λ_=>?_) λ_=>?_
 ·refine ⟨s.rd,ns,⟨B1.box,rfl,rfl,rne,sl,nnd,hn,l6⟩,λd μ2 Ad Bd hB2=>?_⟩
  walk_at "go"
  exact ⟨by simp,no (yk (nA _) Ad (bA _) (gA _) (mA _) (uA _)) (Fb Bd) hB2⟩
 refine kif (λ_=>?_) λ_=>?_
 ·refine ⟨⟨B1.box,by decide,by decide,by decide⟩,λd μ2 Ad Bd _ hB2=>?_⟩
  walk_at "go"
  refine ytk hB2 (by decide) (by decide) λk2 μ3 k20 k21 B3=>?_
  walk_at "go"
  have i5:0<=k2.fdiv 3/\k2.fdiv 3 < 2:=by rw[cP (by decide)];omega
  refine ⟨⟨by decide,by unfold bz;decide⟩,lL (P:=λd=>Any μ3 d/\wiI 1 8 d=false) i5.1 i5.2 (ai ⟨Ad.gr hB2 (.of B3),Bd⟩ (ai ⟨.non,rfl⟩ aK)) λx hx=>?_⟩
  walk_at "go"
  exact ⟨by simp,by simp,no (yk (nA _) (rA _) hx.1 (gA _) (mA _) (uA _)) (Fm hx.2) B3.box⟩
 refine kif (λ_=>?_) λ_=>?_
 ·refine ⟨by walk_at "ok", ⟨B1.box,by decide,by decide,by decide⟩,λd μ2 Ad Bd _ hB2=>?_⟩
  walk_at "go"
  refine ytk hB2 (by decide) (by decide) λk2 μ3 k20 k21 B3=>?_
  walk_at "go"
  have i5:0<=k2.fdiv 3/\k2.fdiv 3 < 2:=by rw[cP (by decide)];omega
  refine ⟨⟨by decide,by unfold bz;decide⟩,lL (P:=λd=>Any μ3 d/\wiI 0 1000000 d=false) i5.1 i5.2 (ai ⟨Ad.gr hB2 (.of B3),Bd⟩ (ai ⟨.non,rfl⟩ aK)) λx hx=>?_⟩
  walk_at "go"
  exact ⟨by simp,by simp,no (yk (nA _) (rA _) (bA _) hx.1 (mA _) (uA _)) (Gs hx.2) B3.box⟩
 refine kif (λ_=>?_) λ_=>?_
 ·refine ⟨by walk_at "ok", ⟨B1.box,by decide,by decide,by decide⟩,λd μ2 Ad Bd nn hB2=>?_⟩
  walk_at "go"
  exact ⟨by simp,no (yk (nA _) (rA _) (bA _) (gA _) Ad (uA _)) (Gn (Ib Bd nn)) hB2⟩
 refine kif (λ_=>?_) λ_=>?_
 ·refine ⟨⟨B1.box,b6,O.p,O.pl⟩,λd μ2 Ad Bd hB2=>?_⟩
  walk_at "go"
  exact ⟨by simp,no (yk (nA _) (rA _) (bA _) (gA _) (mA _) Ad) (EG Bd) hB2⟩
 refine kif (λ_=>?_) λ_=>?_
 ·refine ⟨by simp,?_⟩
  refine ytk B1.box (by decide) (by decide) λk2 μ2 k20 k21 B2=>?_
  walk_at "go"
  refine lL (P:=λd=>Any μ2 d/\aX ns d=false) k20 k21 (ai ⟨.ls _,rfl⟩ (ai ⟨cm (ai (nA _) (ai (rA _) (ai (bA _) (ai (gA _) (ai (mA _) aK))))),rfl⟩ (ai ⟨cm (ai (nA _) (ai (rA _) (ai (bA _) (ai (gA _) (ai (mA _) (ai (uA _) (ai .non aK))))))),rfl⟩ (ai ⟨cm aK,rfl⟩ (ai ⟨.non,rfl⟩ (ai ⟨nA _,rfl⟩ (ai ⟨anyI (by decide) (by decide),rfl⟩ aK))))))) λx hx=>no hx.1 hx.2 B2.box
 ·refine ytk B1.box (by decide) (by decide) λk2 μ2 k20 k21 B2=>?_
  walk_at "go"
  obtain ⟨_,e2,bt,rfl,bt0,bt1⟩:=cc (xs:=[.int 1,.int 8]) (P:=IsI 1 8) (ai ⟨_,rfl,by decide,by decide⟩ (ai ⟨_,rfl,by decide,by decide⟩ aK)) k20 k21
  refine ef e2 ?_
  walk_at "go"
  refine ⟨by walk_at "ok", ?_⟩
  refine ytk B2.box (by decide) (by decide) λk3 μ3 k30 k31 B3=>?_
  walk_at "go"
  obtain ⟨_,e3,bg,rfl,bg0,bg1⟩:=cc (xs:=[.int 0,.int 1000000]) (P:=IsI 0 1000000) (ai ⟨_,rfl,by decide,by decide⟩ (ai ⟨_,rfl,by decide,by decide⟩ aK)) k30 k31
  refine ef e3 ?_
  walk_at "go"
  refine ⟨by walk_at "ok", ?_⟩
  refine ytk B3.box (by decide) (by decide) λk4 μ4 k40 k41 B4=>?_
  walk_at "go"
  obtain ⟨_,e4,mn,rfl,hm⟩:=cc (xs:=[.non,.int 0,.int 1000000]) (P:=MkN 1000000) (ai qP (ai (jy (by decide) (by decide) (by decide)) (ai (jy (by decide) (by decide) (by decide)) aK))) k40 k41
  refine ef e4 ?_
  walk_at "go"
  refine ⟨_,.refl _,k _ true _ (yk (nA _) ?_ (anyI (by omega) (by omega)) (anyI (by omega) (by omega)) (EJ λi e=>(hm i e).1) (uA _)) ?_ (λ_=>rfl) B4.box⟩
  ·exact cm (λd hd=>by obtain ⟨y,hy,rfl⟩:=N5.mp hd;exact dM (hn y hy)) (by rw[NC];omega)
  ·show (nmS s.nm&&(cu ns (.tup (ns.map .str))&&(wiI 1 8 (.int bt)&&(wiI 0 1000000 (.int bg)&&(nwB 1000000 (oD mn)&&bM (.tup (.str s.wd::s.ps)))))))=true
   rw[b1,uQ nnd hn nne (Uq _),jX bt0 bt1,jX bg0 bg1,DA hm,b6];rfl
theorem Lc {d:D}(h:ka d)(k:Nat):okD (k+1) d=true:=by
 rcases h with ⟨i,rfl,_⟩ | ⟨a,c,rfl,_⟩ <;> rfl
theorem BX {k:Nat}:∀ {ps:List D},(∀ d∈ps,ka d)->bB (k+1) ps=true
 | [],_=>rfl
 | d::r,h=>by
  rw[bB,Nz]
  exact ⟨Lc (h d NB) k,BX λy q=>h y (NF _ q)⟩
theorem Ku (o:Option Int)(k:Nat):okD k (oD o)=true:=by cases o<;>cases k<;>rfl
theorem D9 {z:Str}(h:N6 z=true)(k:Nat):okD k (.str z)=true:=by cases k<;>exact h
theorem FX {s:ST'}(h:s.Ok)(k:Nat):okD (k+3) s.toD=true:=by
 show bB (k+2) [.str s.nm,.tup (s.rd.map .str),.int s.bt,.int s.bg,oD s.mn,.tup (.str s.wd::s.ps)]=true
 have e1:okD (k+2) (.tup (s.rd.map .str))=true:=hC λz hz=>(h.r z hz).o
 have e2:okD (k+2) (.tup (.str s.wd::s.ps))=true:=by
  show bB (k+1) (.str s.wd::s.ps)=true
  rw[bB,D9 h.w.o,BX h.p];rfl
 rw[bB,bB,bB,bB,bB,bB,bB,D9 h.n.o,e1,e2,Ku];rfl
theorem vb {k:Nat}:∀ {ss:List ST'},(∀ s∈ss,s.Ok)->bB (k+3) (ss.map ST'.toD)=true
 | [],_=>rfl
 | s::r,h=>by
  rw[N7,bB,Nz]
  exact ⟨FX (h s NB) k,vb λy q=>h y (NF _ q)⟩
def bN:FSp:=λds μ Q=>match ds with
 | [d,.bl e]=>(Any μ d/\gU d=e)/\Q (.bl true) μ
 | _=>False
theorem o8:∀ ds μ Q,bN ds μ Q->ds.length=2:=by
 unfold bN
 walk_at "ln"
def lg:STr:=aE (aQ (ar L3.eX (ae (ah 0) (ak))) (az 2)) (aR (cK (TUn (cE "bool") (ah 2)) (ao rEq (ah 2) (ah 1))))
theorem rS:∀ ds μ Q,bN ds μ Q->lg { nx:=λ_ μ'=>RT Q .non μ',rt:=RT Q } (ini 3 ds) μ:=by
 intro ds μ Q h
 unfold bN at h
 split at h
 case h_2=>exact h.elim
 rename_i d e
 walk_at "ini"
 unfold lg
 walk_at "go"
 obtain ⟨⟨t,rfl⟩,k⟩:=h
 refine ⟨t,?_⟩
 walk_at "go"
 rw[beq_self_eq_true]
 exact ⟨_,.refl _,k⟩
abbrev fL:FSp:=L3.fL
theorem rK:∀ ds μ Q,fL ds μ Q->ds.length=1:=L3.rK
def mO:STr:=aE (aQ (aG (ae (ah 2) (ae (ah 3) (ae (ah 4) (ak))))) (az 6)) (aE (bF (cb (TB (ar bN (ae (ah 6) (ae (TC (.bl true)) (ak)))))) (aR (TC (.bl false))) (aU)) (aE (tF (gw (ao aH (TC (.int 1)) (ar cX (ae (TSl (ah 0) (ONo) (fE (TC (.int 30)))) (ak))))) (az 7) (aE (aQ (ar L3.jQ (ae (ah 0) (ae (ah 7) (ak)))) (az 1)) (aE (aQ (ar L3.aw (ae (ah 1) (ae (ar cX (ae (ah 4) (ak))) (ak)))) (az 8)) (aE (aQ (ar bG (ae (ah 1) (ae (ao L3.rIx (ah 4) (ah 8)) (ae (ah 5) (ak))))) (oF [9,10])) (bF (cb (TB (ar bN (ae (aG (ae (ah 2) (ae (ah 3) (ae (ao aH (ao aH (TSl (ah 4) (ONo) (fE (ah 8))) (aG (ae (ah 9) (ak)))) (TSl (ah 4) (fE (ao aH (ah 8) (TC (.int 1)))) (ONo))) (ak))))) (ae (ah 10) (ak)))))) (aR (TC (.bl false))) (aU)))))) (aR (ar bN (ae (ah 6) (ae (TC (.bl true)) (ak)))))))
def Bj:STr:=aE (aQ (ar L3.jQ (ae (ah 0) (ae (TC (.int 0)) (ak)))) (az 1)) (aE (aQ (ar L3.j9 (ae (ah 1) (ae (TC (.int 12)) (ae (TC (.int 8)) (ak))))) (oF [2,3,4])) (aE (aQ (df (iT (ah 3)) (az 0) (jq) (ao L3.rIx (ah 0) (TC (.int 0))) 1 []) (az 5)) (aE (bF (TB (ao rEq (ah 4) (aG (ak)))) (aQ (aG (ae (ar L3.fe (ae (ah 1) (ae (TC (.str "z")) (ae (ah 3) (ae (TC (.int 12)) (ak)))))) (ak))) (az 4)) (aU)) (mO))))
theorem Ic:∀ ds μ Q,fL ds μ Q->Bj { nx:=λ_ μ'=>RT Q .non μ',rt:=RT Q } (ini 11 ds) μ:=by
 intro ds μ Q h
 replace h:=ecL h
 obtain ⟨_,ds,rfl,h⟩:=h
 replace h:=ecN h
 obtain ⟨rfl,h⟩:=h
 obtain ⟨⟨ns,rfl,hn⟩,k⟩:=h
 walk_at "ini"
 unfold Bj
 walk_at "go"
 refine ⟨⟨ns,rfl,by decide,by decide⟩,λb μ1 hp hB ho=>?_⟩
 walk_at "go"
 refine ⟨⟨hB,⟨by decide,by decide⟩,by decide,by decide⟩,λp μ2 P B2=>?_⟩
 rw[show p.toD=.tup [.int p.g,.tup (p.ws.map WT.toD),.tup (p.ss.map ST'.toD)] from rfl]
 walk_at "go"
 refine zF p.ws WT.toD (λw=>.str w.nm) rfl (by have:=P.w6;omega) (λw hw μ' _ N nn=>?_) ?_
 ·unfold WT.toD
  walk_at "go"
  exact nn
 walk_at "go"
 have en:p.ws.map (λw=>D.str w.nm)=(p.ws.map WT.nm).map .str:=by rw[OR];rfl
 have key:∀ (ss:List ST') (μ':Mu),(PT.mk p.g p.ws ss).Good->ss≠[]->mO { nx:=λ_ μ'=>RT Q .non μ',rt:=RT Q } [some (.ls (ns.map .int)),some (.obj b),some (.int p.g),some (.tup (p.ws.map WT.toD)),some (.tup (ss.map ST'.toD)),some (.ls (p.ws.map λw=>D.str w.nm)),none,none,none,none,none] μ':=λss μ' G ne=>by
  have GA:∀ μ,Any μ (.tup [.int p.g,.tup (p.ws.map WT.toD),.tup (ss.map ST'.toD)]):=λμ=>G.any
  have Gb:gU (.tup [.int p.g,.tup (p.ws.map WT.toD),.tup (ss.map ST'.toD)])=true:=G.b
  unfold mO
  walk_at "go"
  refine ⟨⟨GA _,Gb⟩,?_⟩
  walk_at "go"
  have cl:=tQ (ns.map D.int) none (some 30)
  rw[NC] at cl
  refine ⟨⟨by omega,by omega⟩,?_⟩
  refine jx (λr ρ μ=>(∀ d∈r,∃ j:Int,d=.int j/\0<=j/\j<=1000)/\∃ v1 v7 v8 v9 v10,ρ=[some (.ls (ns.map .int)),v1,some (.int p.g),some (.tup (p.ws.map WT.toD)),some (.tup (ss.map ST'.toD)),some (.ls (p.ws.map λw=>D.str w.nm)),some (.tup [.int p.g,.tup (p.ws.map WT.toD),.tup (ss.map ST'.toD)]),v7,v8,v9,v10]) ?_ ?_ _ _ _ ⟨λd hd=>?_,_,_,_,_,_,rfl⟩
  ·rintro ρ μ3 ⟨_,v1,v7,v8,v9,v10,rfl⟩
   walk_at "go"
   exact ⟨⟨GA _,Gb⟩,_,.refl _,k _⟩
  ·rintro d r ρ μ3 N ⟨hd,v1,v7,v8,v9,v10,rfl⟩ hN
   obtain ⟨j,rfl,j0,j1⟩:=hd d NB
   have hr:∀ d∈r,∃ j:Int,d=.int j/\0<=j/\j<=1000:=λd h=>hd d (NF _ h)
   walk_at "go"
   refine ⟨⟨ns,rfl,j0,j1⟩,λb2 μ4 _ hB4 _=>?_⟩
   walk_at "go"
   rw[NC]
   have l0:0 < ss.length:=Q8.mpr ne
   have l8:ss.length<=8:=G.s8
   refine ytk hB4 (by omega) (by omega) λat' μ5 a0 a1 B5=>?_
   obtain ⟨i,rfl⟩:=O3 a0
   have hi:i < ss.length:=by omega
   have es:ss=ss.take i++ss[i]::ss.drop (i+1):=by rw[List.getElem_cons_drop,SF]
   walk_at "go"
   have at2:atD (ss.map ST'.toD) (i:Int)=some (ss[i].toD):=by
    rw[bP,Of,N2 hi];rfl
   refine ef at2 ?_
   have hm:ss[i]∈ss:=QK hi
   have SB:aX (p.ws.map WT.nm) ss[i].toD=true:=G.s _ hm
   have nS:∀ z∈p.ws.map WT.nm,nmS z=true:=λz hz=>by obtain ⟨w,hw,rfl⟩:=N5.mp hz;exact oz (P.w w hw)
   refine ⟨ss[i],p.ws.map WT.nm,⟨B5.box,⟨rfl,rfl,rfl,rfl,rfl,rfl,rfl⟩,G.ok.s _ hm,SB,(G.sl _ hm).1,(G.sl _ hm).2,en,P.wn,nS,?_,?_⟩,λd e μ6 Ad Bd nm hB6=>?_⟩
   ·intro z
    have e:=congrArg PM z
    have:=P.w1
    rw[NC,Ol] at e
    omega
   ·rw[NC];exact P.w6
   walk_at "go"
   have ec1:cutD (ss.map ST'.toD) none (some (i:Int))=(ss.take i).map ST'.toD:=by rw[FW,List.map_take]
   have ec2:cutD (ss.map ST'.toD) (some ((i:Int)+1)) none=(ss.drop (i+1)).map ST'.toD:=by rw[show (i:Int)+1=((i+1:Nat):Int) by omega,iG,Vu]
   rw[ec1,ec2]
   have tl:(ss.take i).length<=8:=by rw[PF];omega
   have dl:(ss.drop (i+1)).length<=8:=by rw[PJ];omega
   refine ⟨by rw[NC];simp;omega,by simp only[NQ,NC,ND,Ol];omega,?_⟩
   have hs1:∀ s∈ss.take i,s.Ok/\aX (p.ws.map WT.nm) s.toD=true:=λs h=>⟨G.ok.s s (QW h),G.s s (QW h)⟩
   have hs2:∀ s∈ss.drop (i+1),s.Ok/\aX (p.ws.map WT.nm) s.toD=true:=λs h=>⟨G.ok.s s (ON h),G.s s (ON h)⟩
   have aA:Any μ6 (.tup ((ss.take i).map ST'.toD++[d]++(ss.drop (i+1)).map ST'.toD)):=cm (λx hx=>by
    rcases N1.mp hx with h | h
    ·rcases N1.mp h with h | h
     ·obtain ⟨s,hs,rfl⟩:=N5.mp h;exact ST'.any (hs1 s hs).1 (hs1 s hs).2
     ·rw[NK.mp h];exact Ad
    ·obtain ⟨s,hs,rfl⟩:=N5.mp h;exact ST'.any (hs2 s hs).1 (hs2 s hs).2) (by simp only[NQ,NC,ND,Ol];omega)
   have al:Any μ6 (.tup [.int p.g,.tup (p.ws.map WT.toD),.tup ((ss.take i).map ST'.toD++[d]++(ss.drop (i+1)).map ST'.toD)]):=cm (ai (nuA P.ok.g) (ai P.wA (ai aA aK)))
   have bb:gU (.tup [.int p.g,.tup (p.ws.map WT.toD),.tup ((ss.take i).map ST'.toD++[d]++(ss.drop (i+1)).map ST'.toD)])=e:=by
    cases e with
    | false=>exact Ep (by rw[ui];exact rO (d:=d) (by simp) Bd)
    | true=>
     have wb:fo (.tup (p.ws.map WT.toD))=true:=by
      show ((decide (1<=(p.ws.map WT.toD).length)&&decide ((p.ws.map WT.toD).length<=6))&&((p.ws.map WT.toD).all cR&&decide (((p.ws.map WT.toD).map nmD).Nodup)))=true
      rw[rX,NC,decide_eq_true P.w1,decide_eq_true P.w6,Co P.w,decide_eq_true P.wn];rfl
     have nms:((ss.take i).map ST'.toD++[d]++(ss.drop (i+1)).map ST'.toD).map nmD=ss.map ST'.nm:=by
      rw[O9,O9,qY,qY,N7,Sd,nm rfl]
      have e2:=congrArg (Vf ST'.nm) es
      rw[O9,N7] at e2
      rw[O4]
      exact e2.symm
     have sb:cg (p.ws.map WT.nm) (.tup ((ss.take i).map ST'.toD++[d]++(ss.drop (i+1)).map ST'.toD))=true:=by
      show (decide (_<=8)&&(List.all _ _&&xO _))=true
      rw[nms,UU,UU,xP λs h=>(hs1 s h).2,xP λs h=>(hs2 s h).2]
      unfold xO
      rw[decide_eq_true (show (ss.map ST'.nm).Pairwise _ from G.sn),decide_eq_true (by simp only[NQ,NC,ND,Ol,PF,PJ];omega)]
      simp[Bd]
     show (wiI 1 60 (.int p.g)&&(fo _&&cg (ki (.tup (p.ws.map WT.toD))) _))=true
     rw[jX P.g0 P.g1,wb,ui,sb];rfl
   refine ⟨⟨al,bb⟩,?_⟩
   walk_at "go"
   exact hN _ _ ⟨hr,_,_,_,_,_,rfl⟩
  ·obtain ⟨j,rfl,j0,j1⟩:=xN hd
   exact ⟨j,rfl,j0,by omega⟩
 refine ⟨vb P.ok.s,?_⟩
 cases e:p.ss with
 | cons s r=>
  rw[N7,rq]
  walk_at "go"
  rw[← N7,← e]
  exact key p.ss μ2 P (by rw[e];simp)
 | nil=>
  rw[Sd,mj]
  walk_at "go"
  have zN:nmS (Nr "z")=true:=by decide +kernel
  refine ⟨p.ws,⟨B2.box,zN,rfl,⟨by have:=P.w1;omega,by have:=P.w6;omega⟩,(λw h=>⟨P.ok.w w h,oz (P.w w h)⟩),P.wn,by decide,by decide⟩,λs μ3 S Sn Sr Sr0 Sb _ B=>?_⟩
  walk_at "go"
  refine key [s] μ3 ⟨⟨P.ok.g,P.ok.w,λx hx=>?_,P.ok.wl,by simp⟩,P.g0,P.g1,P.w1,P.w6,P.w,P.wn,by simp,λx hx=>?_,by simp,λx hx=>?_⟩ (by simp)
  ·rw[NK.mp hx];exact S
  ·rw[NK.mp hx];exact Sb
  ·rw[NK.mp hx];exact ⟨Sr,Sr0⟩
theorem kC (ns:List Int)(h:ns.length<=63)(μ:Mu):fL [.ls (ns.map .int)] μ (λd _=>d=.bl true):=L3.kC ns h μ
end Kk
namespace Kk
open PySem L2 L3
theorem Mi {α:Type}{us:List α}(h:us.length=1):∃ x0,us=[x0]:=match us,h with | [x0],_=>⟨x0,rfl⟩
theorem Mm {α:Type}{us:List α}(h:us.length=2):∃ x0 x1,us=[x0,x1]:=match us,h with | [x0,x1],_=>⟨x0,x1,rfl⟩
theorem Mq {α:Type}{us:List α}(h:us.length=3):∃ x0 x1 x2,us=[x0,x1,x2]:=match us,h with | [x0,x1,x2],_=>⟨x0,x1,x2,rfl⟩
theorem Mp {α:Type}{us:List α}(h:us.length=4):∃ x0 x1 x2 x3,us=[x0,x1,x2,x3]:=match us,h with | [x0,x1,x2,x3],_=>⟨x0,x1,x2,x3,rfl⟩
def top (i:Nat):Stmt:=PySem.Challenge.pw_swellways_k20_what_a_plan_has.main.body.getD i (.Pass ⟨0,0,0,0⟩)
abbrev mR:Stmt:=top 3
abbrev fq:Stmt:=top 4
abbrev i8:Stmt:=top 5
abbrev kE:Stmt:=top 6
abbrev kR:Stmt:=top 7
abbrev ji:Stmt:=top 8
abbrev Ef:Stmt:=top 9
abbrev tH:Stmt:=top 28
abbrev dS:Stmt:=top 29
abbrev eB:Stmt:=top 30
abbrev jI:Stmt:=top 31
abbrev ir:Stmt:=top 32
abbrev qa:Stmt:=top 33
abbrev eh:Stmt:=top 43
abbrev qg:Stmt:=top 44
abbrev ub:Stmt:=top 45
abbrev gH:Stmt:=top 46
abbrev qz:Stmt:=top 47
abbrev iA:Stmt:=top 48
abbrev dR:Stmt:=top 49
abbrev qo:Stmt:=top 50
abbrev mF:Stmt:=top 52
abbrev lD:Stmt:=top 53
abbrev jR:Stmt:=top 54
abbrev lJ:Stmt:=top 55
abbrev gW:Stmt:=top 56
abbrev la:Stmt:=top 57
abbrev n6:Stmt:=top 58
abbrev fF:Stmt:=top 59
abbrev fu:Stmt:=top 60
abbrev lK:Stmt:=top 61
abbrev i7:Stmt:=top 62
abbrev gM:Stmt:=top 63
abbrev fN:Stmt:=top 64
abbrev lu:Stmt:=top 65
abbrev Ds:Stmt:=top 66
set_option genInjectivity false in
set_option genSizeOfSpec false in
structure Adr where
 nv:Addr
 xZ:NU
 fw:Addr
 jv:NU
 iX:Addr
 oR:NU
 qD:Addr
 zV:NU
 lj:Addr
 uq:NU
 iY:Addr
 pT:NU
 BH:Addr
 Hx:NU
 ua:Addr
 A7:NU
 dZ:Addr
 hV:NU
 eG:Addr
 iP:NU
 jB:Addr
 sI:NU
 hZ:Addr
 nu:NU
 qx:Addr
 zJ:NU
 eF:Addr
 iU:NU
 qE:Addr
 AW:NU
 vO:Addr
 CP:NU
 oj:Addr
 vT:NU
 qu:Addr
 AZ:NU
 lF:Addr
 uh:NU
 iZ:Addr
 pq:NU
 qy:Addr
 Ae:NU
 og:Addr
 xH:NU
 kP:Addr
 vj:NU
 jV:Addr
 sy:NU
 k7:Addr
 uE:NU
 gT:Addr
 ma:NU
 kT:Addr
 uR:NU
 oN:Addr
 wX:NU
 jg:Addr
 pC:NU
 k9:Addr
 uo:NU
 lB:Addr
 uT:NU
 iW:Addr
 pE:NU
 gX:Addr
 l5:NU
 f6:Addr
 kH:NU
 kM:Addr
 uB:NU
 Di:Addr
 GR:NU
structure Txt (Pm:U8) (K:Nt) (mg:Str->Option Nu) (t:Adr):Prop where
 wu:mg "is_whole" = some (.ref t.nv)
 wg:Fun K "is_whole" "is_whole" mR t.nv t.xZ
 jJ:mg "is_whole_within" = some (.ref t.fw)
 jC:Fun K "is_whole_within" "is_whole_within" fq t.fw t.jv
 pj:mg "is_tuple_of" = some (.ref t.iX)
 oX:Fun K "is_tuple_of" "is_tuple_of" i8 t.iX t.oR
 AF:mg "is_name" = some (.ref t.qD)
 zR:Fun K "is_name" "is_name" kE t.qD t.zV
 vL:mg "common_of" = some (.ref t.lj)
 tf:Fun K "common_of" "common_of" kR t.lj t.uq
 o6:mg "is_fraction" = some (.ref t.iY)
 pw:Fun K "is_fraction" "is_fraction" ji t.iY t.pT
 Jb:mg "less" = some (.ref t.BH)
 Hs:Fun K "less" "less" Ef t.BH t.Hx
 CA:mg "top_of" = some (.ref t.ua)
 Bg:Fun K "top_of" "top_of" tH t.ua t.A7
 g6:mg "is_fraction_within" = some (.ref t.dZ)
 g9:Fun K "is_fraction_within" "is_fraction_within" dS t.dZ t.hV
 iS:mg "is_fraction_above" = some (.ref t.eG)
 iV:Fun K "is_fraction_above" "is_fraction_above" eB t.eG t.iP
 qO:mg "is_growing" = some (.ref t.jB)
 rZ:Fun K "is_growing" "is_growing" jI t.jB t.sI
 nR:mg "is_calm_span" = some (.ref t.hZ)
 mM:Fun K "is_calm_span" "is_calm_span" ir t.hZ t.nu
 zZ:mg "is_rule" = some (.ref t.qx)
 zv:Fun K "is_rule" "is_rule" qa t.qx t.zJ
 iQ:mg "is_none_or_within" = some (.ref t.eF)
 iR:Fun K "is_none_or_within" "is_none_or_within" eh t.eF t.iU
 AS:mg "is_sort" = some (.ref t.qE)
 zH:Fun K "is_sort" "is_sort" qg t.qE t.AW
 C0:mg "is_way" = some (.ref t.vO)
 DW:Fun K "is_way" "is_way" ub t.vO t.CP
 yb:mg "are_ways" = some (.ref t.oj)
 xm:Fun K "are_ways" "are_ways" gH t.oj t.vT
 AB:mg "is_road" = some (.ref t.qu)
 Ah:Fun K "is_road" "is_road" qz t.qu t.AZ
 tW:mg "is_sender" = some (.ref t.lF)
 ug:Fun K "is_sender" "is_sender" iA t.lF t.uh
 pQ:mg "are_senders" = some (.ref t.iZ)
 o4:Fun K "are_senders" "are_senders" dR t.iZ t.pq
 zx:mg "is_plan" = some (.ref t.qy)
 zw:Fun K "is_plan" "is_plan" qo t.qy t.Ae
 xi:mg "_law_box" = some (.ref t.og)
 xk:Fun K "_law_box" "_law_box" mF t.og t.xH
 uH:mg "_law_take" = some (.ref t.kP)
 vR:Fun K "_law_take" "_law_take" lD t.kP t.vj
 rm:mg "_law_names" = some (.ref t.jV)
 r6:Fun K "_law_names" "_law_names" jR t.jV t.sy
 uu:mg "_law_part" = some (.ref t.k7)
 u7:Fun K "_law_part" "_law_part" lJ t.k7 t.uE
 l9:mg "_law_fraction" = some (.ref t.gT)
 lQ:Fun K "_law_fraction" "_law_fraction" gW t.gT t.ma
 uD:mg "_law_rule" = some (.ref t.kT)
 vB:Fun K "_law_rule" "_law_rule" la t.kT t.uR
 wM:mg "_law_way" = some (.ref t.oN)
 wj:Fun K "_law_way" "_law_way" n6 t.oN t.wX
 pR:mg "_law_sender" = some (.ref t.jg)
 pK:Fun K "_law_sender" "_law_sender" fF t.jg t.pC
 vg:mg "_law_plan" = some (.ref t.k9)
 uf:Fun K "_law_plan" "_law_plan" fu t.k9 t.uo
 tE:mg "_law_road" = some (.ref t.lB)
 tZ:Fun K "_law_road" "_law_road" lK t.lB t.uT
 o9:mg "_law_number" = some (.ref t.iW)
 oU:Fun K "_law_number" "_law_number" i7 t.iW t.pE
 lR:mg "_law_rule_bad" = some (.ref t.gX)
 lU:Fun K "_law_rule_bad" "_law_rule_bad" gM t.gX t.l5
 kq:mg "_law_exchanged" = some (.ref t.f6)
 kh:Fun K "_law_exchanged" "_law_exchanged" fN t.f6 t.kH
 u6:mg "_law_told" = some (.ref t.kM)
 uS:Fun K "_law_told" "_law_told" lu t.kM t.uB
 Lv:mg "law" = some (.ref t.Di)
 y6:Fun K "law" "law" Ds t.Di t.GR
 uV:mg "abs" = none
 Cd:mg "all" = none
 Ca:mg "bool" = none
 Hf:mg "int" = none
 br:mg "isinstance" = none
 dU:mg "len" = none
 xq:mg "list" = none
 yF:mg "range" = none
 yj:mg "reversed" = none
 Ha:mg "set" = none
 tS:mg "sorted" = none
 BU:mg "str" = none
 cI:mg "tuple" = none
 Ij:GV K mg "BEAT" (.int 2)
 Ge:GV K mg "BEGIN" (.int 3)
 JY:GV K mg "GRID" (.int 0)
 AV:GV K mg "LETTERS" (.str "abcdefghijklmnopqrstuvwxyz")
 mv:GV K mg "LONGEST_NAME" (.int 8)
 JU:GV K mg "MANY" (.int 4)
 JG:GV K mg "MARK" (.int 3)
 xI:GV K mg "MOST" (.int 60)
 vi:GV K mg "MOST_BEAT" (.int 8)
 kb:GV K mg "MOST_COUNT" (.int 1000000)
 uF:GV K mg "MOST_GRID" (.int 60)
 tN:GV K mg "MOST_MARK" (.int 60)
 u4:GV K mg "MOST_PACE" (.int 20)
 uO:GV K mg "MOST_ROOM" (.int 60)
 mK:GV K mg "MOST_SENDERS" (.int 8)
 tK:GV K mg "MOST_WAYS" (.int 6)
 nJ:GV K mg "NAME" (.int 0)
 n4:GV K mg "NOUGHT" (.tup [.int 0,.int 1])
 mT:GV K mg "ONE" (.tup [.int 1,.int 1])
 Jw:GV K mg "PACE" (.int 1)
 Jk:GV K mg "ROAD" (.int 1)
 HP:GV K mg "ROOM" (.int 2)
 IH:GV K mg "RULE" (.int 5)
 AX:GV K mg "SENDERS" (.int 2)
 Hq:GV K mg "SORT" (.int 4)
 CF:GV K mg "WAYS" (.int 1)
 qd:GT Pm K mg "LENGTHS" [((Nr "still"),(.int 2:D)),((Nr "step"),(.int 5:D)),((Nr "swell"),(.int 5:D)),((Nr "heed"),(.int 5:D)),((Nr "calm"),(.int 6:D))]
local macro_rules | `(tactic| walk_at "sc")=>`(tactic| exact K5 rfl rfl rfl rfl (by decide +kernel))
local macro_rules | `(tactic| walk_at "b1")=>`(tactic| (rename_i hl;obtain ⟨x0,e⟩:=Mi hl;subst e;rfl))
local macro_rules | `(tactic| walk_at "b2")=>`(tactic| (rename_i hl;obtain ⟨x0,x1,e⟩:=Mm hl;subst e;rfl))
local macro_rules | `(tactic| walk_at "b3")=>`(tactic| (rename_i hl;obtain ⟨x0,x1,x2,e⟩:=Mq hl;subst e;rfl))
local macro_rules | `(tactic| walk_at "b4")=>`(tactic| (rename_i hl;obtain ⟨x0,x1,x2,x3,e⟩:=Mp hl;subst e;rfl))
section
variable {P:NO} {w:N0} {K:Nt} {mg:Str->Option Nu} {base:Heap} {t:Adr}
theorem t7:aM ["thing"] ["thing"] (ay mR):=by walk_at "sc"
theorem jr (T:Txt w.params K mg t):aV P w K mg base 1 "is_whole" ["thing"] L3.bZ:=aO T.wu T.wg t7 L3.nZ L3.pf (λ_ _ _ _ _ _ _ _=>by walk_at "b1") λ_ _ _ _ _ _ hr hu=>
 av (aC (cT (cH rfl T.br rfl (af 0) rfl T.Hf rfl) (cU (xV (cH rfl T.br rfl (af 0) rfl T.Ca rfl)))))
theorem jl:aM ["thing", "least", "most"] ["thing", "least", "most"] (ay fq):=by walk_at "sc"
theorem aZ (T:Txt w.params K mg t):aV P w K mg base 2 "is_whole_within" ["thing", "least", "most"] L3.aL:=aO T.jJ T.jC jl L3.g4 L3.iu (λ_ _ _ _ _ _ _ _=>by walk_at "b3") λ_ _ _ _ _ _ hr hu=>
 av (aC (cT (aj (jr T) hr rfl (aa (af 0) (ag))) (cU (Ct qB qB (cS _) (cS _) (af 1) (af 0) (af 2)))))
theorem mX:aM ["thing", "many"] ["thing", "many"] (ay i8):=by walk_at "sc"
theorem dH (T:Txt w.params K mg t):aV P w K mg base 1 "is_tuple_of" ["thing", "many"] L3.bC:=aO T.pj T.oX mX L3.jF L3.kx (λ_ _ _ _ _ _ _ _=>by walk_at "b2") λ_ _ _ _ _ _ hr hu=>
 av (aC (cT (cH rfl T.br rfl (af 0) rfl T.cI rfl) (cU (le_eq hu (aW bu bQ rfl T.dU rfl (aa (af 0) (ag))) (af 1)))))
theorem wD:aM ["thing"] ["thing"] (ay kE):=by walk_at "sc"
theorem ky (T:Txt w.params K mg t):aV P w K mg base 1 "is_name" ["thing"] L3.ck:=aO T.AF T.zR wD L3.o5 L3.rY (λ_ _ _ _ _ _ _ _=>by walk_at "b1") λ_ _ _ _ _ _ hr hu=>
 aq (bh (LW.lt (eo (bj (bx (cH rfl T.br rfl (af 0) rfl T.BU rfl))) (cQ (bj (lt_chain qB qB (cS _) (cS _) (le_int) (aW bu bQ rfl T.dU rfl (aa (af 0) (ag))) (ba rfl T.mv)))))) (av (aC (bE))) (aN)) (av (aC (aW (kF rfl) rB rfl T.Cd rfl (aa (dY (fsc:=ay kE) ["thing"] ["sign"] 1 [] rfl rfl (JQ (af 0)) (λcl C s₀ H₀ ex=>⟨cy 0 (show (["sign"]:List Str).Nodup from by decide +kernel),eU,I0 (af 0) (ba rfl T.AV)⟩) rfl rfl (by decide +kernel)) (ag)))))
theorem cp:aM ["one", "other", "divisor", "rest", "behind"] ["one", "other"] (ay kR):=by walk_at "sc"
theorem vH (T:Txt w.params K mg t):aV P w K mg base 1 "common_of" ["one", "other"] L3.eV:=aO T.vL T.tf cp L3.oS L3.qJ (λ_ _ _ _ _ _ _ _=>by walk_at "b2") λ_ _ _ _ _ _ hr hu=>
 aq (aF 2 cp.nd (aW h9 jt rfl T.uV rfl (aa (af 0) (ag)))) (aq (aF 3 cp.nd (aW h9 jt rfl T.uV rfl (aa (af 1) (ag)))) (aq (uL Qf (qF (af 3) (le_int)) (aq (aF 4 cp.nd (d7 (af 2) (af 3))) (aq (aF 2 cp.nd (af 3)) (av (aF 3 cp.nd (af 4)))))) (av (aC (af 2)))))
theorem mN:aM ["thing"] ["thing"] (ay ji):=by walk_at "sc"
theorem pD (T:Txt w.params K mg t):aV P w K mg base 2 "is_fraction" ["thing"] L3.cq:=aO T.o6 T.pw mN L3.jw L3.ke (λ_ _ _ _ _ _ _ _=>by walk_at "b1") λ_ _ _ _ _ _ hr hu=>
 aq (bh (LW.lt (eo (bj (bx (aj (dH T) hr rfl (aa (af 0) (aa (le_int) (ag)))))) (eo (bj (bx (aj (jr T) hr rfl (aa (aD (af 0) (le_int)) (ag))))) (cQ (bj (bx (aj (jr T) hr rfl (aa (aD (af 0) (le_int)) (ag))))))))) (av (aC (bE))) (aN)) (av (aC (cT (LQ (aD (af 0) (le_int)) (le_int)) (cU (le_eq hu (aj (vH T) hr rfl (aa (aD (af 0) (le_int)) (aa (aD (af 0) (le_int)) (ag)))) (le_int))))))
theorem FR:aM ["one", "other"] ["one", "other"] (ay Ef):=by walk_at "sc"
theorem sP (T:Txt w.params K mg t):aV P w K mg base 1 "less" ["one", "other"] L3.bY:=aO T.Jb T.Hs FR L3.wH L3.zI (λ_ _ _ _ _ _ _ _=>by walk_at "b2") λ_ _ _ _ _ _ hr hu=>
 av (aC (LH (le_mul (aD (af 0) (le_int)) (aD (af 1) (le_int))) (le_mul (aD (af 1) (le_int)) (aD (af 0) (le_int)))))
theorem AO:aM ["rule"] ["rule"] (ay tH):=by walk_at "sc"
theorem uJ (T:Txt w.params K mg t):aV P w K mg base 1 "top_of" ["rule"] L3.cD:=aO T.CA T.Bg AO L3.rV L3.vF (λ_ _ _ _ _ _ _ _=>by walk_at "b1") λ_ _ _ _ _ _ hr hu=>
 av (aC (aD (af 0) (nO (aW bu bQ rfl T.dU rfl (aa (af 0) (ag))) (le_int))))
theorem gZ:aM ["thing", "least", "most"] ["thing", "least", "most"] (ay dS):=by walk_at "sc"
theorem bO (T:Txt w.params K mg t):aV P w K mg base 3 "is_fraction_within" ["thing", "least", "most"] L3.aI:=aO T.g6 T.g9 gZ L3.fz L3.fZ (λ_ _ _ _ _ _ _ _=>by walk_at "b3") λ_ _ _ _ _ _ hr hu=>
 av (aC (cT (aj (pD T) hr rfl (aa (af 0) (ag))) (cT (xV (aj (sP T) hr rfl (aa (af 0) (aa (af 1) (ag))))) (cU (xV (aj (sP T) hr rfl (aa (af 2) (aa (af 0) (ag)))))))))
theorem ib:aM ["thing", "bound", "most"] ["thing", "bound", "most"] (ay eB):=by walk_at "sc"
theorem cw (T:Txt w.params K mg t):aV P w K mg base 4 "is_fraction_above" ["thing", "bound", "most"] L3.aJ:=aO T.iS T.iV ib L3.fY L3.gs (λ_ _ _ _ _ _ _ _=>by walk_at "b3") λ_ _ _ _ _ _ hr hu=>
 av (aC (cT (aj (bO T) hr rfl (aa (af 0) (aa (af 1) (aa (af 2) (ag))))) (cU (aj (sP T) hr rfl (aa (af 1) (aa (af 0) (ag)))))))
theorem fH:aM ["thing", "most", "least"] ["thing"] (ay jI):=by walk_at "sc"
theorem rM (T:Txt w.params K mg t):aV P w K mg base 5 "is_growing" ["thing"] L3.bI:=aO T.qO T.rZ fH L3.kA L3.lZ (λ_ _ _ _ _ _ _ _=>by walk_at "b1") λ_ _ _ _ _ _ hr hu=>
 aq (aF 1 fH.nd (ax (aa (ba rfl T.xI) (aa (le_int) (ag))))) (aq (bh (bj (bx (aj (bO T) hr rfl (aa (aj (uJ T) hr rfl (aa (af 0) (ag))) (aa (ba rfl T.mT) (aa (af 1) (ag))))))) (av (aC (bE))) (aN)) (aq (aF 2 fH.nd (Km (lt_eq hu (aD (af 0) (le_int)) (le_str)) (ba rfl T.mT) (ba rfl T.n4))) (av (aC (cT (aj (bO T) hr rfl (aa (aD (af 0) (le_int)) (aa (ba rfl T.mT) (aa (aj (uJ T) hr rfl (aa (af 0) (ag))) (ag))))) (cU (aj (cw T) hr rfl (aa (aD (af 0) (le_int)) (aa (af 2) (aa (af 1) (ag)))))))))))
theorem lW:aM ["low", "high"] ["low", "high"] (ay ir):=by walk_at "sc"
theorem oE (T:Txt w.params K mg t):aV P w K mg base 3 "is_calm_span" ["low", "high"] L3.b9:=aO T.nR T.mM lW L3.jo L3.jW (λ_ _ _ _ _ _ _ _=>by walk_at "b2") λ_ _ _ _ _ _ hr hu=>
 av (aC (cT (aj (aZ T) hr rfl (aa (af 1) (aa (le_int) (aa (ba rfl T.xI) (ag))))) (cU (aj (aZ T) hr rfl (aa (af 0) (aa (le_int) (aa (af 1) (ag))))))))
theorem oa:aM ["thing", "word"] ["thing"] (ay qa):=by walk_at "sc"
theorem Aq (T:Txt w.params K mg t):aV P w K mg base 6 "is_rule" ["thing"] L3.eS:=aO T.zZ T.zv oa L3.oZ L3.sE (λ_ _ _ _ _ _ _ _=>by walk_at "b1") λ_ _ _ _ _ _ hr hu=>
 aq (bh (LW.lt (eo (bj (bx (cH rfl T.br rfl (af 0) rfl T.cI rfl))) (eo (lt_eq hu (aW bu bQ rfl T.dU rfl (aa (af 0) (ag))) (le_int)) (cQ (bj (bx (cH rfl T.br rfl (aD (af 0) (le_int)) rfl T.BU rfl))))))) (av (aC (bE))) (aN)) (aq (aF 1 oa.nd (aD (af 0) (le_int))) (aq (bh (LW.lt (eo (ve rfl T.qd (af 1)) (cQ (Mb hu (aW bu bQ rfl T.dU rfl (aa (af 0) (ag))) (BO rfl T.qd (af 1)))))) (av (aC (bE))) (aN)) (aq (bh (lt_eq hu (af 1) (le_str)) (av (aC (aj (bO T) hr rfl (aa (aD (af 0) (le_int)) (aa (ba rfl T.mT) (aa (ax (aa (ba rfl T.xI) (aa (le_int) (ag)))) (ag))))))) (aN)) (aq (bh (bj (bx (aj (rM T) hr rfl (aa (af 0) (ag))))) (av (aC (bE))) (aN)) (aq (bh (lt_eq hu (af 1) (le_str)) (av (aC (aj (oE T) hr rfl (aa (aD (af 0) (le_int)) (aa (aD (af 0) (le_int)) (ag)))))) (aN)) (aq (bh (lt_eq hu (af 1) (le_str)) (av (aC (aj (cw T) hr rfl (aa (aD (af 0) (le_int)) (aa (ba rfl T.n4) (aa (ba rfl T.mT) (ag))))))) (aN)) (av (aC (cT (aj (cw T) hr rfl (aa (aD (af 0) (le_int)) (aa (ba rfl T.n4) (aa (ba rfl T.mT) (ag))))) (cU (aj (sP T) hr rfl (aa (aD (af 0) (le_int)) (aa (ba rfl T.mT) (ag))))))))))))))
theorem iB:aM ["thing", "most"] ["thing", "most"] (ay eh):=by walk_at "sc"
theorem eI (T:Txt w.params K mg t):aV P w K mg base 3 "is_none_or_within" ["thing", "most"] L3.bq:=aO T.iQ T.iR iB L3.f9 L3.gk (λ_ _ _ _ _ _ _ _=>by walk_at "b2") λ_ _ _ _ _ _ hr hu=>
 av (aC (Mk (Kr (af 0) (ff)) (cU (aj (aZ T) hr rfl (aa (af 0) (aa (le_int) (aa (af 1) (ag))))))))
theorem wY:aM ["thing"] ["thing"] (ay qg):=by walk_at "sc"
theorem Ab (T:Txt w.params K mg t):aV P w K mg base 1 "is_sort" ["thing"] L3.eN:=aO T.AS T.zH wY L3.pJ L3.sj (λ_ _ _ _ _ _ _ _=>by walk_at "b1") λ_ _ _ _ _ _ hr hu=>
 av (aC (cT (cH rfl T.br rfl (af 0) rfl T.BU rfl) (cU (HA hu (af 0) (ax (aa (le_str) (aa (le_str) (ag))))))))
theorem AK:aM ["thing"] ["thing"] (ay ub):=by walk_at "sc"
theorem Cs (T:Txt w.params K mg t):aV P w K mg base 4 "is_way" ["thing"] L3.fj:=aO T.C0 T.DW AK L3.qQ L3.u0 (λ_ _ _ _ _ _ _ _=>by walk_at "b1") λ_ _ _ _ _ _ hr hu=>
 aq (bh (LW.lt (eo (bj (bx (aj (dH T) hr rfl (aa (af 0) (aa (le_int) (ag)))))) (cQ (bj (bx (aj (ky T) hr rfl (aa (aD (af 0) (ba rfl T.nJ)) (ag)))))))) (av (aC (bE))) (aN)) (aq (bh (LW.lt (eo (bj (bx (aj (aZ T) hr rfl (aa (aD (af 0) (ba rfl T.Jw)) (aa (le_int) (aa (ba rfl T.u4) (ag))))))) (cQ (bj (bx (aj (aZ T) hr rfl (aa (aD (af 0) (ba rfl T.HP)) (aa (le_int) (aa (ba rfl T.uO) (ag)))))))))) (av (aC (bE))) (aN)) (av (aC (cT (aj (eI T) hr rfl (aa (aD (af 0) (ba rfl T.JG)) (aa (ba rfl T.tN) (ag)))) (cU (aj (Ab T) hr rfl (aa (aD (af 0) (ba rfl T.Hq)) (ag))))))))
theorem sZ:aM ["thing"] ["thing"] (ay gH):=by walk_at "sc"
theorem wm (T:Txt w.params K mg t):aV P w K mg base 5 "are_ways" ["thing"] L3.dA:=aO T.yb T.xm sZ L3.nX L3.pI (λ_ _ _ _ _ _ _ _=>by walk_at "b1") λ_ _ _ _ _ _ hr hu=>
 aq (bh (LW.lt (eo (bj (bx (cH rfl T.br rfl (af 0) rfl T.cI rfl))) (cQ (bj (lt_chain qB qB (cS _) (cS _) (le_int) (aW bu bQ rfl T.dU rfl (aa (af 0) (ag))) (ba rfl T.tK)))))) (av (aC (bE))) (aN)) (aq (bh (bj (bx (aW (kF rfl) rB rfl T.Cd rfl (aa (dY (fsc:=ay gH) ["thing"] ["way"] 1 [] rfl rfl (fM (af 0)) (λcl C s₀ H₀ ex=>⟨cy 0 (show (["way"]:List Str).Nodup from by decide +kernel),eU,aj (Cs T) hr rfl (aa (af 0) (ag))⟩) rfl rfl (by decide +kernel)) (ag))))) (av (aC (bE))) (aN)) (av (aC (le_eq hu (Al rfl rfl T.dU rfl rfl T.Ha rfl (dY (fsc:=ay gH) ["thing"] ["way"] 1 [] rfl rfl (fM (af 0)) (λcl C s₀ H₀ ex=>⟨cy 0 (show (["way"]:List Str).Nodup from by decide +kernel),eU,aD (af 0) (ba rfl T.nJ)⟩) rfl rfl (by decide +kernel))) (aW bu bQ rfl T.dU rfl (aa (af 0) (ag)))))))
theorem gq:aM ["thing", "names", "behind", "name"] ["thing", "names"] (ay qz):=by walk_at "sc"
theorem zX (T:Txt w.params K mg t):aV P w K mg base 2 "is_road" ["thing", "names"] L3.eK:=aO T.AB T.Ah gq L3.oW L3.rj (λ_ _ _ _ _ _ _ _=>by walk_at "b2") λ_ _ _ _ _ _ hr hu=>
 aq (bh (LW.lt (eo (bj (bx (cH rfl T.br rfl (af 0) rfl T.cI rfl))) (cQ (lt_eq hu (aW bu bQ rfl T.dU rfl (aa (af 0) (ag))) (le_int))))) (av (aC (bE))) (aN)) (aq (aF 2 gq.nd (le_int)) (aq (wO Qf rfl (fM (af 0)) (rP 3 gq.nd) (aq (bh (LW.lt (eo (bj (bx (aj (ky T) hr rfl (aa (af 3) (ag))))) (cQ (Ay hu (af 3) (ee (af 1) (cv (af 2)) (eE)))))) (av (aC (bE))) (aN)) (av (aF 2 gq.nd (aB (C2 hu (af 1) (af 3)) (le_int)))))) (av (aC (bE)))))
theorem sH:aM ["thing", "ways"] ["thing", "ways"] (ay iA):=by walk_at "sc"
theorem vM (T:Txt w.params K mg t):aV P w K mg base 7 "is_sender" ["thing", "ways"] L3.cL:=aO T.tW T.ug sH L3.lO L3.nW (λ_ _ _ _ _ _ _ _=>by walk_at "b2") λ_ _ _ _ _ _ hr hu=>
 aq (bh (LW.lt (eo (bj (bx (aj (dH T) hr rfl (aa (af 0) (aa (le_int) (ag)))))) (cQ (bj (bx (aj (ky T) hr rfl (aa (aD (af 0) (ba rfl T.nJ)) (ag)))))))) (av (aC (bE))) (aN)) (aq (bh (LW.lt (eo (bj (bx (aj (zX T) hr rfl (aa (aD (af 0) (ba rfl T.Jk)) (aa (dY (fsc:=ay iA) ["thing", "ways"] ["way"] 1 [] rfl rfl (fM (af 1)) (λcl C s₀ H₀ ex=>⟨cy 0 (show (["way"]:List Str).Nodup from by decide +kernel),eU,aD (af 0) (ba rfl T.nJ)⟩) rfl rfl (by decide +kernel)) (ag)))))) (cQ (bj (bx (aj (aZ T) hr rfl (aa (aD (af 0) (ba rfl T.Ij)) (aa (le_int) (aa (ba rfl T.vi) (ag)))))))))) (av (aC (bE))) (aN)) (aq (bh (LW.lt (eo (bj (bx (aj (aZ T) hr rfl (aa (aD (af 0) (ba rfl T.Ge)) (aa (le_int) (aa (ba rfl T.kb) (ag))))))) (cQ (bj (bx (aj (eI T) hr rfl (aa (aD (af 0) (ba rfl T.JU)) (aa (ba rfl T.kb) (ag))))))))) (av (aC (bE))) (aN)) (av (aC (aj (Aq T) hr rfl (aa (aD (af 0) (ba rfl T.IH)) (ag)))))))
theorem ip:aM ["thing", "ways", "names"] ["thing", "ways"] (ay dR):=by walk_at "sc"
theorem pH (T:Txt w.params K mg t):aV P w K mg base 8 "are_senders" ["thing", "ways"] L3.cn:=aO T.pQ T.o4 ip L3.jz L3.ku (λ_ _ _ _ _ _ _ _=>by walk_at "b2") λ_ _ _ _ _ _ hr hu=>
 aq (bh (LW.lt (eo (bj (bx (cH rfl T.br rfl (af 0) rfl T.cI rfl))) (cQ (qF (aW bu bQ rfl T.dU rfl (aa (af 0) (ag))) (ba rfl T.mK))))) (av (aC (bE))) (aN)) (aq (bh (bj (bx (aW (kF rfl) rB rfl T.Cd rfl (aa (dY (fsc:=ay dR) ["thing", "ways", "names"] ["sender", "ways"] 1 [1] rfl rfl (fM (af 0)) (λcl C s₀ H₀ ex=>⟨cy 0 (show (["sender", "ways"]:List Str).Nodup from by decide +kernel),eU,aj (vM T) hr rfl (aa (af 0) (aa (af 1) (ag)))⟩) rfl rfl (by decide +kernel)) (ag))))) (av (aC (bE))) (aN)) (aq (vQ (fsc:=ay dR) 2 ip.nd ["thing", "ways", "names"] ["sender"] 1 [] rfl rfl (fM (af 0)) (λcl C s₀ H₀ ex=>⟨cy 0 (show (["sender"]:List Str).Nodup from by decide +kernel),eU,aD (af 0) (ba rfl T.nJ)⟩) rfl rfl (by decide +kernel)) (av (aC (le_eq hu (af 2) (xr rfl rfl T.tS rfl rfl T.Ha rfl (af 2)))))))
theorem xB:aM ["thing"] ["thing"] (ay qo):=by walk_at "sc"
theorem z8 (T:Txt w.params K mg t):aV P w K mg base 9 "is_plan" ["thing"] L3.eX:=aO T.zx T.zw xB L3.oQ L3.rD (λ_ _ _ _ _ _ _ _=>by walk_at "b1") λ_ _ _ _ _ _ hr hu=>
 aq (bh (LW.lt (eo (bj (bx (aj (dH T) hr rfl (aa (af 0) (aa (le_int) (ag)))))) (cQ (bj (bx (aj (aZ T) hr rfl (aa (aD (af 0) (ba rfl T.JY)) (aa (le_int) (aa (ba rfl T.uF) (ag)))))))))) (av (aC (bE))) (aN)) (av (aC (cT (aj (wm T) hr rfl (aa (aD (af 0) (ba rfl T.CF)) (ag))) (cU (aj (pH T) hr rfl (aa (aD (af 0) (ba rfl T.AX)) (aa (aD (af 0) (ba rfl T.CF)) (ag))))))))
theorem iq:aM ["_law_script", "_law_k", "_law_cell"] ["_law_script", "_law_k"] (ay mF):=by walk_at "sc"
theorem nY (T:Txt w.params K mg t):aV P w K mg base 1 "_law_box" ["_law_script", "_law_k"] L3.jQ:=aO T.xi T.xk iq L3.C5 L3.Fq (λ_ _ _ _ _ _ _ _=>by walk_at "b2") λ_ _ _ _ _ _ hr hu=>
 aq (aF 2 iq.nd (le_int)) (aq (bh (Mh (af 1) (aW bu bQ rfl T.dU rfl (aa (af 0) (ag)))) (av (aF 2 iq.nd (aD (af 0) (af 1)))) (aN)) (av (aC (Eg (aa (le_mul (d7 (aW h9 jt rfl T.uV rfl (aa (af 2) (ag))) (le_pow (le_int) (le_int))) (e7 Ai FI rfl T.Hf rfl (aa (KR (aW h9 jt rfl T.uV rfl (aa (af 2) (ag))) (le_pow (le_int) (le_int))) (ag)))) (aa (d7 (aB (aB (af 2) (le_mul (le_mul (le_int) (af 1)) (af 1))) (le_mul (le_int) (af 1))) (le_int)) (aa (le_int) (ag))))))))
theorem gi:aM ["_law_box_here", "_law_many", "_law_told_here", "_law_once"] ["_law_box_here", "_law_many"] (ay lD):=by walk_at "sc"
theorem au (T:Txt w.params K mg t):aV P w K mg base 1 "_law_take" ["_law_box_here", "_law_many"] gF:=aO T.uH T.vR gi pk rf (λ_ _ _ _ _ _ _ _=>by walk_at "b2") λ_ _ _ _ _ _ hr hu=>
 aq (bh (qF (aD (af 0) (le_int)) (le_int)) (aq (aF 2 gi.nd (d7 (aD (af 0) (le_int)) (af 1))) (aq (oh (af 0) (le_int) (e9 (aD (af 0) (le_int)) (af 1))) (av (aC (af 2))))) (aN)) (aq (oh (af 0) (le_int) (aB (aD (af 0) (le_int)) (le_int))) (aq (aF 3 gi.nd (d7 (aB (aB (le_mul (aD (af 0) (le_int)) (le_int)) (le_mul (le_int) (aD (af 0) (le_int)))) (le_int)) (le_int))) (aq (oh (af 0) (le_int) (d7 (aB (le_mul (af 3) (af 3)) (aD (af 0) (le_int))) (le_int))) (av (aC (d7 (e9 (aD (af 0) (le_int)) (le_int)) (af 1)))))))
theorem bo:aM ["_law_box_here", "_law_many", "_law_letters", "_law_size", "_law_at", "_law_first", "_law_way_here", "_law_found", "_law_k", "_law_sign", "_law_stem"] ["_law_box_here", "_law_many"] (ay jR):=by walk_at "sc"
theorem j7 (T:Txt w.params K mg t):aV P w K mg base 2 "_law_names" ["_law_box_here", "_law_many"] L3.fO:=aO T.rm T.r6 bo L3.wL L3.Aj (λ_ _ _ _ _ _ _ _=>by walk_at "b2") λ_ _ _ _ _ _ hr hu=>
 aq (aF 2 bo.nd (le_str)) (aq (aF 3 bo.nd (aB (le_int) (aj (au T) hr rfl (aa (af 0) (aa (le_int) (ag)))))) (aq (aF 4 bo.nd (aj (au T) hr rfl (aa (af 0) (aa (af 3) (ag))))) (aq (aF 5 bo.nd (aj (au T) hr rfl (aa (af 0) (aa (le_int) (ag))))) (aq (aF 6 bo.nd (aj (au T) hr rfl (aa (af 0) (aa (le_int) (ag))))) (aq (aF 7 bo.nd (Eg (ag))) (aq (wO Qf rfl (pY rfl T.yF (af 1)) (rP 8 bo.nd) (aq (aF 9 bo.nd (vZ (af 2) (d7 (aB (af 5) (le_mul (le_int) (af 8))) (le_int)))) (av (bh (lt_eq hu (af 6) (le_int)) (aq (aF 10 bo.nd (vZ (af 2) (af 4))) (av (sJ (le_app (af 7) (aB (aB (mi (af 10) (af 4)) (af 9)) (mi (af 10) (nO (nO (af 3) (le_int)) (af 4)))))))) (av (bh (lt_eq hu (af 6) (le_int)) (av (sJ (le_app (af 7) (mi (af 9) (aB (le_int) (d7 (aB (af 5) (le_mul (le_int) (af 8))) (le_int))))))) (av (sJ (le_app (af 7) (mi (vZ (af 2) (af 5)) (aB (le_int) (af 8)))))))))))) (av (aC (HL (af 7))))))))))
theorem gm:aM ["_law_top", "_law_bottom", "_law_one", "_law_other"] ["_law_top", "_law_bottom"] (ay lJ):=by walk_at "sc"
theorem ik (T:Txt w.params K mg t):aV P w K mg base 1 "_law_part" ["_law_top", "_law_bottom"] L3.dX:=aO T.uu T.u7 gm L3.AQ L3.By (λ_ _ _ _ _ _ _ _=>by walk_at "b2") λ_ _ _ _ _ _ hr hu=>
 aq (BN 2 3 rfl gm.nd (aa (aW h9 jt rfl T.uV rfl (aa (af 0) (ag))) (aa (af 1) (ag)))) (aq (uL Qf (qF (af 3) (le_int)) (av (BN 2 3 rfl gm.nd (aa (af 3) (aa (d7 (af 2) (af 3)) (ag)))))) (av (aC (ax (aa (e9 (af 0) (af 2)) (aa (e9 (af 1) (af 2)) (ag)))))))
theorem fP:aM ["_law_box_here", "_law_low", "_law_high", "_law_bottom"] ["_law_box_here", "_law_low", "_law_high"] (ay gW):=by walk_at "sc"
theorem gO (T:Txt w.params K mg t):aV P w K mg base 2 "_law_fraction" ["_law_box_here", "_law_low", "_law_high"] L3.bV:=aO T.l9 T.lQ fP L3.pG L3.rg (λ_ _ _ _ _ _ _ _=>by walk_at "b3") λ_ _ _ _ _ _ hr hu=>
 aq (aF 3 fP.nd (aD (bc (aa (le_int) (aa (le_int) (aa (le_int) (aa (le_int) (aa (le_int) (aa (le_int) (ag)))))))) (aj (au T) hr rfl (aa (af 0) (aa (le_int) (ag)))))) (av (aC (aj (ik T) hr rfl (aa (aB (le_mul (af 1) (af 3)) (aj (au T) hr rfl (aa (af 0) (aa (aB (le_mul (nO (af 2) (af 1)) (af 3)) (le_int)) (ag))))) (aa (af 3) (ag))))))
theorem bU:aM ["_law_box_here", "_law_most", "_law_word", "_law_top", "_law_w", "_law_up", "_law_down", "_law_low"] ["_law_box_here", "_law_most"] (ay la):=by walk_at "sc"
theorem vq (T:Txt w.params K mg t):aV P w K mg base 3 "_law_rule" ["_law_box_here", "_law_most"] gB:=aO T.uD T.vB bU pS sF (λ_ _ _ _ _ _ _ _=>by walk_at "b2") λ_ _ _ _ _ _ hr hu=>
 aq (aF 2 bU.nd (aD (bc (aa (le_str) (aa (le_str) (aa (le_str) (aa (le_str) (aa (le_str) (ag))))))) (aj (au T) hr rfl (aa (af 0) (aa (le_int) (ag)))))) (aq (aF 3 bU.nd (aj (gO T) hr rfl (aa (af 0) (aa (le_int) (aa (af 1) (ag)))))) (aq (aF 4 bU.nd (aj (gO T) hr rfl (aa (af 0) (aa (le_int) (aa (e9 (aD (af 3) (le_int)) (aD (af 3) (le_int))) (ag)))))) (aq (bh (lt_eq hu (af 2) (le_str)) (av (aC (ax (aa (af 2) (aa (af 4) (ag)))))) (aN)) (aq (aF 5 bU.nd (aj (ik T) hr rfl (aa (aB (le_int) (aj (au T) hr rfl (aa (af 0) (aa (le_int) (ag))))) (aa (aB (le_int) (aj (au T) hr rfl (aa (af 0) (aa (le_int) (ag))))) (ag))))) (aq (aF 6 bU.nd (aD (bc (aa (ax (aa (le_int) (aa (le_int) (ag)))) (aa (ax (aa (le_int) (aa (le_int) (ag)))) (aa (ax (aa (le_int) (aa (le_int) (ag)))) (aa (ax (aa (le_int) (aa (le_int) (ag)))) (ag)))))) (aj (au T) hr rfl (aa (af 0) (aa (le_int) (ag)))))) (aq (bh (lt_eq hu (af 2) (le_str)) (av (aC (ax (aa (af 2) (aa (af 4) (aa (aj (ik T) hr rfl (aa (aB (aD (af 5) (le_int)) (aD (af 5) (le_int))) (aa (aD (af 5) (le_int)) (ag)))) (aa (af 6) (aa (af 3) (ag))))))))) (aN)) (aq (bh (lt_eq hu (af 2) (le_str)) (av (aC (ax (aa (af 2) (aa (af 4) (aa (af 5) (aa (aD (bc (aa (af 6) (aa (ax (aa (le_int) (aa (le_int) (ag)))) (aa (ax (aa (le_int) (aa (le_int) (ag)))) (ag))))) (aj (au T) hr rfl (aa (af 0) (aa (le_int) (ag))))) (aa (af 3) (ag))))))))) (aN)) (aq (bh (lt_eq hu (af 2) (le_str)) (aq (aF 7 bU.nd (aj (au T) hr rfl (aa (af 0) (aa (le_int) (ag))))) (av (aC (ax (aa (af 2) (aa (af 4) (aa (af 5) (aa (af 7) (aa (aB (af 7) (aj (au T) hr rfl (aa (af 0) (aa (le_int) (ag))))) (aa (af 3) (ag))))))))))) (aN)) (av (aC (ax (aa (af 2) (aa (af 4) (aa (af 5) (aa (af 6) (aa (af 3) (ag)))))))))))))))))
theorem fm:aM ["_law_box_here", "_law_name", "_law_pace", "_law_room", "_law_mark"] ["_law_box_here", "_law_name"] (ay n6):=by walk_at "sc"
theorem wV (T:Txt w.params K mg t):aV P w K mg base 2 "_law_way" ["_law_box_here", "_law_name"] L3.mr:=aO T.wM T.wj fm L3.C8 L3.Fh (λ_ _ _ _ _ _ _ _=>by walk_at "b2") λ_ _ _ _ _ _ hr hu=>
 aq (aF 2 fm.nd (aD (bc (aa (aB (le_int) (aj (au T) hr rfl (aa (af 0) (aa (le_int) (ag))))) (aa (aB (le_int) (aj (au T) hr rfl (aa (af 0) (aa (le_int) (ag))))) (ag)))) (e9 (aj (au T) hr rfl (aa (af 0) (aa (le_int) (ag)))) (le_int)))) (aq (aF 3 fm.nd (aD (bc (aa (aB (le_int) (aj (au T) hr rfl (aa (af 0) (aa (le_int) (ag))))) (aa (aB (le_int) (aj (au T) hr rfl (aa (af 0) (aa (le_int) (ag))))) (ag)))) (e9 (aj (au T) hr rfl (aa (af 0) (aa (le_int) (ag)))) (le_int)))) (aq (aF 4 fm.nd (aD (bc (aa (ff) (aa (d7 (aj (au T) hr rfl (aa (af 0) (aa (aB (af 3) (le_int)) (ag)))) (le_int)) (aa (le_int) (ag))))) (d7 (aj (au T) hr rfl (aa (af 0) (aa (le_int) (ag)))) (le_int)))) (av (aC (ax (aa (af 1) (aa (af 2) (aa (af 3) (aa (af 4) (aa (aD (bc (aa (le_str) (aa (le_str) (ag)))) (aj (au T) hr rfl (aa (af 0) (aa (le_int) (ag))))) (ag)))))))))))
theorem cj:aM ["_law_box_here", "_law_name", "_law_ways", "_law_most", "_law_road_here", "_law_beat", "_law_many"] ["_law_box_here", "_law_name", "_law_ways", "_law_most"] (ay fF):=by walk_at "sc"
theorem jb (T:Txt w.params K mg t):aV P w K mg base 4 "_law_sender" ["_law_box_here", "_law_name", "_law_ways", "_law_most"] fc:=aO T.pR T.pK cj lP oO (λ_ _ _ _ _ _ _ _=>by walk_at "b4") λ_ _ _ _ _ _ hr hu=>
 aq (aF 4 cj.nd (e7 cB fS rfl T.cI rfl (aa (dY (fsc:=ay fF) ["_law_box_here", "_law_name", "_law_ways", "_law_most", "_law_road_here", "_law_beat", "_law_many"] ["_law_way_here", "_law_box_here"] 1 [0] rfl rfl (fM (af 2)) (λcl C s₀ H₀ ex=>⟨cy 0 (show (["_law_way_here", "_law_box_here"]:List Str).Nodup from by decide +kernel),Fz (qF (aj (au T) hr rfl (aa (af 1) (aa (le_int) (ag)))) (le_int)),aD (af 0) (le_int)⟩) rfl rfl (by decide +kernel)) (ag)))) (aq (bh (lt_eq hu (af 4) (ax (ag))) (av (aF 4 cj.nd (ax (aa (aD (aD (af 2) (aj (au T) hr rfl (aa (af 0) (aa (aW bu bQ rfl T.dU rfl (aa (af 2) (ag))) (ag))))) (le_int)) (ag))))) (aN)) (aq (aF 5 cj.nd (aD (bc (aa (aB (le_int) (aj (au T) hr rfl (aa (af 0) (aa (le_int) (ag))))) (aa (aB (le_int) (aj (au T) hr rfl (aa (af 0) (aa (le_int) (ag))))) (ag)))) (e9 (aj (au T) hr rfl (aa (af 0) (aa (le_int) (ag)))) (le_int)))) (aq (aF 6 cj.nd (aD (bc (aa (ff) (aa (aj (au T) hr rfl (aa (af 0) (aa (le_int) (ag)))) (ag)))) (aj (au T) hr rfl (aa (af 0) (aa (le_int) (ag)))))) (av (aC (ax (aa (af 1) (aa (af 4) (aa (af 5) (aa (aj (au T) hr rfl (aa (af 0) (aa (le_int) (ag)))) (aa (af 6) (aa (aj (vq T) hr rfl (aa (af 0) (aa (af 3) (ag)))) (ag)))))))))))))
theorem cV:aM ["_law_box_here", "_law_most", "_law_senders", "_law_grid", "_law_many", "_law_ways", "_law_names_here"] ["_law_box_here", "_law_most", "_law_senders"] (ay fu):=by walk_at "sc"
theorem tT (T:Txt w.params K mg t):aV P w K mg base 5 "_law_plan" ["_law_box_here", "_law_most", "_law_senders"] L3.j9:=aO T.vg T.uf cV L3.zD L3.DZ (λ_ _ _ _ _ _ _ _=>by walk_at "b3") λ_ _ _ _ _ _ hr hu=>
 aq (aF 3 cV.nd (aD (bc (aa (le_int) (aa (le_int) (aa (le_int) (aa (aB (le_int) (aj (au T) hr rfl (aa (af 0) (aa (le_int) (ag))))) (ag)))))) (aj (au T) hr rfl (aa (af 0) (aa (le_int) (ag)))))) (aq (aF 4 cV.nd (aD (bc (aa (aB (le_int) (aj (au T) hr rfl (aa (af 0) (aa (le_int) (ag))))) (aa (aB (le_int) (aj (au T) hr rfl (aa (af 0) (aa (le_int) (ag))))) (ag)))) (e9 (aj (au T) hr rfl (aa (af 0) (aa (le_int) (ag)))) (le_int)))) (aq (aF 5 cV.nd (e7 cB fS rfl T.cI rfl (aa (dY (fsc:=ay fu) ["_law_box_here", "_law_most", "_law_senders", "_law_grid", "_law_many", "_law_ways", "_law_names_here"] ["_law_name", "_law_box_here"] 1 [0] rfl rfl (fM (aj (j7 T) hr rfl (aa (af 0) (aa (af 4) (ag))))) (λcl C s₀ H₀ ex=>⟨cy 0 (show (["_law_name", "_law_box_here"]:List Str).Nodup from by decide +kernel),eU,aj (wV T) hr rfl (aa (af 1) (aa (af 0) (ag)))⟩) rfl rfl (by decide +kernel)) (ag)))) (aq (aF 6 cV.nd (C9 rfl T.tS rfl (aa (aj (j7 T) hr rfl (aa (af 0) (aa (aj (au T) hr rfl (aa (af 0) (aa (aB (af 2) (le_int)) (ag)))) (ag)))) (ag)))) (av (aC (ax (aa (af 3) (aa (af 5) (aa (e7 cB fS rfl T.cI rfl (aa (dY (fsc:=ay fu) ["_law_box_here", "_law_most", "_law_senders", "_law_grid", "_law_many", "_law_ways", "_law_names_here"] ["_law_name", "_law_box_here", "_law_ways", "_law_most"] 1 [0,5,1] rfl rfl (fM (af 6)) (λcl C s₀ H₀ ex=>⟨cy 0 (show (["_law_name", "_law_box_here", "_law_ways", "_law_most"]:List Str).Nodup from by decide +kernel),eU,aj (jb T) hr rfl (aa (af 1) (aa (af 0) (aa (af 2) (aa (af 3) (ag)))))⟩) rfl rfl (by decide +kernel)) (ag))) (ag))))))))))
theorem eO:aM ["_law_box_here", "_law_road_here", "_law_names_here", "_law_some"] ["_law_box_here", "_law_road_here", "_law_names_here"] (ay lK):=by walk_at "sc"
theorem tI (T:Txt w.params K mg t):aV P w K mg base 2 "_law_road" ["_law_box_here", "_law_road_here", "_law_names_here"] eQ:=aO T.tE T.tZ eO oT qL (λ_ _ _ _ _ _ _ _=>by walk_at "b3") λ_ _ _ _ _ _ hr hu=>
 aq (aF 3 eO.nd (bc (aa (ax (ag)) (aa (om rfl rfl T.xq rfl (aa (af 1) (ag))) (aa (aB (af 1) (ax (aa (aD (af 1) (le_int)) (ag)))) (aa (ax (aa (aD (af 1) (le_int)) (aa (aD (af 1) (le_int)) (ag)))) (aa (aB (af 1) (ax (aa (le_str) (ag)))) (aa (ff) (aa (aD (af 1) (le_int)) (aa (ax (aa (ax (aa (aD (af 1) (le_int)) (ag))) (ag))) (ag))))))))))) (aq (aF 3 eO.nd (aB (af 3) (bc (aa (ax (aa (aB (aD (af 1) (le_int)) (le_str)) (ag))) (aa (ax (aa (le_int) (ag))) (aa (aB (ee (af 1) (eE) (cv (le_int))) (ax (aa (bE) (ag)))) (aa (CK (le_str) (af 1)) (ag)))))))) (aq (bh (qF (aW bu bQ rfl T.dU rfl (aa (af 2) (ag))) (le_int)) (av (aF 3 eO.nd (aB (af 3) (bc (aa (AM rfl rfl T.cI rfl rfl T.yj rfl (af 2)) (aa (ax (aa (aD (af 2) (le_neg (le_int))) (aa (aD (af 2) (le_int)) (ag)))) (aa (aB (e7 cB fS rfl T.cI rfl (aa (af 2) (ag))) (ax (aa (aD (af 2) (le_int)) (ag)))) (ag)))))))) (aN)) (av (aC (aD (af 3) (aj (au T) hr rfl (aa (af 0) (aa (aW bu bQ rfl T.dU rfl (aa (af 3) (ag))) (ag)))))))))
theorem il:aM ["_law_box_here", "_law_low", "_law_high", "_law_some"] ["_law_box_here", "_law_low", "_law_high"] (ay i7):=by walk_at "sc"
theorem fI (T:Txt w.params K mg t):aV P w K mg base 2 "_law_number" ["_law_box_here", "_law_low", "_law_high"] bT:=aO T.o9 T.oU il lY mI (λ_ _ _ _ _ _ _ _=>by walk_at "b3") λ_ _ _ _ _ _ hr hu=>
 aq (aF 3 il.nd (bc (aa (nO (af 1) (le_int)) (aa (aB (af 2) (le_int)) (aa (bE) (aa (bE) (aa (le_str) (aa (ax (aa (af 1) (ag))) (aa (bc (aa (af 2) (ag))) (aa (le_neg (le_pow (le_int) (le_int))) (aa (le_pow (le_int) (le_int)) (aa (Jr) (ag))))))))))))) (av (aC (aD (af 3) (aj (au T) hr rfl (aa (af 0) (aa (le_int) (ag)))))))
theorem bf:aM ["_law_box_here", "_law_rule_here", "_law_w", "_law_some"] ["_law_box_here", "_law_rule_here"] (ay gM):=by walk_at "sc"
theorem me (T:Txt w.params K mg t):aV P w K mg base 2 "_law_rule_bad" ["_law_box_here", "_law_rule_here"] bK:=aO T.lR T.lU bf j4 kj (λ_ _ _ _ _ _ _ _=>by walk_at "b2") λ_ _ _ _ _ _ hr hu=>
 aq (aF 2 bf.nd (aD (af 1) (le_int))) (aq (aF 3 bf.nd (bc (aa (ax (aa (le_str) (aa (ax (aa (le_int) (aa (le_int) (ag)))) (ag)))) (aa (ax (aa (le_str) (aa (le_int) (ag)))) (aa (ax (aa (le_str) (aa (ax (aa (le_int) (aa (le_int) (ag)))) (ag)))) (aa (ax (aa (le_str) (aa (ax (aa (le_int) (aa (le_int) (ag)))) (ag)))) (aa (ax (aa (le_str) (aa (af 2) (aa (af 2) (ag))))) (aa (om rfl rfl T.xq rfl (aa (af 1) (ag))) (ag))))))))) (aq (aF 3 bf.nd (aB (af 3) (bc (aa (ee (af 1) (cv (le_int)) (eE)) (ag))))) (aq (aF 3 bf.nd (aB (af 3) (bc (aa (ax (aa (le_str) (aa (ax (aa (le_int) (aa (le_int) (ag)))) (aa (ax (aa (le_int) (aa (le_int) (ag)))) (aa (ax (aa (le_int) (aa (le_int) (ag)))) (aa (ax (aa (le_int) (aa (le_int) (ag)))) (ag))))))) (aa (ax (aa (le_str) (aa (ax (aa (le_int) (aa (le_int) (ag)))) (aa (ax (aa (le_int) (aa (le_int) (ag)))) (aa (ax (aa (le_int) (aa (le_int) (ag)))) (aa (ax (aa (le_int) (aa (le_int) (ag)))) (ag))))))) (aa (ff) (aa (le_str) (ag)))))))) (aq (aF 3 bf.nd (aB (af 3) (bc (aa (ax (aa (le_str) (aa (ax (aa (le_int) (aa (le_int) (ag)))) (aa (ax (aa (le_int) (aa (le_int) (ag)))) (aa (ax (aa (le_int) (aa (le_int) (ag)))) (aa (ax (aa (le_int) (aa (le_int) (ag)))) (ag))))))) (aa (ax (aa (le_str) (aa (ax (aa (le_int) (aa (le_int) (ag)))) (aa (ax (aa (le_int) (aa (le_int) (ag)))) (aa (ax (aa (le_int) (aa (le_int) (ag)))) (aa (ax (aa (le_int) (aa (le_int) (ag)))) (ag))))))) (aa (ax (ag)) (aa (aD (af 1) (le_int)) (ag)))))))) (aq (aF 3 bf.nd (aB (af 3) (bc (aa (ax (aa (le_str) (aa (ax (aa (le_int) (aa (le_int) (ag)))) (aa (ax (aa (le_int) (aa (le_int) (ag)))) (aa (ax (aa (le_int) (aa (le_int) (ag)))) (aa (ax (aa (le_int) (aa (le_int) (ag)))) (ag))))))) (aa (ax (aa (le_str) (aa (ax (aa (le_int) (aa (le_int) (ag)))) (aa (ax (aa (le_int) (aa (le_int) (ag)))) (aa (le_int) (aa (le_int) (aa (ax (aa (le_int) (aa (le_int) (ag)))) (ag)))))))) (aa (ax (aa (le_str) (aa (af 2) (ag)))) (ag))))))) (aq (aF 3 bf.nd (aB (af 3) (bc (aa (ax (aa (le_str) (aa (ax (aa (le_int) (aa (le_int) (ag)))) (aa (ax (aa (le_int) (aa (le_int) (ag)))) (aa (bE) (aa (le_int) (aa (ax (aa (le_int) (aa (le_int) (ag)))) (ag)))))))) (aa (aB (af 1) (ax (aa (af 2) (ag)))) (aa (aB (ax (aa (aD (af 1) (le_int)) (aa (bc (aa (aD (af 2) (le_int)) (aa (aD (af 2) (le_int)) (ag)))) (ag)))) (ee (af 1) (cv (le_int)) (eE))) (aa (le_int) (ag)))))))) (av (aC (aD (af 3) (aj (au T) hr rfl (aa (af 0) (aa (aW bu bQ rfl T.dU rfl (aa (af 3) (ag))) (ag)))))))))))))
theorem aT:aM ["_law_box_here", "_law_sender_here", "_law_names_here", "_law_name", "_law_road_here", "_law_beat", "_law_begin", "_law_many", "_law_rule_here", "_law_place"] ["_law_box_here", "_law_sender_here", "_law_names_here"] (ay fN):=by walk_at "sc"
theorem kl (T:Txt w.params K mg t):aV P w K mg base 3 "_law_exchanged" ["_law_box_here", "_law_sender_here", "_law_names_here"] bG:=aO T.kq T.kh aT jm jH (λ_ _ _ _ _ _ _ _=>by walk_at "b3") λ_ _ _ _ _ _ hr hu=>
 aq (xY (af 1) (wF rfl (cf 3 aT.nd (cf 4 aT.nd (cf 5 aT.nd (cf 6 aT.nd (cf 7 aT.nd (cf 8 aT.nd (sC))))))))) (aq (aF 9 aT.nd (aj (au T) hr rfl (aa (af 0) (aa (le_int) (ag))))) (aq (bh (lt_eq hu (af 9) (le_int)) (av (aC (ax (aa (aB (ax (aa (aD (bc (aa (aB (af 3) (le_str)) (aa (le_str) (aa (le_str) (aa (ff) (aa (le_int) (aa (ax (aa (af 3) (ag))) (ag)))))))) (aj (au T) hr rfl (aa (af 0) (aa (le_int) (ag))))) (ag))) (ee (af 1) (cv (le_int)) (eE))) (aa (bE) (ag)))))) (aN)) (aq (bh (lt_eq hu (af 9) (le_int)) (av (aC (ax (aa (aB (ax (aa (af 3) (aa (aj (tI T) hr rfl (aa (af 0) (aa (af 4) (aa (af 2) (ag))))) (ag)))) (ee (af 1) (cv (le_int)) (eE))) (aa (bE) (ag)))))) (aN)) (aq (bh (lt_eq hu (af 9) (le_int)) (av (aC (ax (aa (aB (aB (ee (af 1) (eE) (cv (le_int))) (ax (aa (aD (bc (aa (aj (fI T) hr rfl (aa (af 0) (aa (le_int) (aa (le_int) (ag))))) (aa (ff) (ag)))) (e9 (aj (au T) hr rfl (aa (af 0) (aa (le_int) (ag)))) (le_int))) (ag)))) (ee (af 1) (cv (le_int)) (eE))) (aa (bE) (ag)))))) (aN)) (aq (bh (lt_eq hu (af 9) (le_int)) (av (aC (ax (aa (aB (aB (ee (af 1) (eE) (cv (le_int))) (ax (aa (aD (bc (aa (aj (fI T) hr rfl (aa (af 0) (aa (le_int) (aa (le_pow (le_int) (le_int)) (ag))))) (aa (ff) (ag)))) (e9 (aj (au T) hr rfl (aa (af 0) (aa (le_int) (ag)))) (le_int))) (ag)))) (ee (af 1) (cv (le_int)) (eE))) (aa (bE) (ag)))))) (aN)) (aq (bh (lt_eq hu (af 9) (le_int)) (av (aC (ax (aa (aB (ee (af 1) (eE) (cv (le_int))) (ax (aa (aj (fI T) hr rfl (aa (af 0) (aa (le_int) (aa (le_pow (le_int) (le_int)) (ag))))) (aa (af 8) (ag))))) (aa (bE) (ag)))))) (aN)) (aq (bh (lt_eq hu (af 9) (le_int)) (av (aC (ax (aa (aB (ee (af 1) (eE) (cv (le_int))) (ax (aa (aj (me T) hr rfl (aa (af 0) (aa (af 8) (ag)))) (ag)))) (aa (bE) (ag)))))) (aN)) (aq (bh (lt_eq hu (af 9) (le_int)) (av (aC (ax (aa (aD (bc (aa (om rfl rfl T.xq rfl (aa (af 1) (ag))) (aa (ee (af 1) (eE) (cv (le_int))) (aa (aB (af 1) (ax (aa (ff) (ag)))) (aa (ax (ag)) (aa (ff) (aa (af 3) (aa (le_int) (ag))))))))) (aj (au T) hr rfl (aa (af 0) (aa (le_int) (ag))))) (aa (bE) (ag)))))) (aN)) (aq (aF 5 aT.nd (aD (bc (aa (le_int) (aa (le_int) (ag)))) (aj (au T) hr rfl (aa (af 0) (aa (le_int) (ag)))))) (aq (aF 6 aT.nd (aD (bc (aa (le_int) (aa (le_pow (le_int) (le_int)) (ag)))) (aj (au T) hr rfl (aa (af 0) (aa (le_int) (ag)))))) (av (aC (ax (aa (ax (aa (af 3) (aa (e7 cB fS rfl T.cI rfl (aa (af 2) (ag))) (aa (af 5) (aa (af 6) (aa (aD (bc (aa (ff) (aa (le_int) (aa (le_pow (le_int) (le_int)) (ag))))) (aj (au T) hr rfl (aa (af 0) (aa (le_int) (ag))))) (aa (af 8) (ag)))))))) (aa (bE) (ag))))))))))))))))
theorem ju:aM ["_law_thing", "_law_due", "_law_found"] ["_law_thing", "_law_due"] (ay lu):=by walk_at "sc"
theorem iE (T:Txt w.params K mg t):aV P w K mg base 10 "_law_told" ["_law_thing", "_law_due"] bN:=aO T.u6 T.uS ju o8 rS (λ_ _ _ _ _ _ _ _=>by walk_at "b2") λ_ _ _ _ _ _ hr hu=>
 aq (aF 2 ju.nd (aj (z8 T) hr rfl (aa (af 0) (ag)))) (av (aC (cT (cH rfl T.br rfl (af 2) rfl T.Ca rfl) (cU (le_eq hu (af 2) (af 1))))))
theorem dg:aM ["_law_script", "_law_box_here", "_law_grid", "_law_ways", "_law_senders", "_law_names_here", "_law_plan_here", "_law_k", "_law_at", "_law_sender_here", "_law_due"] ["_law_script"] (ay Ds):=by walk_at "sc"
theorem y6 (T:Txt w.params K mg t):jk P w K mg base CX0 11 t.Di t.GR ["_law_script"] (lift K fL):=by
 refine Hm (T:=Bj) T.y6 dg rK (λcdv A outer s H E hr=>?_) Ic
 have hu:=hr.units
 exact aq (aF 1 dg.nd (aj (nY T) hr rfl (aa (af 0) (aa (le_int) (ag))))) (aq (xY (aj (tT T) hr rfl (aa (af 1) (aa (le_int) (aa (le_int) (ag))))) (wF rfl (cf 2 dg.nd (cf 3 dg.nd (cf 4 dg.nd (sC)))))) (aq (vQ (fsc:=ay Ds) 5 dg.nd ["_law_script", "_law_box_here", "_law_grid", "_law_ways", "_law_senders", "_law_names_here", "_law_plan_here", "_law_k", "_law_at", "_law_sender_here", "_law_due"] ["_law_way_here"] 1 [] rfl rfl (fM (af 3)) (λcl C s₀ H₀ ex=>⟨cy 0 (show (["_law_way_here"]:List Str).Nodup from by decide +kernel),eU,aD (af 0) (le_int)⟩) rfl rfl (by decide +kernel)) (aq (bh (lt_eq hu (af 4) (ax (ag))) (av (aF 4 dg.nd (ax (aa (aj (jb T) hr rfl (aa (af 1) (aa (le_str) (aa (af 3) (aa (le_int) (ag)))))) (ag))))) (aN)) (aq (aF 6 dg.nd (ax (aa (af 2) (aa (af 3) (aa (af 4) (ag)))))) (aq (bh (bj (bx (aj (iE T) hr rfl (aa (af 6) (aa (bE) (ag)))))) (av (aC (bE))) (aN)) (aq (wO Qf rfl (pY rfl T.yF (aB (le_int) (aW bu bQ rfl T.dU rfl (aa (ee (af 0) (eE) (cv (le_int))) (ag))))) (rP 7 dg.nd) (aq (aF 1 dg.nd (aj (nY T) hr rfl (aa (af 0) (aa (af 7) (ag))))) (aq (aF 8 dg.nd (aj (au T) hr rfl (aa (af 1) (aa (aW bu bQ rfl T.dU rfl (aa (af 4) (ag))) (ag))))) (aq (xY (aj (kl T) hr rfl (aa (af 1) (aa (aD (af 4) (af 8)) (aa (af 5) (ag))))) (wF rfl (cf 9 dg.nd (cf 10 dg.nd (sC))))) (av (bh (bj (bx (aj (iE T) hr rfl (aa (ax (aa (af 2) (aa (af 3) (aa (aB (aB (ee (af 4) (eE) (cv (af 8))) (ax (aa (af 9) (ag)))) (ee (af 4) (cv (aB (af 8) (le_int))) (eE))) (ag))))) (aa (af 10) (ag)))))) (av (aC (bE))) (aN))))))) (av (aC (aj (iE T) hr rfl (aa (af 6) (aa (bE) (ag))))))))))))
end
theorem all_mk {l:Sl}{w:N0}{K:Nt}{mg:Str->Option Nu}{fa:Addr}{t:Adr}(hfa:mg "law" = some (.ref fa))(T:Txt w.params K mg t):∃ fd:NU,(∀ (s:Nv) (v:Nu),TZ s fd ⟨[v],[]⟩ [("_law_script", v)])/\∀ base:Heap,K.In base->base.Ns Oq mg->jk l.prog w K mg base CX0 11 fa fd ["_law_script"] (lift K fL):=by
 have e:=hfa.symm.trans T.Lv
 injection e with e
 injection e with e
 subst e
 obtain ⟨oc,od,kV,dc,pm,an,cd,ct,sl,ed,_,_⟩:=T.y6.ex
 exact ⟨_,λs v=>.of_eq (by rw[ed];rfl),λbase _ _=>y6 T⟩
end Kk
namespace PySem.W.Fast
def tw4773469618287886837:=0
def tw9825936885330507072:=0
def tw3303003778167175488:=0
def tw7742263623632521281:=0
def tw1550853702544894113:=0
def tw7138876079662431553:=0
def tw4334660639954608993:=0
def tw9952891447693136674:=0
def tw1746067148392086627:=0
def tw11979872375969775875:=0
def tw10584095302115726851:=0
def tw11816078221147834979:=0
def tw9223865238065559780:=0
def tw828240753909733764:=0
def tw9339396272107966852:=0
def tw9019569554184645156:=0
def tw1323941641034574404:=0
def tw9587856003679811300:=0
def tw13718960200464814852:=0
def tw17276617854060527013:=0
def tw6589167075319045573:=0
def tw1485646143769707782:=0
def tw6321358011533261702:=0
def tw8971544925419762855:=0
def tw2651440885488989415:=0
def tw14015440487825764071:=0
def tw10317317169694562247:=0
def tw1549658004228958280:=0
def tw9793871299470501064:=0
def tw6025195115262214824:=0
def tw8261762967783582600:=0
def tw6791200297496820809:=0
def tw2035234115993368745:=0
def tw6518145321610957353:=0
def tw2443329681912349258:=0
def tw4464869576023691850:=0
def tw3134169777367210251:=0
def tw16470748725536424363:=0
def tw4185204481277448619:=0
def tw14275108352445350635:=0
def tw5524740294581062380:=0
def tw11095001634623895597:=0
def tw15832730599143355469:=0
def tw2015886138230382029:=0
def tw6805848141277555565:=0
def tw13210316217565302798:=0
def tw12819881480802710798:=0
def tw14439902857126396206:=0
def tw9153814203098264942:=0
def tw408495021217950094:=0
def tw10278047023954369230:=0
def tw5765399871451521327:=0
def tw10775454808649162639:=0
def tw10842341194042623568:=0
def tw2432835124427530928:=0
def tw14191987622530667184:=0
def tw4271772273325284048:=0
def tw14804656385672694576:=0
def tw8878794940744488848:=0
def tw18288527817926557680:=0
def tw10409932483103231409:=0
def tw13723214011896539953:=0
def tw2096576955056916401:=0
def tw17070198832939768850:=0
def tw16917127369076347090:=0
def tw9599311409023066706:=0
def tw13476549629590693682:=0
def tw7411866599552026546:=0
def tw17414866286649949170:=0
def tw17190037629483917715:=0
def tw1119772921593504275:=0
def tw5803188340706151123:=0
def tw15891170506886676020:=0
def tw3602457057276529877:=0
def tw16015180920780564789:=0
def tw5431787584812505685:=0
def tw16871229279113005142:=0
def tw12646663084061059222:=0
def tw14827555082294619638:=0
def tw411456450532693526:=0
def tw4834702424462498999:=0
def tw8949645414965597527:=0
def tw8512194836774004151:=0
def tw5100449760431298359:=0
def tw8466233006418277496:=0
def tw10638517883725061368:=0
def tw9421873956756434232:=0
def tw13370469446908650681:=0
def tw1369462617716252282:=0
def tw5885051628790708858:=0
def tw6502152394549709915:=0
def tw16211399483756364443:=0
def tw14548257327585818555:=0
def tw11800943555236659292:=0
def tw12380104839664659548:=0
def tw8448709617169066396:=0
def tw4958661051507986781:=0
def tw2208461680730215901:=0
def tw9031886023316159646:=0
def tw6050744734783221022:=0
def tw10991928653600449886:=0
def tw2560498025750158814:=0
def tw5750646400713474686:=0
def tw7557036263189394206:=0
def tw9872035626631337055:=0
def tw8011466995927562815:=0
def tw1576901051918767903:=0
end PySem.W.Fast
open PySem PySem.W PyProof.Rows L2 L3
set_option maxRecDepth 100000 in
set_option maxHeartbeats 0 in
theorem PySem.Challenge.cw_swellways_k20_what_a_plan_has_holds : PySem.Challenge.rw_swellways_k20_what_a_plan_has.Holds := by
 w_on;o_law;k_head;(case hw=>w_witness2)
 k_fill
 refine L3.KZ (l:=PySem.Challenge.rw_swellways_k20_what_a_plan_has) (k:=11) (sp:=Kk.fL) (x := "_law_script") rfl rfl ⟨rfl,by decide,by decide⟩ (λw h Y=>PySem.W.kIn_of Y) Kk.kC ?F
 case F=>
  intro w mg fa h KX G hmg
  refine' Kk.all_mk (t:=⟨_,_,_,_,_,_,_,_,_,_,_,_,_,_,_,_,_,_,_,_,_,_,_,_,_,_,_,_,_,_,_,_,_,_,_,_,_,_,_,_,_,_,_,_,_,_,_,_,_,_,_,_,_,_,_,_,_,_,_,_,_,_,_,_,_,_,_,_,_,_,_,_⟩) hmg ⟨O2 KX G ?_,aY ?_ ?_ ?_,O2 KX G ?_,aY ?_ ?_ ?_,O2 KX G ?_,aY ?_ ?_ ?_,O2 KX G ?_,aY ?_ ?_ ?_,O2 KX G ?_,aY ?_ ?_ ?_,O2 KX G ?_,aY ?_ ?_ ?_,O2 KX G ?_,aY ?_ ?_ ?_,O2 KX G ?_,aY ?_ ?_ ?_,O2 KX G ?_,aY ?_ ?_ ?_,O2 KX G ?_,aY ?_ ?_ ?_,O2 KX G ?_,aY ?_ ?_ ?_,O2 KX G ?_,aY ?_ ?_ ?_,O2 KX G ?_,aY ?_ ?_ ?_,O2 KX G ?_,aY ?_ ?_ ?_,O2 KX G ?_,aY ?_ ?_ ?_,O2 KX G ?_,aY ?_ ?_ ?_,O2 KX G ?_,aY ?_ ?_ ?_,O2 KX G ?_,aY ?_ ?_ ?_,O2 KX G ?_,aY ?_ ?_ ?_,O2 KX G ?_,aY ?_ ?_ ?_,O2 KX G ?_,aY ?_ ?_ ?_,O2 KX G ?_,aY ?_ ?_ ?_,O2 KX G ?_,aY ?_ ?_ ?_,O2 KX G ?_,aY ?_ ?_ ?_,O2 KX G ?_,aY ?_ ?_ ?_,O2 KX G ?_,aY ?_ ?_ ?_,O2 KX G ?_,aY ?_ ?_ ?_,O2 KX G ?_,aY ?_ ?_ ?_,O2 KX G ?_,aY ?_ ?_ ?_,O2 KX G ?_,aY ?_ ?_ ?_,O2 KX G ?_,aY ?_ ?_ ?_,O2 KX G ?_,aY ?_ ?_ ?_,O2 KX G ?_,aY ?_ ?_ ?_,O2 KX G ?_,aY ?_ ?_ ?_,O2 KX G ?_,aY ?_ ?_ ?_,O2 KX G ?_,aY ?_ ?_ ?_,Pa KX G ?_,Pa KX G ?_,Pa KX G ?_,Pa KX G ?_,Pa KX G ?_,Pa KX G ?_,Pa KX G ?_,Pa KX G ?_,Pa KX G ?_,Pa KX G ?_,Pa KX G ?_,Pa KX G ?_,Pa KX G ?_,bL KX G ?_,bL KX G ?_,bL KX G ?_,Jh KX G ?_,bL KX G ?_,bL KX G ?_,bL KX G ?_,bL KX G ?_,bL KX G ?_,bL KX G ?_,bL KX G ?_,bL KX G ?_,bL KX G ?_,bL KX G ?_,bL KX G ?_,bL KX G ?_,bL KX G ?_,Ei (its:=#[.int 0 _,.int 1 _]) (xs:=[V.int 0,V.int 1]) KX G ?_ ?_ ?_ ?_ ?_ (show 2<=sizeLine by decide) (.cons ⟨_,rfl⟩ (.cons ⟨_,rfl⟩ (.nil))) (λ_=>.cons (.int _) (.cons (.int _) (.nil))),Ei (its:=#[.int 1 _,.int 1 _]) (xs:=[V.int 1,V.int 1]) KX G ?_ ?_ ?_ ?_ ?_ (show 2<=sizeLine by decide) (.cons ⟨_,rfl⟩ (.cons ⟨_,rfl⟩ (.nil))) (λ_=>.cons (.int _) (.cons (.int _) (.nil))),bL KX G ?_,bL KX G ?_,bL KX G ?_,bL KX G ?_,bL KX G ?_,bL KX G ?_,bL KX G ?_,Me KX G ?_ ?_ ?_ ?_ ?_⟩
  all_goals try first | k_is | rfl | exact ⟨⟨_,_,rfl,rfl⟩,⟨_,_,rfl,rfl⟩,⟨_,_,rfl,rfl⟩,⟨_,_,rfl,rfl⟩,⟨_,_,rfl,rfl⟩,Qg⟩
