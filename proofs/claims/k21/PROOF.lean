import PyProof.Rows.All
import Wide.All
import OpenK.AllK
import Wide.FinOn
import Lean
import PyProof.EqAt
import PyProof.EqKinds
import PyProof.TupleCall
import PyProof.P3Eq
import PyProof.NeKinds
import PyProof.NeData
import PyProof.ZipIter
import PyProof.EnumMake
import PyProof.EnumFor
import OpenK.KTop
import PyProof.IsRules
import PyProof.AttrMissHeap
import PyProof.DictUpdate
import KE.KDictOf
import PyProof.Rows.SortStr
import PyProof.FString5
import PyProof.StrOps
import PyProof.ListRange
import PyProof.TupleOfGen
import PyProof.Rows.SumAny
import PyProof.Rows.CallKwBuiltin
import PyProof.StrLoop
import PyProof.StrWalks
import PyProof.StrOps2
import PyProof.SliceStr2
import PyProof.StrBlockI
import PyProof.StrLaws
import PyProof.StrBlock
import PyProof.StrBlockL
import PyProof.StrCalls2
import KE.KStrOpen
import KE.KDictList
import PyProof.DictValues
import PyProof.DictTruth
import PyProof.DictIter
import PyProof.DictWalks
import PyProof.SetKind
import PyProof.SetNew
import PyProof.Rows.SetFrom
import PyProof.MeetsDict
import PyProof.Rows.FStr
import PyProof.Rows.StrJoin2
import PyProof.CallStr
import PyProof.Rows.StrJoinMade
import PyProof.Rows.ReprOcc
import PySem.Challenge.RW_swellways_k21_how_a_plan_stands
set_option Elab.async false
set_option linter.all false
set_option maxRecDepth 100000
set_option maxHeartbeats 4000000
def zzS (t:String):Lean.MacroM (Lean.TSyntax `tactic):=do
 let a←(t.splitOn " ").toArray.mapM fun s=>if s.startsWith "↓" then `(Lean.Parser.Tactic.simpLemma| ↓ $(Lean.mkIdent (s.drop 1).toString.toName):term) else `(Lean.Parser.Tactic.simpLemma| $(Lean.mkIdent s.toName):term)
 `(tactic| try simp only [$a,*])
open PySem.Str renaming ofString → NA, empty → Ue
open PySem.W renaming Frag → NB, mg_of → O0, kia_one → O5, mg_none_of → Pj, fnOf → P5, keepIn → Qw, KeysLit → QZ, methodObj → Rp, mg_of → RD, cellsFrom_some → RZ, nsIn → R6, OpenLaw → Sd, codeIn → Sw, kitx_list → TR, plainGet → Ud, mapOf_K → Ut, kitOne → UP, WalkO → U2
open PySem renaming Value → NC, Shared → ND, starEach → NL, Program → NR, wpAny → NU, FuncData → N0, Expr → N1, model → N3, World → N6, Around → N7, bootBuiltins → Of, mainGlobals → Oy, compareOp → OA, backTo → OB, wpAny_callSpecial?_slot → OH, wpAny_call_entry → OK, mem_of_lookup → ON, wpAny_truthy_bool → OP, foldedSetIterable → OQ, wpAny_newObj_type → OS, SetTable → OT, wpAny_setState_of → OU, wpAny_mono → O1, eval → O4, wpAny_setEntries_of → O8, behindInMarks → Pa, DictEntry → Pd, assignEach → Pf, wpAny_Call_Name_kw → Pg, wpAny_setField → Ph, wpAny_passesOwn → Pn, wpAny_ite_false → Pp, binaryOp → Pt, sysModules → PH, codeAny → PR, wpAny_of_eq → P0, wpAny_isInstance → P6, rawInt → Qa, Builtin → Qh, sliceBounds → Qm, pickOrder → Qq, pyNext → Qt, wpAny_fieldsOf → Qz, swapsWithSole → QM, swappedStores → QN, plainId_quiet → QP, wpAny_attempt → QR, sizeLine_eq → QS, NameKind → QT, wpAny_execs_nil → QW, letOwnedTupleGo → QX, codeAny_mono → Q2, swapsWith → Q7, call → Rg, holding → Rr, wpAny_pyIter_list → Rt, Paired → Rx, assign → Ry, wpAny_standAt → Rz, intBits_le_64 → RA, noFill_tuple_add → RI, relayAll → RQ, wpAny_pyNext_list_item → RY, concat_meets → R0, callerA → R5, wpAny_ite_split → Sj, wpAny_pyNext_list_end → Sk, builtinLookup_eq_fast → Sm, hashByValue → SD, lastMarks → SJ, Keyword → SK, getItem → SM, KeyKind → SN, setNext → SO, assignInOrder → SW, seq_tuple_add → SX, attributeBase → S0, wpAny_call → Tp, findBy → Tu, CmpOp → TF, BindsTo → TH, wpAny_sequenceKey → TJ, seqIndex_neg → TK, slot_list_getitem → TL, valueAt → TN, wpAny_storeSet_of → TY, fits_of_scanBound → TZ, wpAny_pyIter_slot → T5, wpAny_setEpoch_of → T6, wpAny_execs_cons → Ua, PassesOwn → Ub, pyIter → Uc, wpAny_field → Uk, seqIndex_of → Ul, keywordEach → Um, spliced → UC, builtinsNs → UE, Model → UG, wpAny_Name → UH, bindName → UI, Result → UJ, bindL → UK, bindC → UL, Params → UM, ItemsAre → UN, compEnvC → UQ, compPost → UR, entryFor → UX
open PySem.Heap renaming get?_push_of_some → NF, lt_size → NP, get?_push_size → NT, get?_update_other → Oi, get?_update_self → Om, SameBut → Pr, ExtBut → Vn
open False renaming elim → NG
open Iff renaming rfl → NH
open List renaming mem_cons_self → NJ, length_map → NK, mem_cons_of_mem → NM, length_cons → NN, size_toArray → NS, length_append → NW, mem_append_right → NX, mem_singleton → NZ, replicate → N8, mem_cons → N9, map_cons → Ob, getElem?_eq_getElem → Oc, mem_map → Od, mem_append → Oo, all_eq_true → Ot, getElem?_eq_some_iff → Oz, find?_cons → OC, length_nil → OD, getElem?_map → OF, map_map → OG, append_nil → OI, not_mem_nil → OL, range → OR, length_replicate → OY, lookup_cons → O2, map_append → O7, nodup_cons → Po, nodup_append → Pu, append_assoc → Pw, mem_range → PB, eq_nil_of_length_eq_zero → PF, length_singleton → PN, getElem?_set_ne → PX, length → PY, getElem?_append_right → PZ, mem_of_mem_drop → P4, getElem?_append_left → P7, drop_eq_getElem_cons → P9, replicate_succ → Qb, any_cons → Qf, nil_append → Qg, getElem?_cons_zero → Qn, getElem?_cons_succ → Qo, getElem?_set_self → Qs, length_range → QA, findIdx_lt_length_of_exists → QB, getElem?_eq_none → QD, filterMap_append → QE, length_take → QH, length_drop → QI, drop_length → QJ, cons_append → QK, any_eq_true → QL, mem_of_getElem? → QU, filterMap_cons → Q1, all_map → Q6, mem_of_find?_eq_some → Rm, ext_getElem? → Ru, getElem?_replicate → RH, getElem_mem → RP, length_eq_zero_iff → RS, of_mem_zip → Sa, foldl_cons → Si, getElem?_toArray → So, filterMap_eq_map → Su, mem_append_left → Sv, mem_iff_getElem → SA, length_eraseIdx → SE, head?_replicate → SF, mem_of_mem_take → SG, map_congr_left → SR, drop_succ_cons → SV, mem_filterMap → Tn, pairwise_cons → Tv, map_nil → TM, findIdx_cons → T9, filter_cons → Uh, append → Uo, mem_filter → Up, forIn_cons → Us, find?_some → Uu, findIdx? → U4, map → Vj, set → Vk, not_lt → Vm
open Bool renaming and_eq_true → NO, false_and → NQ, true_and → N5, and_false → Og, false_eq_true → PL, beq_eq_decide_eq → QC, false_ne_true → Ra, and_true → RF, not_false → Sy, or_false → SY, not_true → S3, and_self → S9, not_eq_true → Uj, eq_iff_iff → Uv, or_eq_true → Uw, decide_and → UB, false_or → U3, true_or → Vc
open Nat renaming le_refl → NV, ne_of_lt → NY, lt_of_lt_of_le → N4, le_trans → OJ, zero_le → Pb, lt_irrefl → PM, lt_trans → Qy, succ_lt_succ_iff → QV, reduceAdd → RE, reduceLeDiff → RM, zero_lt_succ → RO, le_of_lt → RX, reduceLT → R7, min_le_left → Se, zero_lt_one → Sf, lt_add_one → Sz, reduceSub → S2, ne_of_gt → Tz, sub_self → TU, succ_le_succ → Ui, mul_le_mul → UW, le_of_dvd → U7, zero_add → Ve
open PySem.Obj renaming data_mapFields → Oa, isFreed_of_fields → OZ, mapFields → Pc, mapSeq → PJ, cls_mapFields → PU
open PySem.PyData renaming strOk → Oe, eqv → Py, eqvAll → RC, canLayAll0 → TQ, depthAll → Ur, canLay0 → UO
open Array renaming getElem?_eq_getElem → Oh, length_toList → OM, all_eq_true_iff_forall_mem → OW, getElem?_eq_none → O9, getElem?_toList → Pk, getElem?_eq_none_iff → Ri, mem_iff_getElem → Sl, toList_append → SS, append_assoc → Tj, toList → Vb
open Int renaming gcd → Oj, eq_ofNat_of_zero_le → Ou, mul_le_mul_of_nonneg_right → Ov, toNat_natCast → Ox, gcd_pos_of_ne_zero_right → QY, ediv_eq_of_eq_mul_right → Q3, dvd_gcd_mul_iff_dvd_mul → Q5, natCast_nonneg → Rh, fmod_eq_emod_of_nonneg → Rj, mul_neg_of_pos_of_neg → Rk, le_of_mul_le_mul_left → Ro, mul_left_comm → Rv, le_ediv_iff_mul_le → R9, reduceToNat → Sg, natAbs_dvd_natAbs → Ss, reducePow → S4, reduceNeg → S5, reduceSub → S6, reduceAdd → S7, reduceMul → S8, natAbs_natCast → Tr, gcd_zero_right → Ts, reduceEq → TV, lt_trichotomy → TX, mul_comm → T8, mul_nonneg → UZ, mul_assoc → U8, gcd_comm → Vd, le_trans → Vf
open PyProof.Rows renaming slot_tuple_getitem → Ol, callWith_builtin1 → PC, callWith_type1 → PQ, seqObj → Qj, kindOf → QG, StrsAre → QO, assignInOrder_cons → Q9, envOfC → Rb, AllBare → Rq, intBits_le → RJ, subscriptTail_builtinR → R4, entry_tuple_getitem → SQ, args_tuple_getitem → Tq, assignInOrder_nil → Tx, IntsAre → UD, sortedHeap → UU
open Option.some renaming inj → Oq
open PySem.Value renaming isStrOf → Ow, ref → OX, none → Pe, str → QF, bool → RV, type → RW, int → SI, isInt → Vh
open PySem.SetTable renaming fresh → OE, below → OV, grown → PD, fits → U6
open PySem.Heap.SameBut renaming update → OO, refl → Vr
open PySem.NameKind renaming free → O3, cell → S1
open ForInStep renaming yield → O6
open PySem.Builtin.Slice renaming slicePlaces → Pl, sliceAdjust → P8, sliceApplied → Rc, slicePartIndex → Uq, sliceFields → U0
open PySem.PassesOwn renaming never → Pq
open PySem.Builtin.Tuple renaming tupleExact → Px, tupleItemsOf → Rf, tupleIsExact → US
open Ne renaming symm → Pz
open True renaming intro → PK
open PySem.Builtin.List renaming listExtendWith → PV, listLengthHint → Q4, listSameRef → RG
open PySem.Around renaming under_plainId → P1
open Function renaming comp_apply → Qc
open Option renaming isSome_iff_exists → Qd, getD_some → RK, map_eq_some_iff → R8, getD_none → Ug, none → Vi
open PySem.F renaming args_tuple_add_2 → Qe, entry_tuple_add → Ql, slot_tuple_add → Qx, plain_extend_loop → Rn, plainAttrs_list → RL, plain_list_iadd → T7, plain_set_new → Ux, slot_set_iter → Uz
open PySem.Calls renaming spliced_cons → Qi, spliced_nil → Qu, Name_function_global → Q8
open PySem.Builtin.Str renaming occurrences → Qk, tooLong → SU
open Classical renaming propDecidable → Qp
open Sum renaming inr → Qr, inl → SH
open List.Sublist renaming refl → Rw
open Or renaming inr → RB, inl → Sx
open PyProof.Rows.F renaming plain_set_update_loop → RR
open List.cons renaming injEq → Sh
open PySem.Shared renaming TypeIs → Tg
open PySem.pickOrder renaming go → T3
open PySem.SetTable.below renaming go → T4
open PySem.Builtin.Frozenset renaming updateFrom → Uy, isAnySet → UY, sizeOf → U5, slot0 → Va
open PySem.SeqAt renaming EqAt → UT
open PySem.Paired renaming length → U1
open PySem.Builtin.Range renaming rangeSize → U9
open PySem.setAddHashedIn renaming eq_def → Vg
open PySem.Heap.IsSliceOf renaming new → Vo
open PySem.W.WShape renaming has → Vp
open List.Pairwise renaming nil → Vq
namespace L2
open PySem PySem.Spec PyProof.Rows
abbrev Key:=Sum Int Str
def lU:Key->NC->Bool
 | .inl k,v=>Vh k v
 | .inr x,v=>Ow x v
def MX (w:N6):Key->Int
 | .inl k=>hashInt k
 | .inr x=>hashStr w x
theorem bC:∀ {k:Key} {v:NC},lU k v=true->(∃ i t,k=SH i/\v=SI i t)∨(∃ x t,k=Qr x/\v=QF x t)
 | .inl i,v,h=>by
  obtain ⟨t,e⟩:=Value.isInt_shape (k:=i) (v:=v) h
  exact .inl ⟨i,t,rfl,e⟩
 | .inr x,v,h=>by
  obtain ⟨t,e⟩:=Value.isStrOf_shape (x:=x) (v:=v) h
  exact .inr ⟨x,t,rfl,e⟩
theorem zW (i:Int)(t:Tok):lU (.inl i) (.int i t)=true:=by simp[lU,Vh]
theorem Ah (x:Str)(t:Tok):lU (.inr x) (.str x t)=true:=by simp[lU,Ow]
theorem Io (a b:Int):decide ((SH a:Key)=SH b)=(a == b):=by
 by_cases e:a=b
 ·subst e;simp
 ·have h:¬ (SH a:Key)=SH b:=λq=>e (Sum.inl.inj q)
  rw[decide_eq_false h]
  exact (beq_eq_false_iff_ne.mpr e).symm
theorem Kr (a b:Str):decide ((Qr a:Key)=Qr b)=decide (a=b):=by
 by_cases e:a=b
 ·subst e;simp
 ·have h:¬ (Qr a:Key)=Qr b:=λq=>e (Sum.inr.inj q)
  rw[decide_eq_false h,decide_eq_false e]
theorem JZ (a:Int)(b:Str):decide ((SH a:Key)=Qr b)=false:=decide_eq_false (λq=>nomatch q)
theorem Hs (a:Str)(b:Int):decide ((Qr a:Key)=SH b)=false:=decide_eq_false (λq=>nomatch q)
def b5 (prog:NR)(w:N6):PySem.KeyKind prog w Key where
 is:=lU
 hash:=MX w
 inj:=λv a b ha hb=>by
  rcases bC ha with ⟨i,t,rfl,rfl⟩ | ⟨x,t,rfl,rfl⟩
  ·rcases bC hb with ⟨j,u,rfl,e⟩ | ⟨y,u,rfl,e⟩
   ·injection e with e1 _;rw[e1]
   ·exact nomatch e
  ·rcases bC hb with ⟨j,u,rfl,e⟩ | ⟨y,u,rfl,e⟩
   ·exact nomatch e
   ·injection e with e1 _;rw[e1]
 byValue:=λk v h=>by
  rcases bC h with ⟨i,t,rfl,rfl⟩ | ⟨x,t,rfl,rfl⟩ <;> rfl
 pyHash:=λhv h=>by
  rcases bC hv with ⟨i,t,rfl,rfl⟩ | ⟨x,t,rfl,rfl⟩
  ·exact wpAny_pyHash_int h
  ·exact wpAny_pyHash_str h
 eqBool:=λhu hv h=>by
  rcases bC hu with ⟨i,t,rfl,rfl⟩ | ⟨x,t,rfl,rfl⟩
  ·rcases bC hv with ⟨j,u,rfl,rfl⟩ | ⟨y,u,rfl,rfl⟩
   ·rw[Io] at h;exact wpAny_eqBool_int h
   ·rw[JZ] at h;exact SeqAt.EqAt.int_str i t y u _ _ _ _ h
  ·rcases bC hv with ⟨j,u,rfl,rfl⟩ | ⟨y,u,rfl,rfl⟩
   ·rw[Hs] at h;exact SeqAt.EqAt.str_int x t j u _ _ _ _ h
   ·rw[Kr] at h;exact wpAny_eqBool_str h
 «strs»:=λk x t v h=>by
  rcases bC h with ⟨i,u,rfl,e⟩ | ⟨y,u,rfl,e⟩
  ·exact nomatch e
  ·injection e with e1 _
   subst e1
   cases v<;>rfl
theorem u9 (prog:NR)(w:N6)(i:Int)(t:Tok):(b5 prog w).is (.inl i) (.int i t)=true:=zW i t
theorem uB (prog:NR)(w:N6)(x:Str)(t:Tok):(b5 prog w).is (.inr x) (.str x t)=true:=Ah x t
end L2
namespace L2
open PySem PySem.Spec PyProof.Rows
inductive V where
 | non | bl (b:Bool) | int (i:Int) | str (x:Str) | byt (b:Array UInt8) | flt (b:UInt64) | ref (a:Addr) | ty (n:String)
 deriving DecidableEq
def RelV:V->NC->Prop
 | .non,u=>u=Pe
 | .bl b,u=>u=RV b
 | .int i,u=>∃ t,u=SI i t
 | .str x,u=>∃ t,u=QF x t
 | .byt b,u=>∃ t,u=Value.bytes b t
 | .flt b,u=>∃ t,u=Value.float b t
 | .ref a,u=>u=OX a
 | .ty n,u=>u=RW n
abbrev Vals:List V->List NC->Prop:=Rx RelV
theorem Vals.length {xs:List V}{us:List NC}(r:Vals xs us):xs.length=us.length:=U1 r
theorem Vals.get:∀ {xs:List V} {us:List NC} {i:Nat} {x:V},Vals xs us->xs[i]? = some x->∃ u,us[i]? = some u/\RelV x u
 | _,_,_,_,.nil,e=>by simp at e
 | _,_,0,_,.cons r _,e=>by simp at e;subst e;exact ⟨_,rfl,r⟩
 | _,_,i+1,x,.cons _ t,e=>by
  obtain ⟨u,h1,h2⟩:=Vals.get (i:=i) (x:=x) t (by simpa using e)
  exact ⟨u,by simpa using h1,h2⟩
theorem Vals.set {x:V}{u:NC}(r:RelV x u):∀ {xs:List V} {us:List NC} (i:Nat),Vals xs us->Vals (xs.set i x) (us.set i u)
 | _,_,_,.nil=>.nil
 | _,_,0,.cons _ t=>.cons r t
 | _,_,i+1,.cons q t=>.cons q (Vals.set r i t)
theorem Vals.append:∀ {xs ys:List V} {us ws:List NC},Vals xs us->Vals ys ws->Vals (xs++ys) (us++ws)
 | _,_,_,_,.nil,s=>s
 | _,_,_,_,.cons r t,s=>.cons r (Vals.append t s)
theorem Vals.take:∀ {xs:List V} {us:List NC} (n:Nat),Vals xs us->Vals (xs.take n) (us.take n)
 | _,_,0,_=>.nil
 | _,_,_+1,.nil=>.nil
 | _,_,n+1,.cons r t=>.cons r (Vals.take n t)
theorem Vals.drop:∀ {xs:List V} {us:List NC} (n:Nat),Vals xs us->Vals (xs.drop n) (us.drop n)
 | _,_,0,r=>r
 | _,_,_+1,.nil=>.nil
 | _,_,n+1,.cons _ t=>Vals.drop n t
def Ao:Option V->Option NC->Prop
 | some v,some u=>RelV v u
 | none,none=>True
 | _,_=>False
def KV {κ:Type}:List (κ×V)->List (κ×NC)->Prop:=Rx λ(p:κ×V) (q:κ×NC)=>p.1=q.1/\RelV p.2 q.2
def kV:Key->V
 | .inl i=>.int i
 | .inr x=>.str x
inductive HO where
  | lst (xs:List V)
  | tup (xs:List V)
  | dK (kvs:List (Key×V)) | dT (kvs:List (List Key×V))
  | set (S:Int->Bool) (n:Nat)
  | ins (C dx:Addr) (fs:List (Str×V))
  | own (x:Addr)
  | xd (fs:List (Str×V))
  | met (f x:Addr)
  | rng (lo hi:Int)
  | frz (o:Obj) (u:HO)
  | tbl (ps:Array NC)
  | ext (φ:Heap->Prop)
abbrev Hp:=Addr->Option HO
def upd (H:Hp)(a:Addr)(o:HO):Hp:=λb=>if b=a then some o else H b
theorem aQ {H:Hp}{a:Addr}{o:HO}:upd H a o a=some o:=by unfold upd;rw[if_pos rfl]
theorem aT {H:Hp}{a b:Addr}{o:HO}(h:b≠a):upd H a o b=H b:=by unfold upd;rw[if_neg h]
theorem tP {H:Hp}{a:Addr}{o u:HO}:upd (upd H a o) a u=upd H a u:=by
 funext b;unfold upd;split<;>rfl
theorem dM {H:Hp}{a b:Addr}{o:HO}(h:H a=some o)(h':H b=none):a≠b:=by
 intro e;subst e;rw[h] at h';cases h'
def ve (h:Heap)(a:Addr)(items:Array NC):Prop:=∃ n,h.get? a=some { cls:=.type "tuple", data:=.seq items n }
theorem ve.tup {h:Heap}{a:Addr}{items:Array NC}(p:ve h a items):IsTup h a items:=by obtain ⟨n,e⟩:=p;exact ⟨_,e,rfl,n,rfl⟩
theorem ve.new (h:Heap)(items:Array NC):ve (h.push { cls:=.type "tuple", data:=.seq items }) h.objs.size items:=⟨_,NT _ rfl⟩
section
variable (P:NR) (w:N6)
def cK (H:Hp)(h:Heap)(a:Addr):HO->Prop
 | .lst xs=>xs.length<=sizeLine/\∃ (its:List NC) (n:Nat),Vals xs its/\h.get? a=some { cls:=.type "list", data:=.seq its.toArray n }
 | .tup xs=>xs.length<=sizeLine/\∃ its:List NC,Vals xs its/\ve h a its.toArray
 | .dK kvs=>kvs.length<=sizeLine/\(a == PH)=false/\∃ vs,KV kvs vs/\h.DictOf (b5 P w) a vs
 | .dT kvs=>kvs.length<=sizeLine/\(a == PH)=false/\∃ xs:List (List Key×Addr×NC),
   Rx (λ(p:List Key×V) (q:List Key×Addr×NC)=>p.1=q.1/\H q.2.1=some (.tup (p.1.map kV))/\RelV p.2 q.2.2) kvs xs/\
   ∃ o es ep,h.get? a=some o/\o.ExactDict/\o.data=.dict es ep/\es.toList=xs.map (entryOfKey (tupleKind (b5 P w)))/\(xs.map (·.1)).Nodup
 | .set S n=>h.SetOf (intKind P w) a S n
 | .ins C dx fs=>H dx=some (.own a)/\fs.length<=1000/\dx≠a/\h.get? a=some (PySem.W.instObj C dx)/\
   ∃ mA,h.Ns1 dx mA/\(∀ f,Ao (fs.lookup f) (mA f))/\PySem.Within mA (fs.map (·.1))
 | .own _=>∃ o,h.get? a=some o
 | .xd fs=>∃ mA,h.Ns1 a mA/\∀ f,Ao (fs.lookup f) (mA f)
 | .rng lo hi=>∃ t u v,h.get? a=some { cls:=.type "range", data:=.fields #[.int lo t,.int hi u,.int 1 v] }
 | .frz o u=>h.get? a=some o/\cK H h a u
 | .tbl ps=>h.get? a=some { cls:=.none,data:=.fields ps }
 | .met f x=>h.get? a=some (Rp (.ref f) (.ref x))
 | .ext φ=>φ h/\(∃ o,h.get? a=some o)/\∀ h1 h2:Heap,φ h1->(∀ o,h1.get? a=some o->h2.get? a=some o)->φ h2
def HOk (H:Hp)(h:Heap):Prop:=∀ a o,H a=some o->cK P w H h a o
end
section
variable {P:NR} {w:N6} {H H':Hp} {h h':Heap} {a:Addr} {o:HO}
theorem cK.lt (x:cK P w H h a o):a < h.objs.size:=by
 cases o with
 | lst xs=>obtain ⟨_,_,_,_,e⟩:=x;exact NP e
 | tup xs=>obtain ⟨_,_,_,p⟩:=x;exact p.tup.lt
 | dK kvs=>obtain ⟨_,_,_,_,o,_,_,e,_⟩:=x;exact NP e
 | dT kvs=>obtain ⟨_,_,_,_,o,_,_,e,_⟩:=x;exact NP e
 | set S n=>obtain ⟨o,_,_,_,e,_⟩:=x;exact NP e
 | ins C dx fs=>obtain ⟨_,_,_,e,_⟩:=x;exact NP e
 | own y=>obtain ⟨_,e⟩:=x;exact NP e
 | xd fs=>obtain ⟨_,⟨_,_,_,e,_⟩,_⟩:=x;exact NP e
 | rng lo hi=>obtain ⟨_,_,_,e⟩:=x;exact NP e
 | frz ob u=>obtain ⟨e,_⟩:=x;exact NP e
 | tbl ps=>exact NP (show h.get? a=some _ from x)
 | met f y=>exact NP (show h.get? a=some _ from x)
 | ext φ=>obtain ⟨_,⟨_,e⟩,_⟩:=x;exact NP e
theorem Rx.HI {α β:Type}{F G:α->β->Prop}:∀ {l₁:List α} {l₂:List β},Rx F l₁ l₂->(∀ a b,F a b->G a b)->Rx G l₁ l₂
 | _,_,.nil,_=>.nil
 | _,_,.cons r t,f=>.cons (f _ _ r) (Rx.HI t f)
theorem cK.rT (x:cK P w H h a o)(k:∀ b u,(b=a∨H b=some (.own a))->h.get? b=some u->h'.get? b=some u)
  (ho:∀ b,H b=some (.own a)->H' b=some (.own a)) (ht:∀ b xs,H b=some (.tup xs)->H' b=some (.tup xs)):cK P w H' h' a o:=by
 induction o with
 | lst xs=>obtain ⟨z,its,n,r,e⟩:=x;exact ⟨z,its,n,r,k _ _ (.inl rfl) e⟩
 | tup xs=>obtain ⟨z,its,r,m,e⟩:=x;exact ⟨z,its,r,m,k _ _ (.inl rfl) e⟩
 | dK kvs=>obtain ⟨z,y,vs,r,ob,es,ep,e,c⟩:=x;exact ⟨z,y,vs,r,ob,es,ep,k _ _ (.inl rfl) e,c⟩
 | dT kvs=>
  obtain ⟨z,y,xs,r,ob,es,ep,e,c⟩:=x
  exact ⟨z,y,xs,Rx.HI r λp q z=>⟨z.1,ht _ _ z.2.1,z.2.2⟩,ob,es,ep,k _ _ (.inl rfl) e,c⟩
 | set S n=>obtain ⟨ob,es,ep,t,e,c⟩:=x;exact ⟨ob,es,ep,t,k _ _ (.inl rfl) e,c⟩
 | ins C dx fs=>
  obtain ⟨d,z,ne,e,mA,⟨od,es,ep,e2,c⟩,r⟩:=x
  exact ⟨ho _ d,z,ne,k _ _ (.inl rfl) e,mA,⟨od,es,ep,k _ _ (.inr d) e2,c⟩,r⟩
 | own y=>obtain ⟨ob,e⟩:=x;exact ⟨ob,k _ _ (.inl rfl) e⟩
 | xd fs=>obtain ⟨mA,⟨od,es,ep,e,c⟩,r⟩:=x;exact ⟨mA,⟨od,es,ep,k _ _ (.inl rfl) e,c⟩,r⟩
 | rng lo hi=>obtain ⟨t,u,v,e⟩:=x;exact ⟨t,u,v,k _ _ (.inl rfl) e⟩
 | frz ob u ih=>obtain ⟨e,q⟩:=x;exact ⟨k _ _ (.inl rfl) e,ih q⟩
 | tbl ps=>
  have e:h.get? a=some { cls:=.none,data:=.fields ps }:=x
  show h'.get? a=some { cls:=.none,data:=.fields ps }
  exact k a _ (.inl rfl) e
 | met f y=>
  have e:h.get? a=some (Rp (.ref f) (.ref y)):=x
  show h'.get? a=some (Rp (.ref f) (.ref y))
  exact k a _ (.inl rfl) e
 | ext φ=>obtain ⟨p,⟨o,e⟩,st⟩:=x;exact ⟨st _ _ p λo q=>k _ _ (.inl rfl) q,⟨o,k _ _ (.inl rfl) e⟩,st⟩
theorem HOk.lt (x:HOk P w H h)(e:H a=some o):a < h.objs.size:=(x a o e).lt
theorem HOk.fresh (x:HOk P w H h)(e:h.objs.size<=a):H a=none:=by
 cases q:H a with
 | none=>rfl
 | some u=>exact absurd (N4 (x.lt q) e) (PM _)
theorem HOk.kept (x:HOk P w H h)(k:∀ b u,h.get? b=some u->h'.get? b=some u):HOk P w H h':=λa o e=>
 (x a o e).rT (λb u _ q=>k b u q) (λ_ q=>q) λ_ _ q=>q
theorem HOk.laid (x:HOk P w H h)(k:∀ b u,h.get? b=some u->h'.get? b=some u)(hp:h.objs.size<=a)(new:cK P w (upd H a o) h' a o):HOk P w (upd H a o) h':=λb u e=>by
 have hn:=x.fresh hp
 by_cases hb:b=a
 ·subst hb;rw[aQ] at e;cases e;exact new
 ·rw[aT hb] at e
  exact (x b u e).rT (λc v _ q=>k c v q) (λc q=>by rw[aT (dM q hn)];exact q) λc xs q=>by rw[aT (dM q hn)];exact q
end
def Rd (H:Hp)(a:Addr)(u:HO):Prop:=H a=some u∨∃ o,H a=some (.frz o u)
theorem Rd.ok {P:NR}{w:N6}{H:Hp}{h:Heap}{a:Addr}{u:HO}(r:Rd H a u)(x:HOk P w H h):cK P w H h a u:=by
 rcases r with r | ⟨o,r⟩
 ·exact x a u r
 ·obtain ⟨_,q⟩:=x a _ r
  exact q
def Mut:Option HO->Prop
 | some (.lst _)=>True
 | some (.dK _)=>True
 | some (.dT _)=>True
 | some (.set _ _)=>True
 | some (.ins _ _ _)=>True
 | some (.ext _)=>True
 | _=>False
section
variable {P:NR} {w:N6} {H:Hp} {h h':Heap} {x e:Addr} {o':HO}
theorem HOk.write (ok:HOk P w H h)(mu:Mut (H x))(he:e=x∨H e=some (.own x))(k:∀ b u,b≠e->h.get? b=some u->h'.get? b=some u)(heo:∃ u,h'.get? e=some u)
  (new:cK P w (upd H x o') h' x o'):HOk P w (upd H x o') h':=λb u q=>by
 have LV:∀ c y,H c=some (.own y)->c≠x:=λc y r z=>by subst z;rw[r] at mu;exact mu
 have MS:∀ c xs,H c=some (.tup xs)->c≠x:=λc xs r z=>by subst z;rw[r] at mu;exact mu
 by_cases hb:b=x
 ·subst hb;rw[aQ] at q;cases q;exact new
 ·rw[aT hb] at q
  by_cases hbe:b=e
  ·have q':H b=some (.own x):=by
    rcases he with z | z
    ·exact absurd (hbe.trans z) hb
    ·rw[hbe];exact z
   rw[q] at q';cases q'
   obtain ⟨v,hv⟩:=heo
   exact ⟨v,by rw[hbe];exact hv⟩
  ·refine (ok b u q).rT (λc v hc r=>k c v ?_ r) (λc r=>by rw[aT (LV c b r)];exact r) λc xs r=>by rw[aT (MS c xs r)];exact r
   rcases hc with rfl | hc
   ·exact hbe
   ·rintro rfl
    rcases he with z | z
    ·exact LV c b hc z
    ·rw[hc] at z;cases z;exact hb rfl
end
structure Un (fs ex:List Addr) (H H':Hp) (h h':Heap):Prop where
 keep:∀ b o,h.get? b=some o->H b=none->b ∉ fs->b ∉ ex->h'.get? b=some o
 slot:∀ b o,h.get? b=some o->H b=none->b∈fs->b ∉ ex->∃ sl,h'.get? b=some { o with slots:=sl }
 free:∀ b o,h.get? b=some o->H b=none->b ∉ ex->H' b=none
 there:∀ b o,h.get? b=some o->b ∉ ex->∃ o',h'.get? b=some o'
 mh:∀ b xs,H b=some (.tup xs)->H' b=some (.tup xs)
 k9:∀ b o u,H b=some (.frz o u)->H' b=some (.frz o u)
 md:∀ b ps,H b=some (.tbl ps)->∃ more,H' b=some (.tbl (ps++more))
section
variable {fs fs' ex ex':List Addr} {H H1 H2:Hp} {h h1 h2 h':Heap} {a x e:Addr} {o:HO}
theorem Un.any (u:Un fs ex H H1 h h1){b:Addr}{ob:Obj}(q:h.get? b=some ob)(n:H b=none)(hx:b ∉ ex):∃ sl,h1.get? b=some { ob with slots:=sl }:=by
 by_cases hb:b∈fs
 ·exact u.slot b ob q n hb hx
 ·exact ⟨ob.slots,u.keep b ob q n hb hx⟩
theorem Un.trans (a:Un fs ex H H1 h h1)(b:Un fs ex H1 H2 h1 h2):Un fs ex H H2 h h2 where
 keep:=λc ob q n hc hx=>b.keep c ob (a.keep c ob q n hc hx) (a.free c ob q n hx) hc hx
 slot:=λc ob q n hc hx=>by
  obtain ⟨sl,e1⟩:=a.slot c ob q n hc hx
  obtain ⟨sl',e2⟩:=b.slot c _ e1 (a.free c ob q n hx) hc hx
  exact ⟨sl',e2⟩
 free:=λc ob q n hx=>by
  obtain ⟨o',e1⟩:=a.there c ob q hx
  exact b.free c o' e1 (a.free c ob q n hx) hx
 there:=λc ob q hx=>by
  obtain ⟨o',e1⟩:=a.there c ob q hx
  exact b.there c o' e1 hx
 mh:=λc xs q=>b.mh c xs (a.mh c xs q)
 k9:=λc ob xs q=>b.k9 c ob xs (a.k9 c ob xs q)
 md:=λc ps q=>by
  obtain ⟨m1,e1⟩:=a.md c ps q
  obtain ⟨m2,e2⟩:=b.md c _ e1
  exact ⟨m1++m2,by rw[e2,Tj]⟩
theorem Un.kept (k:∀ b u,h.get? b=some u->h'.get? b=some u):Un fs ex H H h h':=
 ⟨λb ob q _ _ _=>k b ob q,λb ob q _ _ _=>⟨ob.slots,k b ob q⟩,λ_ _ _ n _=>n,λb ob q _=>⟨ob,k b ob q⟩,λ_ _ q=>q,λ_ _ _ q=>q,λ_ ps q=>⟨#[],by rw[q];simp⟩⟩
theorem Un.refl:Un fs ex H H h h:=Un.kept λ_ _ q=>q
theorem Un.laid (k:∀ b u,h.get? b=some u->h'.get? b=some u)(hp:h.objs.size<=a)(hn:H a=none):Un fs ex H (upd H a o) h h' where
 keep:=λb u q _ _ _=>k b u q
 slot:=λb u q _ _ _=>⟨u.slots,k b u q⟩
 free:=λb u q n _=>by rw[aT (NY (N4 (NP q) hp))];exact n
 there:=λb u q _=>⟨u,k b u q⟩
 mh:=λb xs q=>by rw[aT (dM q hn)];exact q
 k9:=λb u xs q=>by rw[aT (dM q hn)];exact q
 md:=λb ps q=>⟨#[],by rw[aT (dM q hn),q];simp⟩
theorem Un.write (mu:Mut (H x))(he:e=x∨H e=some (.own x))(k:∀ b u,b≠e->h.get? b=some u->h'.get? b=some u)(heo:∃ u,h'.get? e=some u):Un fs ex H (upd H x o) h h':=by
 have hx:∀ b,H b=none->b≠x:=λb n z=>by subst z;rw[n] at mu;exact mu
 have hb:∀ b,H b=none->b≠e:=λb n z=>by
  subst z
  rcases he with r | r
  ·exact hx b n r
  ·rw[n] at r;cases r
 have hm:∀ b u,H b=some u->¬ Mut (some u)->b≠x:=λb u q nm z=>by subst z;rw[q] at mu;exact nm mu
 refine ⟨λb u q n _ _=>k b u (hb b n) q,λb u q n _ _=>⟨u.slots,k b u (hb b n) q⟩,λb u q n _=>by rw[aT (hx b n)];exact n,λb u q _=>?_,
  λb xs q=>by rw[aT (hm b _ q λz=>z)];exact q,λb u xs q=>by rw[aT (hm b _ q λz=>z)];exact q,λb ps q=>⟨#[],by rw[aT (hm b _ q λz=>z),q];simp⟩⟩
 by_cases hbe:b=e
 ·subst hbe;exact heo
 ·exact ⟨u,k b u hbe q⟩
theorem Un.mono (u:Un fs ex H H1 h h1)(hs:∀ b∈fs,b∈fs')(hx:∀ b∈ex,b∈ex'):Un fs' ex' H H1 h h1:=
 ⟨λb ob q n hb he=>u.keep b ob q n (λz=>hb (hs b z)) λz=>he (hx b z),λ_ _ q n _ he=>u.any q n λz=>he (hx _ z),λb ob q n he=>u.free b ob q n λz=>he (hx b z),λb ob q he=>u.there b ob q λz=>he (hx b z),u.mh,u.k9,u.md⟩
end
def trk (h:Heap)(H:Hp):List Addr:=(OR h.objs.size).filter λa=>(H a).isSome
def qW (h:Heap)(H:Hp):Heap:=PySem.W.hideAll h (trk h H)
theorem zV (h:Heap)(H:Hp):(qW h H).objs.size=h.objs.size:=PySem.W.hideAll_size _ _
theorem BD {h:Heap}{H:Hp}{b:Addr}{o:Obj}(e:h.get? b=some o)(n:H b=none):(qW h H).get? b=some o:=
 PySem.W.hideAll_get _ e λhm=>by
  have q:(H b).isSome=true:=(Up.mp hm).2
  rw[n] at q;simp at q
theorem Ga {h:Heap}{H:Hp}{b:Addr}{o:Obj}(e:(qW h H).get? b=some o):h.get? b=some o/\H b=none:=by
 have e':h.get? b=some o:=PySem.W.of_hideAll (trk h H) e
 refine ⟨e',?_⟩
 cases q:H b with
 | none=>rfl
 | some x=>
  have hm:b∈trk h H:=Up.mpr ⟨PB.mpr (NP e'),by simp[q]⟩
  have z:(qW h H).get? b=none:=PySem.W.hideAll_none (trk h H) hm
  rw[z] at e;cases e
def Fd (g h:Heap)(L:Addr):List (Addr×Obj):=(OR h.objs.size).filterMap λa=>if a=L∨(g.get? a).isSome=true then none else (h.get? a).map λo=>(a,o)
def rest (g h:Heap)(L d:Addr):List (Addr×Obj):=(Fd g h L).filter λp=>decide (p.1≠d)
end L2
namespace L2
open PySem PySem.Spec PyProof.Rows
structure Mod (K:NB) (mg:Str->Option NC) (base:Heap):Prop where
 kin:K.In base
 glob:base.Ns Oy mg
 blt:∃ mb,base.Ns UE mb/\∀ x:Str,x ≠ "__name__" -> mb x=Of x
 nolimit:base.NoLimit
structure Cx where
 prog:NR
 w:N6
 K:NB
 mg:Str->Option NC
 base:Heap
 A:N7
 N:List Str
 s₀:ND
 H₀:Hp
 env:Env
 outer:List Env
 stack:List Env
 ex:List Addr
 fn:Str->Bool
 calm:Bool
 pn:List (Addr×Obj)
 xe:NC->ND->Prop
def frs (l:List Env):List Addr:=l.filterMap (·.frame)
abbrev Cx.fs (X:Cx):List Addr:=frs X.outer
def Vis (sc:Scope)(x:Str):Prop:=sc.names.lookup x=some .local∨sc.names.lookup x=some .cell∨sc.names.lookup x=some .free
def Loc (sc:Scope)(x:Str):Prop:=sc.names.lookup x=some .local∨sc.names.lookup x=some .cell
def Look (env:Env)(h:Heap)(m:Str->Option NC)(x:Str)(u:NC):Prop:=
 (env.kindOf x=some .local/\m x=some u)∨((env.kindOf x=some .cell∨env.kindOf x=some .free)/\∃ c,env.cells.lookup x=some c/\h.IsCell c (some u))
structure Cx.Ok (X:Cx):Prop where
 mod:Mod X.K X.mg X.base
 kind:X.env.scope.kind=.function
 glob:X.env.globals=Oy
 blt:X.env.builtins=UE
 above:X.s₀.heap.objs.size<=X.env.locals
 inj:∀ x y c,X.env.cells.lookup x=some c->X.env.cells.lookup y=some c->x=y
 has:∀ x,(X.env.kindOf x=some .cell∨X.env.kindOf x=some .free)->∃ c,X.env.cells.lookup x=some c
 cab:∀ x c,X.fn x=true->X.env.cells.lookup x=some c->X.s₀.heap.objs.size<=c
 hd:X.calm=true->X.A.handled=none
 frames:X.A.frames=some X.stack
 stk:X.stack=X.outer∨(X.stack=X.env::X.outer/\X.env.frame=some X.env.locals)
 exf:∀ b∈X.ex,b≠X.env.locals/\∀ x c,X.env.cells.lookup x=some c->c≠b
 bs:∀ b o,X.base.get? b=some o->X.s₀.heap.get? b=some o/\X.H₀ b=none
 bsz:X.base.objs.size<=X.s₀.heap.objs.size
 CH:∀ b o,X.base.get? b=some o->b ∉ X.ex
 C2:∀ b∈X.ex,b ∉ X.fs
 nW:X.s₀.heap.FunFrames X.base X.outer
 frf:∀ b∈X.fs,X.H₀ b=none
structure Inv (X:Cx) (pins:List (Addr×Obj)) (σ:List (Option V)) (H:Hp) (s:ND):Prop where
 ok:X.Ok
 os:s.os=X.s₀.os
 bare:Rq s.gens
 base:Un X.fs X.ex X.H₀ H X.s₀.heap s.heap
 loc:∃ m,s.heap.Ns X.env.locals m/\∀ (i:Nat) (x:Str) (v:V),X.N[i]? = some x->σ[i]? = some (some v)->Vis X.env.scope x->∃ u,RelV v u/\Look X.env s.heap m x u
 cell:∀ x c,X.env.cells.lookup x=some c->∃ v,s.heap.IsCell c v
 free:H X.env.locals=none
 g6:∀ x c,X.env.cells.lookup x=some c->H c=none
 pin:∀ p∈X.pn++pins,s.heap.get? p.1=some p.2/\H p.1=none/\p.1≠X.env.locals/\p.1 ∉ X.fs/\∀ v,p.2.data≠.cell v
 hok:HOk X.prog X.w H s.heap
 len:σ.length=X.N.length
section
variable {X:Cx} {pins:List (Addr×Obj)} {σ:List (Option V)} {H H':Hp} {s:ND} {h':Heap}
theorem Cx.Ok.ME (ok:X.Ok){b:Addr}{o:Obj}(e:X.base.get? b=some o):b ∉ X.fs:=λhb=>by
 have:=(ok.nW.mem hb).1
 rw[e] at this;cases this
theorem Inv.bs (I:Inv X pins σ H s):∀ b o,X.base.get? b=some o->s.heap.get? b=some o/\H b=none:=λb o e=>
 ⟨I.base.keep b o (I.ok.bs b o e).1 (I.ok.bs b o e).2 (I.ok.ME e) (I.ok.CH b o e),I.base.free b o (I.ok.bs b o e).1 (I.ok.bs b o e).2 (I.ok.CH b o e)⟩
theorem Inv.bk (I:Inv X pins σ H s):∀ b o,X.base.get? b=some o->s.heap.get? b=some o:=λb o e=>(I.bs b o e).1
theorem Inv.mod (I:Inv X pins σ H s):Mod X.K X.mg X.base:=I.ok.mod
theorem Inv.kIn (I:Inv X pins σ H s):X.K.In s.heap:=I.ok.mod.kin.keeps I.bk
theorem Inv.nolimit (I:Inv X pins σ H s):s.heap.NoLimit:=I.ok.mod.nolimit.keeps I.bk
theorem Inv.fr (I:Inv X pins σ H s):∃ m,Fr X.base X.env.locals s.heap m:=
 let ⟨m,hn,_⟩:=I.loc
 ⟨m,hn,I.bk,OJ I.ok.bsz I.ok.above⟩
theorem Inv.lt (I:Inv X pins σ H s):X.env.locals < s.heap.objs.size:=let ⟨_,hn,_⟩:=I.loc;hn.lt
theorem Inv.sz (I:Inv X pins σ H s):X.s₀.heap.objs.size<=s.heap.objs.size:=OJ I.ok.above (RX I.lt)
theorem Inv.MI (I:Inv X pins σ H s){a:Addr}(h:s.heap.objs.size<=a):a ∉ X.fs:=λhb=>by
 obtain ⟨_,o,ho,_⟩:=I.ok.nW.mem hb
 exact absurd (N4 (NP ho) (OJ I.sz h)) (PM _)
theorem Inv.cne (I:Inv X pins σ H s):∀ x c,X.env.cells.lookup x=some c->c≠X.env.locals:=λx c e z=>by
 obtain ⟨v,o,ho,hd⟩:=I.cell x c e
 obtain ⟨m,⟨o',es,ep,ho',hd',_⟩,_⟩:=I.loc
 rw[z,ho'] at ho;cases ho;rw[hd'] at hd;cases hd
theorem Inv.nW (I:Inv X pins σ H s):s.heap.FunFrames X.base X.outer:=by
 have all:∀ (l:List Env),(∀ b∈frs l,b∈X.fs)->X.s₀.heap.FunFrames X.base l->s.heap.FunFrames X.base l:=by
  intro l
  induction l with
  | nil=>intro _ _;trivial
  | cons env r ih=>
   intro hs hl
   obtain ⟨hk,⟨L,o,hf,hn,ho,hd⟩,hr⟩:=hl
   have hL:L∈X.fs:=hs L (by unfold frs;rw[Q1,hf];exact NJ)
   obtain ⟨sl,e⟩:=I.base.slot L o ho (I.ok.frf L hL) hL λz=>I.ok.C2 L z hL
   exact ⟨hk,⟨L,_,hf,hn,e,hd⟩,ih (λb hb=>hs b (by unfold frs;rw[Q1,hf];exact NM _ hb)) hr⟩
 exact all X.outer (λ_ hb=>hb) I.ok.nW
theorem Inv.stack (I:Inv X pins σ H s):s.heap.FunFrames X.base X.stack:=by
 rcases I.ok.stk with e | ⟨e,hf⟩
 ·rw[e];exact I.nW
 ·rw[e]
  obtain ⟨m,hn,_⟩:=I.loc
  refine .cons (by rw[I.ok.kind];decide) hf hn ?_ I.nW
  exact Heap.get?_none_of_le (OJ I.ok.bsz I.ok.above)
theorem Inv.xZ (I:Inv X pins σ H s):∀ b∈frs X.stack,b∈X.env.locals::X.fs:=λb hb=>by
 rcases I.ok.stk with e | ⟨e,hf⟩
 ·rw[e] at hb;exact NM _ hb
 ·rw[e] at hb
  unfold frs at hb
  rw[Q1,hf] at hb
  exact hb
theorem Inv.yy (I:Inv X pins σ H s):∀ b∈frs X.stack,H b=none:=λb hb=>by
 rcases N9.mp (I.xZ b hb) with e | hb
 ·rw[e];exact I.free
 ·obtain ⟨_,o,ho,_⟩:=I.ok.nW.mem hb
  exact I.base.free b o ho (I.ok.frf b hb) λz=>I.ok.C2 b z hb
theorem Inv.step {g':Array GenState}{t':Nat}{d':Drawn}{ch:List Addr}(I:Inv X pins σ H s)
  (hch:∀ b∈ch,(b∈X.ex∨X.s₀.heap.objs.size<=b)/\b≠X.env.locals/\(∀ x c,X.env.cells.lookup x=some c->c≠b)/\∀ p∈X.pn++pins,p.1≠b)
  (keep:∀ b o,b≠X.env.locals->b ∉ X.fs->b ∉ ch->s.heap.get? b=some o->H b=none->h'.get? b=some o)
  (slot:∀ b o,b≠X.env.locals->b∈X.fs->b ∉ ch->s.heap.get? b=some o->H b=none->∃ sl,h'.get? b=some { o with slots:=sl }) (free:∀ b o,b ∉ ch->s.heap.get? b=some o->H b=none->H' b=none)
  (there:∀ b o,b ∉ ch->s.heap.get? b=some o->∃ o',h'.get? b=some o')
  (mh:∀ b xs,H b=some (.tup xs)->H' b=some (.tup xs)) (k9:∀ b o u,H b=some (.frz o u)->H' b=some (.frz o u)) (md:∀ b ps,H b=some (.tbl ps)->∃ more,H' b=some (.tbl (ps++more)))
  (ns:∀ m,s.heap.Ns X.env.locals m->h'.Ns X.env.locals m) (hok:HOk X.prog X.w H' h') (hg:Rq g') :
  Inv X pins σ H' { s with heap:=h',gens:=g',drawn:=d',toks:=t' }:=by
 have neL:∀ b o,X.s₀.heap.get? b=some o->b≠X.env.locals:=λb o e=>NY (N4 (NP e) I.ok.above)
 have neC:∀ b o,X.s₀.heap.get? b=some o->b ∉ X.ex->b ∉ ch:=λb o e hx hb=>by
  rcases (hch b hb).1 with z | z
  ·exact hx z
  ·exact absurd (N4 (NP e) z) (PM _)
 have cellK:∀ x c,X.env.cells.lookup x=some c->∀ v,s.heap.IsCell c v->h'.IsCell c v:=λx c e v ⟨o,ho,hd⟩=>by
  have nch:c ∉ ch:=λz=>(hch c z).2.2.1 x c e rfl
  by_cases hc:c∈X.fs
  ·obtain ⟨sl,q⟩:=slot c o (I.cne x c e) hc nch ho (I.g6 x c e)
   exact ⟨_,q,hd⟩
  ·exact ⟨o,keep c o (I.cne x c e) hc nch ho (I.g6 x c e),hd⟩
 refine ⟨I.ok,I.os,hg,⟨λb o e n hb hx=>?_,λb o e n hb hx=>?_,λb o e n hx=>?_,λb o e hx=>?_,λb xs e=>mh b xs (I.base.mh b xs e),λb o xs e=>k9 b o xs (I.base.k9 b o xs e),λb ps e=>?_⟩,?_,λx c e=>?_,?_,λx c e=>?_,λp hp=>?_,hok,I.len⟩
 ·exact keep b o (neL b o e) hb (neC b o e hx) (I.base.keep b o e n hb hx) (I.base.free b o e n hx)
 ·obtain ⟨sl,e1⟩:=I.base.slot b o e n hb hx
  obtain ⟨sl',e2⟩:=slot b _ (neL b o e) hb (neC b o e hx) e1 (I.base.free b o e n hx)
  exact ⟨sl',e2⟩
 ·obtain ⟨o',e1⟩:=I.base.there b o e hx
  exact free b o' (neC b o e hx) e1 (I.base.free b o e n hx)
 ·obtain ⟨o',e1⟩:=I.base.there b o e hx
  exact there b o' (neC b o e hx) e1
 ·obtain ⟨m1,e1⟩:=I.base.md b ps e
  obtain ⟨m2,e2⟩:=md b _ e1
  exact ⟨m1++m2,by rw[e2,Tj]⟩
 ·obtain ⟨m,hn,hl⟩:=I.loc
  refine ⟨m,ns m hn,λi x v e1 e2 e3=>?_⟩
  obtain ⟨u,r,l⟩:=hl i x v e1 e2 e3
  refine ⟨u,r,?_⟩
  rcases l with l | ⟨k,c,e,z⟩
  ·exact .inl l
  ·exact .inr ⟨k,c,e,cellK x c e _ z⟩
 ·obtain ⟨v,z⟩:=I.cell x c e
  exact ⟨v,cellK x c e v z⟩
 ·obtain ⟨m,⟨o,_,_,ho,_⟩,_⟩:=I.loc
  exact free _ o (λz=>(hch _ z).2.1 rfl) ho I.free
 ·obtain ⟨v,o,ho,hd⟩:=I.cell x c e
  exact free c o (λz=>(hch c z).2.2.1 x c e rfl) ho (I.g6 x c e)
 ·obtain ⟨e,n,ne,nf,d⟩:=I.pin p hp
  have nch:p.1 ∉ ch:=λz=>(hch p.1 z).2.2.2 p hp rfl
  exact ⟨keep p.1 p.2 ne nf nch e n,free p.1 p.2 nch e n,ne,nf,d⟩
theorem Inv.un {t':Nat}(I:Inv X pins σ H s)(u:Un X.fs [] H H' s.heap h')(hok:HOk X.prog X.w H' h'):Inv X pins σ H' { s with heap:=h',toks:=t' }:=by
 obtain ⟨m,⟨o,es,ep,ho,r⟩,_⟩:=id I.loc
 obtain ⟨sl,hL⟩:=u.any ho I.free (by simp)
 exact I.step (g':=s.gens) (d':=s.drawn) (ch:=[]) (λ_ z=>nomatch z) (λb o _ hb _ e n=>u.keep b o e n hb (by simp)) (λb o _ hb _ e n=>u.slot b o e n hb (by simp)) (λb o _ e n=>u.free b o e n (by simp)) (λb o _ e=>u.there b o e (by simp)) u.mh u.k9 u.md (λm' hm=>by
  obtain ⟨o',es',ep',ho',r'⟩:=hm
  rw[ho] at ho';cases ho'
  exact ⟨_,es',ep',hL,r'⟩) hok I.bare
theorem Inv.call {g':Array GenState}{t':Nat}{d':Drawn}{ch:List Addr}(I:Inv X pins σ H s)(u:Un (frs X.stack) ch H H' s.heap h')(hok:HOk X.prog X.w H' h')(hg:Rq g')
  (hch:∀ b∈ch,(b∈X.ex∨X.s₀.heap.objs.size<=b)/\b≠X.env.locals/\(∀ x c,X.env.cells.lookup x=some c->c≠b)/\∀ p∈X.pn++pins,p.1≠b) :
  Inv X pins σ H' { s with heap:=h',gens:=g',drawn:=d',toks:=t' }:=by
 obtain ⟨m,⟨o,es,ep,ho,r⟩,_⟩:=id I.loc
 obtain ⟨sl,hL⟩:=u.any ho I.free λz=>(hch _ z).2.1 rfl
 exact I.step (ch:=ch) hch (λb o hL hb hc e n=>u.keep b o e n (λz=>(N9.mp (I.xZ b z)).elim hL hb) hc) (λb o _ _ hc e n=>u.any e n hc) (λb o hc e n=>u.free b o e n hc) (λb o hc e=>u.there b o e hc) u.mh u.k9 u.md (λm' hm=>by
  obtain ⟨o',es',ep',ho',r'⟩:=hm
  rw[ho] at ho';cases ho'
  exact ⟨_,es',ep',hL,r'⟩) hok hg
theorem Inv.turned {t':Nat}{it:Addr}(I:Inv X pins σ H s)(k:∀ b o,b≠it->s.heap.get? b=some o->h'.get? b=some o)(hn:H it=none)(hL:it≠X.env.locals)
  (h1:it∈X.ex∨X.s₀.heap.objs.size<=it) (h2:∀ x c,X.env.cells.lookup x=some c->c≠it) (h3:∀ p∈X.pn++pins,p.1≠it):Inv X pins σ H { s with heap:=h',toks:=t' }:=by
 have nit:∀ b u,H b=some u->b≠it:=λb u e z=>by rw[z,hn] at e;cases e
 refine I.step (g':=s.gens) (d':=s.drawn) (ch:=[it]) (λb hb=>?_) (λb o _ _ hc e _=>k b o (λz=>hc (by simp[z])) e) (λb o _ _ hc e _=>⟨o.slots,k b o (λz=>hc (by simp[z])) e⟩) (λ_ _ _ _ n=>n)
  (λb o hc e=>⟨o,k b o (λz=>hc (by simp[z])) e⟩) (λ_ _ e=>e) (λ_ _ _ e=>e) (λb ps e=>⟨#[],by rw[e];simp⟩) (λm hm=>?_) (λb u e=>?_) I.bare
 ·have e:b=it:=by simpa using hb
  subst e
  exact ⟨h1,hL,h2,h3⟩
 ·obtain ⟨o,es,ep,ho,r⟩:=hm
  exact ⟨o,es,ep,k _ o (Pz hL) ho,r⟩
 ·refine (I.hok b u e).rT (λc v hc q=>k c v ?_ q) (λ_ q=>q) λ_ _ q=>q
  rcases hc with z | z
  ·rw[z];exact nit b u e
  ·exact nit c _ z
theorem Inv.tok (I:Inv X pins σ H s)(t:Nat):Inv X pins σ H { s with toks:=t }:=I.un (h':=s.heap) (t':=t) Un.refl I.hok
theorem Inv.kept {t':Nat}(I:Inv X pins σ H s)(k:∀ b u,s.heap.get? b=some u->h'.get? b=some u):Inv X pins σ H { s with heap:=h',toks:=t' }:=I.un (Un.kept k) (I.hok.kept k)
theorem Inv.laid {a:Addr}{o:HO}{t':Nat}(I:Inv X pins σ H s)(k:∀ b u,s.heap.get? b=some u->h'.get? b=some u)(hp:s.heap.objs.size<=a)(new:cK X.prog X.w (upd H a o) h' a o) :
  Inv X pins σ (upd H a o) { s with heap:=h',toks:=t' }:=I.un (Un.laid k hp (I.hok.fresh hp)) (I.hok.laid k hp new)
theorem Inv.write {x e:Addr}{o:HO}{t':Nat}(I:Inv X pins σ H s)(mu:Mut (H x))(he:e=x∨H e=some (.own x))(k:∀ b u,b≠e->s.heap.get? b=some u->h'.get? b=some u)(heo:∃ u,h'.get? e=some u)
  (new:cK X.prog X.w (upd H x o) h' x o):Inv X pins σ (upd H x o) { s with heap:=h',toks:=t' }:=I.un (Un.write mu he k heo) (I.hok.write mu he k heo new)
theorem Inv.weak {σ':List (Option V)}(I:Inv X pins σ H s)(hl:σ'.length=σ.length)(w:∀ (i:Nat) v,σ'[i]? = some (some v)->σ[i]? = some (some v)):Inv X pins σ' H s:=
 ⟨I.ok,I.os,I.bare,I.base,let ⟨m,hn,hl'⟩:=I.loc;⟨m,hn,λi x v e1 e2 e3=>hl' i x v e1 (w i v e2) e3⟩,I.cell,I.free,I.g6,I.pin,I.hok,hl.trans I.len⟩
theorem Inv.yH {pins':List (Addr×Obj)}(I:Inv X pins σ H s)(h:∀ p∈pins',s.heap.get? p.1=some p.2/\H p.1=none/\p.1≠X.env.locals/\p.1 ∉ X.fs/\∀ v,p.2.data≠.cell v):Inv X pins' σ H s:=
 ⟨I.ok,I.os,I.bare,I.base,I.loc,I.cell,I.free,I.g6,λp hp=>(Oo.mp hp).elim (λz=>I.pin p (Sv _ z)) (h p),I.hok,I.len⟩
theorem uQ {N:List Str}(hN:N.Nodup){i j:Nat}{x:Str}(a:N[i]? = some x)(b:N[j]? = some x):i=j:=by
 obtain ⟨h1,e1⟩:=Oz.mp a
 obtain ⟨h2,e2⟩:=Oz.mp b
 exact (List.getElem_inj hN).mp (e1.trans e2.symm)
theorem zN {M:UG}{A:N7}{E:NC->ND->Prop}{i:Nat}{x:Str}{v:V}{u:NC}{Q:Unit->ND->Prop}(I:Inv X pins σ H s)(hN:X.N.Nodup)(hi:X.N[i]? = some x)(hx:Loc X.env.scope x)(r:RelV v u)
  (h:∀ s',Inv X pins (σ.set i (some v)) H s'->(∃ a,Pr a s.heap s'.heap/\(a=X.env.locals∨X.env.cells.lookup x=some a))->Q () s') (hf:X.fn x=true∨X.env.scope.names.lookup x=some .local:=by first | exact .inl rfl | exact .inr rfl | assumption):NU M A (storeName X.env x u) Q E s:=by
 obtain ⟨m,hn,hl⟩:=id I.loc
 have MW:(X.env.scope.kind == .class || (X.env.scope.kind == .module&&X.env.locals != X.env.globals))=false:=by rw[I.ok.kind];rfl
 have hiσ:i < σ.length:=by rw[I.len];exact (Oz.mp hi).1
 have cne:=I.cne
 have tracked:∀ {a:Addr} {h':Heap},(∃ o,s.heap.get? a=some o/\H a=none)->Pr a s.heap h'->HOk X.prog X.w H h':=λ{a h'} ha hs b ob e=>by
  obtain ⟨_,_,hfree⟩:=ha
  refine (I.hok b ob e).rT (λc w' hc q=>(hs.2 c ?_).trans q) (λ_ q=>q) λ_ _ q=>q
  rintro rfl
  rcases hc with rfl | hc
  ·rw[hfree] at e;cases e
  ·rw[hfree] at hc;cases hc
 rcases hx with hk | hk
 ·refine wpAny_storeName_local hk hn (λh' hn' hs=>?_) MW
  obtain ⟨oL,_,_,hoL,_⟩:=id hn
  refine h _ ⟨I.ok,I.os,I.bare,⟨λb o e n hb hx=>?_,λb o e n hb hx=>?_,I.base.free,λb o e hx=>?_,I.base.mh,I.base.k9,I.base.md⟩,⟨_,hn',λj y v' e1 e2 e3=>?_⟩,λy c e=>?_,I.free,I.g6,λp hp=>?_,tracked ⟨oL,hoL,I.free⟩ hs,by simpa using I.len⟩ ⟨_,hs,.inl rfl⟩
  ·exact (hs.2 b (NY (N4 (NP e) I.ok.above))).trans (I.base.keep b o e n hb hx)
  ·obtain ⟨sl,e1⟩:=I.base.slot b o e n hb hx
   exact ⟨sl,(hs.2 b (NY (N4 (NP e) I.ok.above))).trans e1⟩
  ·obtain ⟨o',e1⟩:=I.base.there b o e hx
   exact ⟨o',(hs.2 b (NY (N4 (NP e) I.ok.above))).trans e1⟩
  ·by_cases hj:j=i
   ·subst hj
    rw[hi] at e1;cases e1
    rw[Qs hiσ] at e2
    cases e2
    exact ⟨u,r,.inl ⟨hk,by simp⟩⟩
   ·rw[PX (Pz hj)] at e2
    obtain ⟨u',r',q⟩:=hl j y v' e1 e2 e3
    refine ⟨u',r',?_⟩
    rcases q with ⟨k,e⟩ | ⟨k,c,e,z⟩
    ·refine .inl ⟨k,?_⟩
     have:y≠x:=λe=>hj (uQ hN e1 (e ▸ hi))
     simp[this,e]
    ·exact .inr ⟨k,c,e,z.sameBut hs (cne y c e)⟩
  ·obtain ⟨w',z⟩:=I.cell y c e
   exact ⟨w',z.sameBut hs (cne y c e)⟩
  ·obtain ⟨e,n,ne,nf,d⟩:=I.pin p hp
   exact ⟨(hs.2 p.1 ne).trans e,n,ne,nf,d⟩
 ·have hfn:X.fn x=true:=by
   rcases hf with z | z
   ·exact z
   ·rw[z] at hk;cases hk
  obtain ⟨c,hc⟩:=I.ok.has x (.inl hk)
  obtain ⟨w',z⟩:=I.cell x c hc
  refine wpAny_storeName_cell I.ok.kind hk hc z (λh' hc' hs=>?_)
  obtain ⟨oc,hoc,hocd⟩:=id z
  refine h { s with heap:=h' } ⟨I.ok,I.os,I.bare,⟨λb o e n hb hx=>?_,λb o e n hb hx=>?_,I.base.free,λb o e hx=>?_,I.base.mh,I.base.k9,I.base.md⟩,⟨m,hn.sameBut hs (Pz (cne x c hc)),λj y v' e1 e2 e3=>?_⟩,λy c' e=>?_,I.free,I.g6,λp hp=>?_,tracked ⟨oc,hoc,I.g6 x c hc⟩ hs,by simpa using I.len⟩ ⟨c,hs,.inr hc⟩
  ·exact (hs.2 b (NY (N4 (NP e) (I.ok.cab x c hfn hc)))).trans (I.base.keep b o e n hb hx)
  ·obtain ⟨sl,e1⟩:=I.base.slot b o e n hb hx
   exact ⟨sl,(hs.2 b (NY (N4 (NP e) (I.ok.cab x c hfn hc)))).trans e1⟩
  ·obtain ⟨o',e1⟩:=I.base.there b o e hx
   exact ⟨o',(hs.2 b (NY (N4 (NP e) (I.ok.cab x c hfn hc)))).trans e1⟩
  ·by_cases hj:j=i
   ·subst hj
    rw[hi] at e1;cases e1
    rw[Qs hiσ] at e2
    cases e2
    exact ⟨u,r,.inr ⟨.inl hk,c,hc,hc'⟩⟩
   ·rw[PX (Pz hj)] at e2
    obtain ⟨u',r',q⟩:=hl j y v' e1 e2 e3
    refine ⟨u',r',?_⟩
    rcases q with q | ⟨k,c',e,z'⟩
    ·exact .inl q
    ·refine .inr ⟨k,c',e,z'.sameBut hs ?_⟩
     rintro rfl
     exact hj (uQ hN e1 (I.ok.inj _ _ _ e hc ▸ hi))
  ·by_cases hcc:c'=c
   ·subst hcc;exact ⟨_,hc'⟩
   ·obtain ⟨w2,z2⟩:=I.cell y c' e
    exact ⟨w2,z2.sameBut hs hcc⟩
  ·obtain ⟨e,n,ne,nf,d⟩:=I.pin p hp
   refine ⟨(hs.2 p.1 ?_).trans e,n,ne,nf,d⟩
   intro q
   rw[q,hoc] at e
   have q':oc=p.2:=Oq e
   exact d w' (by rw[← q'];exact hocd)
theorem ku {M:UG}{A:N7}{E:NC->ND->Prop}{i:Nat}{x:Str}{v:V}{u:NC}{Q:Unit->ND->Prop}(I:Inv X pins σ H s)(hN:X.N.Nodup)(hi:X.N[i]? = some x)(hx:Loc X.env.scope x)(r:RelV v u)
  (h:∀ s',Inv X pins (σ.set i (some v)) H s'->Q () s') (hf:X.fn x=true∨X.env.scope.names.lookup x=some .local:=by first | exact .inl rfl | exact .inr rfl | assumption):NU M A (storeName X.env x u) Q E s:=
 zN I hN hi hx r (λs' I' _=>h s' I') hf
theorem Inv.G0 {s':ND}{ch:List Addr}(I:Inv X pins σ H s)(ho:s'.os=s.os)(u:Un (frs X.stack) ch H H' s.heap s'.heap)(hok:HOk X.prog X.w H' s'.heap)(hg:Rq s'.gens)
  (hch:∀ b∈ch,(b∈X.ex∨X.s₀.heap.objs.size<=b)/\b≠X.env.locals/\(∀ x c,X.env.cells.lookup x=some c->c≠b)/\∀ p∈X.pn++pins,p.1≠b):Inv X pins σ H' s':=by
 obtain ⟨h',g',d',t',o'⟩:=s'
 have e:o'=s.os:=ho
 subst e
 exact I.call (g':=g') (t':=t') (d':=d') u hok hg hch
end
abbrev XK:=NC->Option Addr->Hp->Prop
abbrev St:=List (Option V)
abbrev VK:=V->Hp->Prop
abbrev TE:=St->Hp->VK->Prop
abbrev TT:=St->Hp->(Bool->Hp->Prop)->Prop
abbrev TA:=St->Hp->(List V->Hp->Prop)->Prop
structure Ends where
 nx:St->Hp->Prop
 rt:VK
 bk:St->Hp->Prop:=λ_ _=>False
 ct:St->Hp->Prop:=λ_ _=>False
abbrev TS:=Ends->St->Hp->Prop
def EP (X:Cx)(pins:List (Addr×Obj))(σ:St)(Q:VK)(u:NC)(s':ND):Prop:=∃ v H',Inv X pins σ H' s'/\RelV v u/\Q v H'
def TP (X:Cx)(pins:List (Addr×Obj))(σ:St)(Q:Bool->Hp->Prop)(b:Bool)(s':ND):Prop:=∃ H',Inv X pins σ H' s'/\Q b H'
def AP (X:Cx)(pins:List (Addr×Obj))(σ:St)(Q:List V->Hp->Prop)(us:List NC)(s':ND):Prop:=∃ vs H',Inv X pins σ H' s'/\Vals vs us/\Q vs H'
def SP (X:Cx)(pins:List (Addr×Obj))(D:Ends)(f:Flow)(s':ND):Prop:=
 match f with
 | .next=>∃ σ' H',Inv X pins σ' H' s'/\D.nx σ' H'
 | .brk=>∃ σ' H',Inv X pins σ' H' s'/\D.bk σ' H'
 | .cont=>∃ σ' H',Inv X pins σ' H' s'/\D.ct σ' H'
 | .ret u=>∃ v σ' H',Inv X pins σ' H' s'/\RelV v u/\D.rt v H'
def PE (X:Cx)(e:N1)(t:TE):Prop:=
 ∀ (pins:List (Addr×Obj)) (s:ND) (σ:St) (H:Hp) (Q:VK),Inv X pins σ H s->t σ H Q->NU (N3 X.prog X.w) X.A (O4 e X.env) (EP X pins σ Q) X.xe s
def PT (X:Cx)(e:N1)(t:TT):Prop:=
 ∀ (pins:List (Addr×Obj)) (s:ND) (σ:St) (H:Hp) (Q:Bool->Hp->Prop),Inv X pins σ H s->t σ H Q->NU (N3 X.prog X.w) X.A (isTrue e X.env (O4 e X.env)) (TP X pins σ Q) X.xe s
def PW (X:Cx)(e:N1)(t:TT):Prop:=
 ∀ (whole:Sem NC) (pins:List (Addr×Obj)) (s:ND) (σ:St) (H:Hp) (Q:Bool->Hp->Prop),Inv X pins σ H s->t σ H Q->NU (N3 X.prog X.w) X.A (isTrue e X.env whole) (TP X pins σ Q) X.xe s
theorem PW.pt {X:Cx}{e:N1}{t:TT}(h:PW X e t):PT X e t:=h _
def PA (X:Cx)(es:List N1)(t:TA):Prop:=
 ∀ (pos:Pos) (pins:List (Addr×Obj)) (s:ND) (σ:St) (H:Hp) (Q:List V->Hp->Prop),Inv X pins σ H s->t σ H Q->NU (N3 X.prog X.w) X.A (UC (OB pos (NL es X.env))) (AP X pins σ Q) X.xe s
def PS (X:Cx)(st:Stmt)(t:TS):Prop:=
 ∀ (pins:List (Addr×Obj)) (s:ND) (σ:St) (H:Hp) (D:Ends),Inv X pins σ H s->t D σ H->NU (N3 X.prog X.w) X.A (exec st X.env) (SP X pins D) X.xe s
def PSs (X:Cx)(st:List Stmt)(t:TS):Prop:=
 ∀ (pins:List (Addr×Obj)) (s:ND) (σ:St) (H:Hp) (D:Ends),Inv X pins σ H s->t D σ H->NU (N3 X.prog X.w) X.A (execs st X.env) (SP X pins D) X.xe s
theorem thn {α:Type}{t:Sem α}{Q Q':α->ND->Prop}{M:UG}{A:N7}{E:NC->ND->Prop}{s:ND}(h:NU M A t Q E s)(hQ:∀ a s,Q a s->Q' a s):NU M A t Q' E s:=O1 h hQ λ_ _ x=>x
end L2
namespace L2
open PySem PySem.Spec PyProof.Rows
section
variable {X:Cx}
def KN (i:Nat):TE:=λσ H Q=>∃ v,σ[i]? = some (some v)/\Q v H
def tC (v:V):TE:=λ_ H Q=>Q v H
theorem Eh {i:Nat}{x:Str}{pos:Pos}(hN:X.N[i]? = some x)(hv:Vis X.env.scope x)(hd:(x == ("__debug__" : Str))=false:=by decide)(hcd:(x == ("__classdict__" : Str))=false:=by decide):PE X (.Name x pos) (KN i):=by
 intro pins s σ H Q I h
 obtain ⟨v,e,h⟩:=h
 obtain ⟨m,hn,hl⟩:=I.loc
 obtain ⟨u,r,l⟩:=hl i x v hN e hv
 have fin:EP X pins σ Q u s:=⟨v,H,I,r,h⟩
 rcases l with ⟨hk,hm⟩ | ⟨hk,c,hc,hcell⟩
 ·exact UH (wpAny_loadName_local I.ok.kind hk hn hm fin) hd
 ·rcases hk with hk | hk
  ·exact UH (wpAny_loadName_cell I.ok.kind hk hc hcell fin) hd
  ·exact UH (wpAny_loadName_free I.ok.kind hk hc hcell fin hcd) hd
theorem DC {i j pos}:PE X (.Constant (.int i) j pos) (tC (.int i)):=λ_ _ _ H _ I h=>wpAny_Constant_int ⟨.int i,H,I.tok _,⟨_,rfl⟩,h⟩
theorem Lp {b j pos}:PE X (.Constant (.bool b) j pos) (tC (.bl b)):=λ_ _ _ H _ I h=>Constant_bool ⟨.bl b,H,I,rfl,h⟩
theorem HK {j pos}:PE X (.Constant .none j pos) (tC .non):=λ_ _ _ H _ I h=>Constant_none ⟨.non,H,I,rfl,h⟩
theorem Jx {x j pos}:PE X (.Constant (.str x) j pos) (tC (.str x)):=λ_ _ _ H _ I h=>Calls.Constant_str ⟨.str x,H,I.tok _,⟨_,rfl⟩,h⟩
def Gl (X:Cx)(x:Str):Prop:=X.env.kindOf x=some .globalImplicit
theorem yY {E:NC->ND->Prop}{pins:List (Addr×Obj)}{s:ND}{σ:St}{H:Hp}{x:Str}{u:NC}{pos:Pos}{Q:NC->ND->Prop}(I:Inv X pins σ H s)(hg:Gl X x)(hm:X.mg x=some u)(h:Q u s)
  (hd:(x == ("__debug__" : Str))=false:=by decide):NU (N3 X.prog X.w) X.A (O4 (.Name x pos) X.env) Q E s:=
 Q8 I.ok.kind hg (Calls.loadGlobal_global (by rw[I.ok.glob];exact I.mod.glob.keeps I.bk) hm h) hd
theorem jA {E:NC->ND->Prop}{pins:List (Addr×Obj)}{s:ND}{σ:St}{H:Hp}{x:Str}{u:NC}{pos:Pos}{Q:NC->ND->Prop}(I:Inv X pins σ H s)(hg:Gl X x)(hm:X.mg x=none)(hv:Of x=some u)(h:Q u s)
  (hn:x ≠ "__name__" := by decide) (hd:(x == ("__debug__" : Str))=false:=by decide):NU (N3 X.prog X.w) X.A (O4 (.Name x pos) X.env) Q E s:=by
 obtain ⟨mb,h1,h2⟩:=I.mod.blt
 exact Q8 I.ok.kind hg (Calls.loadGlobal_builtin (by rw[I.ok.glob];exact I.mod.glob.keeps I.bk) hm (by rw[I.ok.blt];exact h1.keeps I.bk) ((h2 x hn).trans hv) h) hd
theorem sC {x:Str}{v:V}{u:NC}{pos:Pos}(hg:Gl X x)(hm:X.mg x=some u)(r:RelV v u)(hd:(x == ("__debug__" : Str))=false:=by decide):PE X (.Name x pos) (tC v):=
 λ_ _ _ H _ I h=>yY I hg hm ⟨v,H,I,r,h⟩ hd
theorem Ff {x:Str}{v:V}{u:NC}{pos:Pos}(hg:Gl X x)(hm:X.mg x=none)(hv:Of x=some u)(r:RelV v u)(hn:x ≠ "__name__" := by decide)(hd:(x == ("__debug__" : Str))=false:=by decide):PE X (.Name x pos) (tC v):=
 λ_ _ _ H _ I h=>jA I hg hm hv ⟨v,H,I,r,h⟩ hn hd
variable {a b:N1} {ta tb:TE} {pos:Pos}
def tB (t:TE):TT:=λσ H Q=>t σ H λx H1=>∃ c,x=.bl c/\Q c H1
theorem HE {e:N1}{t:TE}(h:PE X e t)(he:∀ whole,isTrue e X.env whole=(do let v ← whole;standAt e.pos;Rr [v] (truthy v)):=by intro _;rfl):PT X e (tB t):=by
 intro pins s σ H Q I hw
 refine isTrue_plain (thn (h pins s σ H _ I hw) λv s1 ⟨x,H1,I1,r1,q1⟩=>?_) (he _)
 obtain ⟨d,rfl,q⟩:=q1
 cases r1
 exact OP ⟨H1,I1,q⟩
variable {tA tB':TT} {rest:List N1}
def tOr (t u:TT):TT:=λσ H Q=>t σ H λc H1=>if c=true then Q true H1 else u σ H1 Q
def MR (t:TT):TT:=λσ H Q=>t σ H λc H1=>Q (!c) H1
theorem pw_or1 (ha:PT X a tA):PW X (.BoolOp .Or [a] pos) tA:=by
 intro wh pins s σ H Q I h
 refine isTrue_or (thn (ha pins s σ H Q I h) λc s1 e=>?_)
 cases c with
 | false=>exact isTrue_or_nil e
 | true=>exact e
theorem pw_or (ha:PT X a tA)(hb:PW X (.BoolOp .Or (b::rest) pos) tB'):PW X (.BoolOp .Or (a::b::rest) pos) (tOr tA tB'):=by
 intro wh pins s σ H Q I h
 refine isTrue_or (thn (ha pins s σ H _ I h) λc s1 ⟨H1,I1,q1⟩=>?_)
 cases c with
 | true=>exact ⟨H1,I1,q1⟩
 | false=>exact hb wh pins s1 σ H1 Q I1 q1
theorem Ik (ha:PT X a tA):PT X (.UnaryOp .Not a pos) (MR tA):=by
 intro pins s σ H Q I h
 exact isTrue_not (ha pins s σ H (λc H1=>Q (!c) H1) I h)
def Lo (ta tb:TE):TE:=λσ H Q=>ta σ H λx H1=>∃ c,x=.bl c/\if c=true then tb σ H1 Q else Q (.bl false) H1
def M9 (ta tb:TE):TE:=λσ H Q=>ta σ H λx H1=>∃ c,x=.bl c/\if c=true then Q (.bl true) H1 else tb σ H1 Q
def Lb (ta:TE):TE:=λσ H Q=>ta σ H λx H1=>∃ c,x=.bl c/\Q (.bl (!c)) H1
theorem JM {op}{t:TE}(h:PE X a t):PE X (.BoolOp op [a] pos) t:=λpins s σ H Q I hw=>BoolOp_one (h pins s σ H Q I hw)
theorem JJ (ha:PE X a ta)(hb:PE X (.BoolOp .And (b::rest) pos) tb):PE X (.BoolOp .And (a::b::rest) pos) (Lo ta tb):=by
 intro pins s σ H Q I h
 refine BoolOp_and (thn (ha pins s σ H _ I h) λv s1 ⟨x,H1,I1,r1,q1⟩=>?_)
 obtain ⟨c,rfl,q1⟩:=q1
 cases r1
 refine OP ?_
 cases c with
 | true=>exact hb pins s1 σ H1 Q I1 q1
 | false=>exact ⟨.bl false,H1,I1,rfl,q1⟩
theorem L5 (ha:PE X a ta)(hb:PE X (.BoolOp .Or (b::rest) pos) tb):PE X (.BoolOp .Or (a::b::rest) pos) (M9 ta tb):=by
 intro pins s σ H Q I h
 refine BoolOp_or (thn (ha pins s σ H _ I h) λv s1 ⟨x,H1,I1,r1,q1⟩=>?_)
 obtain ⟨c,rfl,q1⟩:=q1
 cases r1
 refine OP ?_
 cases c with
 | false=>exact hb pins s1 σ H1 Q I1 q1
 | true=>exact ⟨.bl true,H1,I1,rfl,q1⟩
theorem Kg (ha:PE X a ta):PE X (.UnaryOp .Not a pos) (Lb ta):=by
 intro pins s σ H Q I h
 refine UnaryOp_ (thn (ha pins s σ H _ I h) λv s1 ⟨x,H1,I1,r1,q1⟩=>?_)
 obtain ⟨c,rfl,q1⟩:=q1
 cases r1
 exact not_of (OP ⟨.bl (!c),H1,I1,rfl,q1⟩)
def tIf (t:TT)(ta tb:TE):TE:=λσ H Q=>t σ H λc H1=>if c=true then ta σ H1 Q else tb σ H1 Q
theorem Du {c:N1}(hc:PT X c tA)(ha:PE X a ta)(hb:PE X b tb):PE X (.IfExp c a b pos) (tIf tA ta tb):=by
 intro pins s σ H Q I h
 refine wpAny_IfExp (thn (hc pins s σ H _ I h) λd s1 ⟨H1,I1,q1⟩=>?_)
 cases d with
 | true=>exact ha pins s1 σ H1 Q I1 q1
 | false=>exact hb pins s1 σ H1 Q I1 q1
end
end L2
namespace L2
open PySem PySem.Spec PyProof.Rows
def SqL (K:NB)(H:Hp)(a:Addr)(xs:List V):Prop:=
 Rd H a (.lst xs)∨
  ∃ (o:Obj) (its:Array NC) (n:Nat),K.lookup a=some o/\o.cls=.type "list" /\ o.dict=none/\o.data=.seq its n/\its.size<=sizeLine/\Vals xs its.toList
def SqT (K:NB)(H:Hp)(a:Addr)(xs:List V):Prop:=
 Rd H a (.tup xs)∨
  ∃ (o:Obj) (its:Array NC) (n:Nat),K.lookup a=some o/\o.cls=.type "tuple" /\ o.dict=none/\o.data=.seq its n/\its.size<=sizeLine/\Vals xs its.toList
def M8:NC->Option V
 | .none=>some .non
 | .bool b=>some (.bl b)
 | .int i _=>some (.int i)
 | .str x _=>some (.str x)
 | .bytes b _=>some (.byt b)
 | .float b _=>some (.flt b)
 | .ref a=>some (.ref a)
 | .type n=>some (.ty n)
 | _=>none
theorem RelV.abs {x:V}{u:NC}(r:RelV x u):M8 u=some x:=by
 cases x with
 | non=>cases r;rfl
 | bl _=>cases r;rfl
 | int _=>obtain ⟨t,rfl⟩:=r;rfl
 | str _=>obtain ⟨t,rfl⟩:=r;rfl
 | byt _=>obtain ⟨t,rfl⟩:=r;rfl
 | flt _=>obtain ⟨t,rfl⟩:=r;rfl
 | ref _=>cases r;rfl
 | ty _=>cases r;rfl
theorem RelV.inj {x y:V}{u:NC}(r:RelV x u)(q:RelV y u):x=y:=Oq (r.abs.symm.trans q.abs)
theorem Vals.inj:∀ {xs ys:List V} {us:List NC},Vals xs us->Vals ys us->xs=ys
 | _,_,_,.nil,.nil=>rfl
 | _,_,_,.cons r t,.cons r' t'=>by rw[r.inj r',Vals.inj t t']
section
variable {X:Cx} {pins:List (Addr×Obj)} {σ:St} {H:Hp} {s:ND} {a:Addr} {xs ys:List V}
theorem SqL.of {K:NB}(h:H a=some (.lst xs)):SqL K H a xs:=.inl (.inl h)
theorem SqT.of {K:NB}(h:H a=some (.tup xs)):SqT K H a xs:=.inl (.inl h)
theorem Inv.list (I:Inv X pins σ H s)(h:SqL X.K H a xs):∃ its:List NC,Vals xs its/\PlainL s.heap a its.toArray/\xs.length<=sizeLine:=by
 rcases h with h | ⟨o,its,n,hk,hc,hd,hs,hz,r⟩
 ·obtain ⟨z,its,n,r,e⟩:=h.ok I.hok
  exact ⟨its,r,⟨_,n,e,rfl,rfl,rfl⟩,z⟩
 ·refine ⟨its.toList,r,⟨o,n,I.kIn a o hk,hc,hd,by simpa using hs⟩,?_⟩
  have e:=r.length
  simp only[OM] at e
  omega
theorem Inv.tuple (I:Inv X pins σ H s)(h:SqT X.K H a xs):∃ its:List NC,Vals xs its/\IsTup s.heap a its.toArray/\xs.length<=sizeLine:=by
 rcases h with h | ⟨o,its,n,hk,hc,hdn,hs,hz,r⟩
 ·obtain ⟨z,its,r,p⟩:=h.ok I.hok
  exact ⟨its,r,p.tup,z⟩
 ·refine ⟨its.toList,r,⟨o,I.kIn a o hk,hc,n,by simpa using hs⟩,?_⟩
  have e:=r.length
  simp only[OM] at e
  omega
theorem Inv.Dj (I:Inv X pins σ H s)(h:SqL X.K H a xs)(h':SqL X.K H a ys):xs=ys:=by
 obtain ⟨its,r,⟨o,n,e,_,_,d⟩,_⟩:=I.list h
 obtain ⟨its',r',⟨o',n',e',_,_,d'⟩,_⟩:=I.list h'
 rw[e] at e';cases e'
 rw[d] at d'
 injection d' with d1 _
 have:its=its':=by simpa using congrArg Vb d1
 subst this
 exact r.inj r'
theorem Inv.Ae (I:Inv X pins σ H s)(h:SqT X.K H a xs)(h':SqT X.K H a ys):xs=ys:=by
 obtain ⟨its,r,⟨o,e,_,n,d⟩,_⟩:=I.tuple h
 obtain ⟨its',r',⟨o',e',_,n',d'⟩,_⟩:=I.tuple h'
 rw[e] at e';cases e'
 rw[d] at d'
 injection d' with d1 _
 have:its=its':=by simpa using congrArg Vb d1
 subst this
 exact r.inj r'
end
abbrev Cx.l8 (X:Cx)(E:NC->ND->Prop):Cx:={ X with xe:=E }
abbrev Cx.nox (X:Cx):Cx:=X.l8 λ_ _=>False
theorem Cx.Ok.l8 {X:Cx}(ok:X.Ok)(E:NC->ND->Prop):(X.l8 E).Ok:=
 ⟨ok.mod,ok.kind,ok.glob,ok.blt,ok.above,ok.inj,ok.has,ok.cab,ok.hd,ok.frames,ok.stk,ok.exf,ok.bs,ok.bsz,ok.CH,ok.C2,ok.nW,ok.frf⟩
theorem Cx.Ok.fI {X:Cx}{E:NC->ND->Prop}(ok:(X.l8 E).Ok):X.Ok:=
 ⟨ok.mod,ok.kind,ok.glob,ok.blt,ok.above,ok.inj,ok.has,ok.cab,ok.hd,ok.frames,ok.stk,ok.exf,ok.bs,ok.bsz,ok.CH,ok.C2,ok.nW,ok.frf⟩
section
variable {X:Cx} {pins:List (Addr×Obj)} {σ:St} {H:Hp} {s:ND} {E:NC->ND->Prop}
theorem Inv.l8 (I:Inv X pins σ H s)(E:NC->ND->Prop):Inv (X.l8 E) pins σ H s:=⟨I.ok.l8 E,I.os,I.bare,I.base,I.loc,I.cell,I.free,I.g6,I.pin,I.hok,I.len⟩
theorem Inv.fI (I:Inv (X.l8 E) pins σ H s):Inv X pins σ H s:=⟨I.ok.fI,I.os,I.bare,I.base,I.loc,I.cell,I.free,I.g6,I.pin,I.hok,I.len⟩
theorem SP.fI {D:Ends}{f:Flow}{s':ND}(h:SP (X.l8 E) pins D f s'):SP X pins D f s':=by
 cases f with
 | next=>obtain ⟨σ',H',I,q⟩:=h;exact ⟨σ',H',I.fI,q⟩
 | brk=>obtain ⟨σ',H',I,q⟩:=h;exact ⟨σ',H',I.fI,q⟩
 | cont=>obtain ⟨σ',H',I,q⟩:=h;exact ⟨σ',H',I.fI,q⟩
 | ret u=>obtain ⟨v,σ',H',I,r,q⟩:=h;exact ⟨v,σ',H',I.fI,r,q⟩
theorem PE.nox {e:N1}{t:TE}(h:PE X.nox e t):PE X e t:=λpins s σ H Q I hw=>
 O1 (h pins s σ H Q (I.l8 _) hw) (λ_ _ ⟨v,H',I',r,q⟩=>⟨v,H',I'.fI,r,q⟩) λ_ _ z=>NG z
theorem PT.nox {e:N1}{t:TT}(h:PT X.nox e t):PT X e t:=λpins s σ H Q I hw=>
 O1 (h pins s σ H Q (I.l8 _) hw) (λ_ _ ⟨H',I',q⟩=>⟨H',I'.fI,q⟩) λ_ _ z=>NG z
theorem PSs.nox {st:List Stmt}{t:TS}(h:PSs X.nox st t):PSs X st t:=λpins s σ H D I hw=>
 O1 (h pins s σ H D (I.l8 _) hw) (λ_ _ q=>q.fI) λ_ _ z=>NG z
end
section
variable {X:Cx} {st:Stmt} {rest:List Stmt} {t u:TS} {e:N1} {te:TE} {pos:Pos}
def MC:TS:=λD σ H=>D.nx σ H
def M6 (t u:TS):TS:=λD σ H=>t { D with nx:=u D } σ H
theorem Em:PSs X [] MC:=λ_ _ σ H _ I h=>QW ⟨σ,H,I,h⟩
theorem DU (h1:PS X st t)(h2:PSs X rest u):PSs X (st::rest) (M6 t u):=by
 intro pins s σ H D I h
 refine Ua (thn (h1 pins s σ H { D with nx:=u D } I h) λf s1 q=>?_)
 cases f with
 | next=>
  obtain ⟨σ',H',I',q⟩:=q
  exact h2 pins s1 σ' H' D I' q
 | ret v=>exact q
 | brk=>exact q
 | cont=>exact q
theorem Fc (h1:PS X st t):PSs X [st] t:=by
 intro pins s σ H D I h
 refine Ua (thn (h1 pins s σ H D I h) λf s1 q=>?_)
 cases f with
 | next=>exact QW q
 | ret v=>exact q
 | brk=>exact q
 | cont=>exact q
theorem Inv.quiet {pins:List (Addr×Obj)}{σ:St}{H:Hp}{s:ND}(I:Inv X pins σ H s):interactive X.env=false:=by simp[interactive,I.ok.kind]
def Lf (te:TE):TS:=λD σ H=>te σ H λ_ H1=>D.nx σ H1
theorem EK (he:PE X e te)(hs:Q7 e none pos.line X.env=pure false:=by rfl):PS X (.Expr e pos) (Lf te):=by
 intro pins s σ H D I h
 exact wpAny_Expr_any (thn (he pins s σ H _ I h) λv s1 ⟨x,H1,I1,r1,q1⟩=>⟨σ,H1,I1,q1⟩) I.quiet hs
def MT (te:TE):TS:=λD σ H=>te σ H D.rt
theorem Jt (he:PE X e te):PS X (.Return (some e) pos) (MT te):=by
 intro pins s σ H D I h
 exact wpAny_Return_some (thn (he pins s σ H _ I h) λv s1 ⟨x,H1,I1,r1,q1⟩=>⟨x,σ,H1,I1,r1,q1⟩)
def Nk (c:TT)(t u:TS):TS:=λD σ H=>c σ H λb H1=>if b=true then t D σ H1 else u D σ H1
theorem LJ {c:N1}{a b:List Stmt}{tc:TT}(hc:PT X c tc)(ha:PSs X a t)(hb:PSs X b u):PS X (.If c a b pos) (Nk tc t u):=by
 intro pins s σ H D I h
 refine wpAny_If (thn (hc pins s σ H _ I h) λd s1 ⟨H1,I1,q1⟩=>?_)
 cases d with
 | true=>exact ha pins s1 σ H1 D I1 q1
 | false=>exact hb pins s1 σ H1 D I1 q1
end
abbrev TG:=V->St->Hp->(St->Hp->Prop)->Prop
abbrev TGs:=List V->St->Hp->(St->Hp->Prop)->Prop
def PG (X:Cx)(target:N1)(t:TG):Prop:=
 ∀ (pins:List (Addr×Obj)) (s:ND) (σ:St) (H:Hp) (v:V) (u:NC) (Q:St->Hp->Prop),Inv X pins σ H s->RelV v u->t v σ H Q->
  NU (N3 X.prog X.w) X.A (Ry target X.env u) (λ_ s'=>∃ σ' H',Inv X pins σ' H' s'/\Q σ' H') X.xe s
def PGs (X:Cx)(ts:List N1)(t:TGs):Prop:=
 ∀ (pins:List (Addr×Obj)) (s:ND) (σ:St) (H:Hp) (vs:List V) (us:List NC) (Q:St->Hp->Prop),Inv X pins σ H s->Vals vs us->t vs σ H Q->
  NU (N3 X.prog X.w) X.A (SW ((Pf ts X.env).map (·.2)) us) (λ_ s'=>∃ σ' H',Inv X pins σ' H' s'/\Q σ' H') X.xe s
abbrev IU:=V->V->V->Hp->(Hp->Prop)->Prop
def LB (X:Cx)(t:IU):Prop:=
 ∀ (pins:List (Addr×Obj)) (s:ND) (σ:St) (H:Hp) (o i v:V) (ov iv u:NC) (Q:Hp->Prop),Inv X pins σ H s->RelV o ov->RelV i iv->RelV v u->t o i v H Q->
  NU (N3 X.prog X.w) X.A (setItem ov iv u) (λ_ s'=>∃ H',Inv X pins σ H' s'/\Q H') X.xe s
section
variable {X:Cx} {pos:Pos}
def oa (i:Nat):TG:=λv σ H Q=>Q (σ.set i (some v)) H
theorem mG {i:Nat}{x:Str}(hN:X.N.Nodup)(hi:X.N[i]? = some x)(hx:Loc X.env.scope x)(hf:X.fn x=true∨X.env.scope.names.lookup x=some .local:=by first | exact .inl rfl | exact .inr rfl | assumption):PG X (.Name x pos) (oa i):=by
 intro pins s σ H v u Q I r h
 exact wpAny_assign_Name (ku I hN hi hx r (λs' I'=>⟨_,H,I',h⟩) hf)
def ML:TGs:=λvs σ H Q=>vs=[]/\Q σ H
def K9 (t:TG)(u:TGs):TGs:=λvs σ H Q=>∃ v r,vs=v::r/\t v σ H λσ' H'=>u r σ' H' Q
theorem Gm:PGs X [] ML:=by
 intro pins s σ H vs us Q I r h
 obtain ⟨e,h⟩:=h
 subst e
 cases r
 exact Tx ⟨σ,H,I,h⟩
theorem A6 {e:N1}{es:List N1}{t:TG}{u:TGs}(h1:PG X e t)(h2:PGs X es u)
  (hs:(Pf (e::es) X.env).map (·.2)=Ry e X.env::(Pf es X.env).map (·.2):=by rfl):PGs X (e::es) (K9 t u):=by
 intro pins s σ H vs us Q I r h
 obtain ⟨v,vr,e1,h⟩:=h
 subst e1
 cases r with
 | cons r rr=>
  rw[hs]
  refine Q9 (thn (h1 pins s σ H _ _ _ I r h) λ_ s1 ⟨σ1,H1,I1,q1⟩=>?_)
  exact h2 pins s1 σ1 H1 _ _ Q I1 rr q1
def Nn (K:NB)(n:Nat)(t:TGs):TG:=λv σ H Q=>∃ a xs,v=.ref a/\SqT K H a xs/\xs.length=n/\t xs σ H Q
theorem Ks {es:List N1}{k:Nat}{t:TGs}{n:Nat}(hc:X.calm=true)(h:PGs X es t)
  (hn:(Pf es X.env).length=n:=by rfl) (hst:(Pf es X.env).findIdx? (·.1)=none:=by rfl):PG X (.Tuple es k pos) (Nn X.K n t):=by
 intro pins s σ H v u Q I r hw
 obtain ⟨a,xs,e1,hq,hl,hw⟩:=hw
 subst e1
 cases r
 obtain ⟨its,rv,ht,hz⟩:=I.tuple hq
 refine assign_Tuple_tuple (I.ok.hd hc) ht (by simp[hn,← hl,rv.length]) hst λh' hx=>?_
 have I1:Inv X pins σ H { s with heap:=h' }:=I.kept (t':=s.toks) λb o e=>hx b o (NY (NP e)) e
 exact h pins _ σ H xs _ Q I1 (by simpa using rv) hw
def MG (to ti:TE)(t:IU):TG:=λv σ H Q=>to σ H λo H1=>ti σ H1 λi H2=>t o i v H2 λH3=>Q σ H3
theorem J9 {o i:N1}{to ti:TE}{t:IU}(ho:PE X o to)(hi:PE X i ti)(hs:LB X t)
  (ha:∀ v,Ry (.Subscript o i pos) X.env v=(do
   let ov ← Rr [v] (O4 o X.env)
   let iv ← Rr [v,ov] (O4 i X.env)
   standAt pos
   Rr [v,ov,iv] (setItem ov iv v)
   release [v,ov,iv] []):=by intro _;rfl):PG X (.Subscript o i pos) (MG to ti t):=by
 intro pins s σ H v u Q I r h
 rw[ha]
 refine wpAny_bind (wpAny_holding (thn (ho pins s σ H _ I h) λov s1 ⟨x,H1,I1,r1,q1⟩=>?_))
 refine wpAny_bind (wpAny_holding (thn (hi pins s1 σ H1 _ I1 q1) λiv s2 ⟨y,H2,I2,r2,q2⟩=>?_))
 refine wpAny_bind (Rz (wpAny_bind (wpAny_holding (thn (hs pins s2 σ H2 x y v ov iv u _ I2 r1 r2 r q2) λ_ s3 ⟨H3,I3,q3⟩=>?_))))
 exact wpAny_release ⟨σ,H3,I3,q3⟩
def Et (te:TE)(g:TG):TS:=λD σ H=>te σ H λx H1=>g x σ H1 D.nx
theorem De {tg e:N1}{te:TE}{g:TG}(he:PE X e te)(hg:PG X tg g)(hs:QM [tg] e pos.line X.env=pure false:=by rfl)(hw:QN [tg] e X.env=pure none:=by rfl)
  (h1:(Pf [tg] X.env).map (·.2)=[Ry tg X.env]:=by rfl):PS X (.Assign [tg] e pos) (Et te g):=by
 intro pins s σ H D I h
 refine wpAny_Assign_stores (thn (he pins s σ H _ I h) λv s1 ⟨x,H1,I1,r1,q1⟩=>?_) hs hw
 rw[h1]
 exact thn (hg pins s1 σ H1 x v _ I1 r1 q1) λ_ s2 q=>q
theorem Kq {i:Nat}{x:Str}{e:N1}{te:TE}{pos':Pos}(hN:X.N.Nodup)(hi:X.N[i]? = some x)(hx:Loc X.env.scope x)(he:PE X e te)(hs:Q7 e (some (.Name x pos')) pos.line X.env=pure false:=by rfl)(hf:X.fn x=true∨X.env.scope.names.lookup x=some .local:=by first | exact .inl rfl | exact .inr rfl | assumption) :
  PS X (.Assign [.Name x pos'] e pos) (Et te (oa i)):=by
 intro pins s σ H D I h
 refine wpAny_Assign_Name (thn (he pins s σ H _ I h) λv s1 ⟨y,H1,I1,r1,q1⟩=>?_) hs
 exact ku I1 hN hi hx r1 (λs2 I2=>⟨_,H1,I2,q1⟩) hf
def MJ (i j:Nat)(ta:TA):TS:=λD σ H=>ta σ H λvs H1=>∃ v w,vs=[v,w]/\D.nx ((σ.set i (some v)).set j (some w)) H1
theorem Ho {i j:Nat}{x y:Str}{a b:N1}{ta:TA}{px py pt:Pos}{kt k2 pt2}(hc:X.calm=true)(hN:X.N.Nodup)(hi:X.N[i]? = some x)(hj:X.N[j]? = some y)(hij:i≠j)
  (hx:X.env.scope.names.lookup x=some .local) (hy:X.env.scope.names.lookup y=some .local) (ha:PA X [a,b] ta)
  (hw:QN [.Tuple [.Name x px,.Name y py] kt pt] (.Tuple [a,b] k2 pt2) X.env=pure (some [x,y]))
  (hs:QM [.Tuple [.Name x px,.Name y py] kt pt] (.Tuple [a,b] k2 pt2) pos.line X.env=pure false:=by rfl) :
  PS X (.Assign [.Tuple [.Name x px,.Name y py] kt pt] (.Tuple [a,b] k2 pt2) pos) (MJ i j ta):=by
 intro pins s σ H D I h
 rw[exec_Assign_arm]
 refine wpAny_bind (Rz ?_)
 rw[hs]
 refine wpAny_bind (wpAny_pure ?_)
 rw[if_neg (by decide)]
 refine wpAny_bind (Tuple_ (thn (ha _ pins s σ H _ I h) λus s1 ⟨vs,H1,I1,r1,q1⟩=>?_))
 obtain ⟨v,w,e1,q1⟩:=q1
 subst e1
 obtain ⟨u1,u2,rfl,rv,rw'⟩:∃ u1 u2,us=[u1,u2]/\RelV v u1/\RelV w u2:=by
  cases r1 with
  | cons p q=>
   cases q with
   | cons p' q'=>
    cases q'
    exact ⟨_,_,rfl,p,p'⟩
 refine OS ?_ (by show 2<=sizeLine;decide)
 have I2:Inv X pins σ H1 { s1 with heap:=s1.heap.push { cls:=.type "tuple", data:=.seq [u1,u2].toArray } }:=I1.kept (t':=s1.toks) λb o e=>NF _ e
 rw[hw]
 refine wpAny_bind (wpAny_pure ?_)
 show NU (N3 X.prog X.w) X.A (do rule "assign.swapped-stores";let items ← unpackItems (.ref s1.heap.objs.size) 2 none;SW [λv=>UI X.env y v,λv=>UI X.env x v] items.reverse;pure Flow.next) _ _ _
 refine wpAny_bind (wpAny_rule (wpAny_bind (unpackItems_tuple (items:=#[u1,u2]) (I.ok.hd hc) (IsTup.new s1.heap _) λh' hx'=>?_)))
 have I3:=I2.kept (h':=h') (t':=s1.toks) λb o e=>hx' b o (NY (NP e)) e
 show NU _ _ (SW [λv=>UI X.env y v,λv=>UI X.env x v] [u2,u1] >>= λ_=>pure Flow.next) _ _ _
 refine wpAny_bind (Q9 (wpAny_bindName (ku I3 hN hj (.inl hy) rw' (λs2 I4=>?_) (.inr hy))))
 refine Q9 (wpAny_bindName (ku I4 hN hi (.inl hx) rv (λs3 I5=>Tx (wpAny_pure ?_)) (.inr hx)))
 rw[List.set_comm _ _ (Pz hij)] at I5
 exact ⟨_,H1,I5,q1⟩
end
section
variable {X:Cx} {pos:Pos}
def Kv (c:TT)(tb:TS):TS:=λD σ H=>∃ W:Nat->St->Hp->Prop,(∃ m,W m σ H)/\∀ m σ H,W m σ H->
 c σ H λb H1=>if b=true then ∃ N:St->Hp->Prop,(∀ σ' H',N σ' H'->∃ m',m' < m/\W m' σ' H')/\tb { D with nx:=N,ct:=N,bk:=D.nx } σ H1 else D.nx σ H1
theorem BZ {c:N1}{body:List Stmt}{tc:TT}{tb:TS}(hp:Ub (N3 X.prog X.w) X.A X.env X.xe)(hc:PT X c tc)(hb:PSs X body tb):PS X (.While c body [] pos) (Kv tc tb):=by
 intro pins s σ H D I h
 obtain ⟨W,⟨m0,w0⟩,turn⟩:=h
 refine wpAny_While (codeAny_whileLoop (λn s'=>∃ σ' H',Inv X pins σ' H' s'/\W n σ' H') ?_ m0 ⟨σ,H,I,w0⟩)
 rintro n s1 ⟨σ1,H1,I1,w1⟩
 refine Pn hp (thn (hc pins s1 σ1 H1 _ I1 (turn n σ1 H1 w1)) λb s2 ⟨H2,I2,q2⟩=>?_)
 cases b with
 | true=>
  obtain ⟨N,hN,q2⟩:=q2
  rw[if_pos rfl]
  refine Pn hp (thn (hb pins s2 σ1 H2 _ I2 q2) λf s3 q3=>?_)
  cases f with
  | next=>
   obtain ⟨σ3,H3,I3,n3⟩:=q3
   obtain ⟨m',hm,w3⟩:=hN σ3 H3 n3
   exact ⟨m',hm,σ3,H3,I3,w3⟩
  | cont=>
   obtain ⟨σ3,H3,I3,n3⟩:=q3
   obtain ⟨m',hm,w3⟩:=hN σ3 H3 n3
   exact ⟨m',hm,σ3,H3,I3,w3⟩
  | brk=>exact q3
  | ret v=>exact q3
 | false=>
  rw[if_neg Ra]
  exact QW ⟨σ1,H2,I2,q2⟩
end
structure It where
 go:Nat->Hp->Prop
 yld:Nat->Hp->V->Hp->Prop
 stop:Nat->Hp->Prop
def oQ (X:Cx)(pins:List (Addr×Obj))(H:Hp)(b:Addr):Prop:=
 H b=none/\b≠X.env.locals/\b ∉ X.fs/\(b∈X.ex∨X.s₀.heap.objs.size<=b)/\(∀ x c,X.env.cells.lookup x=some c->c≠b)/\∀ p∈X.pn++pins,p.1≠b
theorem Inv.Gv {X:Cx}{pins:List (Addr×Obj)}{σ:St}{H H':Hp}{s:ND}{b:Addr}(I:Inv X pins σ H s)(hb:s.heap.objs.size<=b)(hn:H' b=none):oQ X pins H' b:=by
 refine ⟨hn,Tz (N4 I.lt hb),I.MI hb,.inr (OJ I.sz hb),λx c e z=>?_,λp hp z=>?_⟩
 ·obtain ⟨v,q⟩:=I.cell x c e
  exact absurd (N4 q.lt (by rw[z];exact hb)) (PM _)
 ·exact absurd (N4 (NP (I.pin p hp).1) (by rw[z];exact hb)) (PM _)
structure Turn (P:NR) (w:N6) (K:NB) (tg:N1) (J:It) (fp:List Addr) (it:Addr) (tn:Nat->Heap->Prop):Prop where
 mem:it∈fp
 obj:∀ i h,tn i h->∀ b∈fp,∃ o,h.get? b=some o/\∀ v,o.data≠.cell v
 keep:∀ i h h',tn i h->(∀ b∈fp,∀ o,h.get? b=some o->h'.get? b=some o)->tn i h'
 item:∀ (X:Cx),X.prog=P->X.w=w->X.K=K->X.calm=true->∀ (i:Nat) (pins:List (Addr×Obj)) (s:ND) (σ:St) (H:Hp) (E:NC->ND->Prop),Inv X pins σ H s->(∀ b∈fp,oQ X pins H b)->tn i s.heap->J.go i H->
  NU (N3 P w) X.A (Qt (.ref it)) (λr s1=>∃ u,r=some u/\
   NU (N3 P w) X.A (QX tg (.ref it) u) (λ_ s2=>∃ x H',Inv X pins σ H' s2/\RelV x u/\J.yld i H x H'/\tn (i+1) s2.heap/\∀ b∈fp,H' b=none) E s1) E s
 done:∀ (X:Cx),X.prog=P->X.w=w->X.K=K->X.calm=true->∀ (i:Nat) (pins:List (Addr×Obj)) (s:ND) (σ:St) (H:Hp) (E:NC->ND->Prop),Inv X pins σ H s->(∀ b∈fp,oQ X pins H b)->tn i s.heap->J.stop i H->
  NU (N3 P w) X.A (Qt (.ref it)) (λr s1=>r=none/\Inv X pins σ H s1) E s
 self:∀ (A:N7) (i:Nat) (s:ND) (Q:NC->ND->Prop) (E:NC->ND->Prop),tn i s.heap->Q (.ref it) s->NU (N3 P w) A (Uc (.ref it)) Q E s
abbrev TI:=St->Hp->(It->Hp->Prop)->Prop
def PIE (X:Cx)(pins:List (Addr×Obj))(σ:St)(tg:N1)(R:It->Hp->Prop)(itv:NC)(s2:ND):Prop:=
 ∃ (it:Addr) (fp:List Addr) (tn:Nat->Heap->Prop) (J:It) (H':Hp),itv=.ref it/\Inv X pins σ H' s2/\Turn X.prog X.w X.K tg J fp it tn/\tn 0 s2.heap/\(∀ b∈fp,oQ X pins H' b)/\R J H'
def PI (X:Cx)(tg iter:N1)(wi:TI):Prop:=
 ∀ (pins:List (Addr×Obj)) (s:ND) (σ:St) (H:Hp) (R:It->Hp->Prop),Inv X pins σ H s->wi σ H R->
  NU (N3 X.prog X.w) X.A (O4 iter X.env) (λv s1=>NU (N3 X.prog X.w) X.A (Uc v) (PIE X pins σ tg R) X.xe s1) X.xe s
theorem zi {M:UG}{A:N7}{E:NC->ND->Prop}{s:ND}{tg:N1}{it:Addr}{u:NC}{o:Obj}{n:String}{vs:Array NC}{Q:Unit->ND->Prop}(ho:s.heap.get? it=some o)(hc:o.cls=.type n)(hd:o.data=.fields vs)
  (hn:["enumerate", "zip", "dict_itemiterator", "dict_reverseitemiterator", "odict_iterator", "itertools.zip_longest", "itertools.pairwise"].contains n=false) (hQ:Q () s):NU M A (QX tg (.ref it) u) Q E s:=by
 unfold QX
 cases tg<;>first
  | exact wpAny_pure hQ
  | (cases u<;>first
    | exact wpAny_pure hQ
    | (refine wpAny_bind (wpAny_load ho ?_)
       rw[hc,hd]
       show NU M A (if (["enumerate", "zip", "dict_itemiterator", "dict_reverseitemiterator", "odict_iterator", "itertools.zip_longest", "itertools.pairwise"].contains n&&vs[0]? == some (Qa _))=true then _ else _) Q E s
       rw[if_neg (by intro h;rw[hn,NQ] at h;cases h)]
       exact wpAny_pure hQ))
def Itl (K:NB)(a:Addr):It:=
 ⟨λi H=>∃ xs x,SqL K H a xs/\xs[i]? = some x,λi H x H'=>H'=H/\∀ xs,SqL K H a xs->xs[i]? = some x,λi H=>∃ xs,SqL K H a xs/\xs.length<=i⟩
def Itt (K:NB)(a:Addr):It:=
 ⟨λi H=>∃ xs x,SqT K H a xs/\xs[i]? = some x,λi H x H'=>H'=H/\∀ xs,SqT K H a xs->xs[i]? = some x,λi H=>∃ xs,SqT K H a xs/\xs.length<=i⟩
def Itr (lo:Int)(n:Nat):It:=⟨λi _=>i < n,λi H x H'=>H'=H/\x=.int (lo+i),λi _=>n<=i⟩
theorem Ap {P:NR}{w:N6}{K:NB}{tg:N1}(a it:Addr):Turn P w K tg (Itl K a) [it] it (λi h=>h.IsListIter it a i) where
 mem:=by simp
 obj:=λi h st b hb=>by
  have e:b=it:=by simpa using hb
  subst e
  obtain ⟨o,e,c,d⟩:=st
  exact ⟨o,e,λv z=>by rw[d] at z;cases z⟩
 keep:=λi h h' st k=>st.at λo e=>k it (by simp) o e
 item:=by
  intro X hP hw hK hc i pins s σ H E I hf st hg
  subst hP hw hK
  obtain ⟨xs,x,hq,hx⟩:=hg
  obtain ⟨its,rv,p,hz⟩:=I.list hq
  obtain ⟨u,hu,ru⟩:=rv.get hx
  obtain ⟨f0,f1,f2,f3,f4,f5⟩:=hf it (by simp)
  refine RY st p.isList (x:=u) (by simpa using hu) λh' st' sb=>?_
  have I1:Inv X pins σ H { s with heap:=h' }:=I.turned (t':=s.toks) (λb o hb e=>(sb.2 b hb).trans e) f0 f1 f3 f4 f5
  obtain ⟨o,e,c,d⟩:=id st'
  exact ⟨u,rfl,zi (s:={ s with heap:=h' }) e c d (by decide) ⟨x,H,I1,ru,⟨rfl,λys hy=>by rw[I.Dj hy hq];exact hx⟩,st',λb hb=>(hf b hb).1⟩⟩
 done:=by
  intro X hP hw hK hc i pins s σ H E I hf st hg
  subst hP hw hK
  obtain ⟨xs,hq,hx⟩:=hg
  obtain ⟨its,rv,p,hz⟩:=I.list hq
  obtain ⟨f0,f1,f2,f3,f4,f5⟩:=hf it (by simp)
  have hl:=rv.length
  exact Sk (I.ok.hd hc) st p.isList (by simp;omega) λh' eb=>⟨rfl,I.turned (t':=s.toks) (λb o hb e=>eb b o hb e) f0 f1 f3 f4 f5⟩
 self:=λ_ _ _ _ _ st h=>wpAny_pyIter_listiter st h
theorem xR {P:NR}{w:N6}{K:NB}{tg:N1}(a it:Addr):Turn P w K tg (Itt K a) [it] it (λi h=>h.IsTupleIter it a i) where
 mem:=by simp
 obj:=λi h st b hb=>by
  have e:b=it:=by simpa using hb
  subst e
  obtain ⟨o,e,c,d⟩:=st
  exact ⟨o,e,λv z=>by rw[d] at z;cases z⟩
 keep:=λi h h' st k=>st.at λo e=>k it (by simp) o e
 item:=by
  intro X hP hw hK hc i pins s σ H E I hf st hg
  subst hP hw hK
  obtain ⟨xs,x,hq,hx⟩:=hg
  obtain ⟨its,rv,p,hz⟩:=I.tuple hq
  obtain ⟨u,hu,ru⟩:=rv.get hx
  obtain ⟨f0,f1,f2,f3,f4,f5⟩:=hf it (by simp)
  refine wpAny_pyNext_tuple_item st (show s.heap.IsTuple a its.toArray from p) (x:=u) (by simpa using hu) λh' st' sb=>?_
  have I1:Inv X pins σ H { s with heap:=h' }:=I.turned (t':=s.toks) (λb o hb e=>(sb.2 b hb).trans e) f0 f1 f3 f4 f5
  obtain ⟨o,e,c,d⟩:=id st'
  exact ⟨u,rfl,zi (s:={ s with heap:=h' }) e c d (by decide) ⟨x,H,I1,ru,⟨rfl,λys hy=>by rw[I.Ae hy hq];exact hx⟩,st',λb hb=>(hf b hb).1⟩⟩
 done:=by
  intro X hP hw hK hc i pins s σ H E I hf st hg
  subst hP hw hK
  obtain ⟨xs,hq,hx⟩:=hg
  obtain ⟨its,rv,p,hz⟩:=I.tuple hq
  obtain ⟨f0,f1,f2,f3,f4,f5⟩:=hf it (by simp)
  have hl:=rv.length
  exact wpAny_pyNext_tuple_end (I.ok.hd hc) st (show s.heap.IsTuple a its.toArray from p) (by simp;omega) λh' eb=>⟨rfl,I.turned (t':=s.toks) (λb o hb e=>eb b o hb e) f0 f1 f3 f4 f5⟩
 self:=λ_ _ _ _ _ st h=>wpAny_pyIter_tupleiter st h
theorem yr {P:NR}{w:N6}{K:NB}{tg:N1}(it:Addr)(lo:Int)(n:Nat):Turn P w K tg (Itr lo n) [it] it (λi h=>IsRangeIter h it (lo+(i:Nat)*1) ((n:Int) - (i:Nat)) 1) where
 mem:=by simp
 obj:=λi h st b hb=>by
  have e:b=it:=by simpa using hb
  subst e
  exact ⟨_,st,λv z=>by
   have z':Data.fields _=Data.cell v:=z
   cases z'⟩
 keep:=λi h h' st k=>k it (by simp) _ st
 item:=by
  intro X hP hw hK hc i pins s σ H E I hf st hg
  subst hP hw hK
  obtain ⟨f0,f1,f2,f3,f4,f5⟩:=hf it (by simp)
  have W:=Walks.range (prog:=X.prog) (w:=X.w) (I.ok.hd hc) it lo 1 n
  refine W.item i s _ _ hg st λv h' tk hv st' kk=>?_
  obtain ⟨t,rfl⟩:=hv
  have I1:Inv X pins σ H { s with heap:=h',toks:=tk }:=I.turned (λb o hb e=>kk b o (by simpa using hb) e) f0 f1 f3 f4 f5
  refine ⟨_,rfl,zi (s:={ s with heap:=h',toks:=tk }) (n := "range_iterator") st' rfl rfl (by decide) ⟨.int (lo+i),H,I1,⟨t,?_⟩,⟨rfl,rfl⟩,st',λb hb=>(hf b hb).1⟩⟩
  rw[Int.mul_one]
 done:=by
  intro X hP hw hK hc i pins s σ H E I hf st hg
  subst hP hw hK
  obtain ⟨f0,f1,f2,f3,f4,f5⟩:=hf it (by simp)
  exact wpAny_pyNext_range_end (I.ok.hd hc) st (by have:n<=i:=hg;omega) λh' eb=>⟨rfl,I.turned (t':=s.toks) (λb o hb e=>eb b o hb e) f0 f1 f3 f4 f5⟩
 self:=λ_ _ _ _ _ st h=>wpAny_pyIter_rangeiter st h
end L2
namespace L2
open PySem PySem.Spec PyProof.Rows
section
variable {X:Cx} {tg:N1}
theorem DE {pins:List (Addr×Obj)}{σ:St}{H:Hp}{s:ND}{R:It->Hp->Prop}{E:NC->ND->Prop}{lo hi:Int}{t u v:Tok}{tk:Nat}(I:Inv X pins σ H s)(h1:-(2 ^ 62)<=lo)(h2:lo < 2 ^ 62)(h3:-(2 ^ 62)<=hi)(h4:hi < 2 ^ 62)
  (q:R (Itr lo (hi - lo).toNat) H):NU (N3 X.prog X.w) X.A (Uc (.ref s.heap.objs.size)) (PIE X pins σ tg R) E { s with heap:=s.heap.push { cls:=.type "range", data:=.fields #[.int lo t,.int hi u,.int 1 v] },toks:=tk }:=by
 refine wpAny_pyIter_range (IsRange.new ..) (small_one h1 h2 h3 h4) ?_
 have I1:Inv X pins σ H { s with heap:=s.heap.push { cls:=.type "range", data:=.fields #[.int lo t,.int hi u,.int 1 v] },toks:=tk }:=I.kept λb o e=>NF _ e
 refine ⟨(s.heap.push { cls:=.type "range", data:=.fields #[.int lo t,.int hi u,.int 1 v] }).objs.size,[(s.heap.push { cls:=.type "range", data:=.fields #[.int lo t,.int hi u,.int 1 v] }).objs.size],_,_,H,rfl,
  I1.kept (t':=tk) λb o e=>NF _ e,yr _ lo (hi - lo).toNat,?_,λb hb=>?_,q⟩
 ·have e1:lo+((0:Nat):Int)*1=lo:=by simp
  have e2:(((hi - lo).toNat:Nat):Int) - ((0:Nat):Int)=U9 lo hi 1:=by rw[rangeSize_one];split<;>omega
  show IsRangeIter _ _ (lo+((0:Nat):Int)*1) ((((hi - lo).toNat:Nat):Int) - ((0:Nat):Int)) 1
  rw[e1,e2]
  exact NT _ rfl
 ·have e:b=(s.heap.push { cls:=.type "range", data:=.fields #[.int lo t,.int hi u,.int 1 v] }).objs.size:=by simpa using hb
  subst e
  exact I1.Gv (NV _) (I1.hok.fresh (NV _))
def LF (ta:TA):TI:=λσ H R=>ta σ H λvs H1=>∃ j:Int,vs=[.int j]/\-(2 ^ 62)<=j/\j < 2 ^ 62/\R (Itr 0 j.toNat) H1
theorem zY {a:N1}{ta:TA}{p pos:Pos}(hg:Gl X "range")(hm:X.mg "range" = none)(ha:PA X [a] ta)(hs:NL [a] X.env=[(false,O4 a X.env)]:=by rfl):PI X tg (.Call (.Name "range" p) [a] [] pos) (LF ta):=by
 intro pins s σ H R I h
 refine Call_ (jA I hg hm boot_range (PQ (thn (ha pos pins s σ H _ I h) λus s1 ⟨vs,H1,I1,r1,q1⟩=>?_) hs rfl))
 obtain ⟨j,e,q1,q2,q⟩:=q1
 subst e
 cases r1 with
 | cons r rr=>
  cases rr
  obtain ⟨t,rfl⟩:=r
  exact call_range_1 (DE I1 (by omega) (by omega) q1 q2 (by simpa using q))
def Na (wi:TI)(g:TG)(tb:TS):TS:=λD σ H=>wi σ H λJ H1=>∃ W:Nat->Nat->St->Hp->Prop,(∃ m,W 0 m σ H1)/\∀ i m σ H,W i m σ H->
 (J.stop i H/\D.nx σ H)∨(J.go i H/\∃ N:St->Hp->Prop,(∀ σ' H',N σ' H'->∃ m',m' < m/\W (i+1) m' σ' H')/\∀ x H',J.yld i H x H'->g x σ H' λσ2 H2=>tb { D with nx:=N,ct:=N,bk:=D.nx } σ2 H2)
def oq (fp:List Addr)(h:Heap):List (Addr×Obj):=fp.filterMap λb=>(h.get? b).map λo=>(b,o)
theorem fg {fp:List Addr}{h:Heap}{b:Addr}{o:Obj}(hb:b∈fp)(e:h.get? b=some o):(b,o)∈oq fp h:=Tn.mpr ⟨b,hb,by rw[e];rfl⟩
theorem zT {fp:List Addr}{h:Heap}{p:Addr×Obj}(hp:p∈oq fp h):p.1∈fp/\h.get? p.1=some p.2:=by
 obtain ⟨b,hb,e⟩:=Tn.mp hp
 cases q:h.get? b with
 | none=>rw[q] at e;cases e
 | some o=>
  rw[q] at e
  have e':(b,o)=p:=Oq e
  subst e'
  exact ⟨hb,q⟩
theorem Inv.pinned {pins:List (Addr×Obj)}{σ:St}{H:Hp}{s:ND}{fp:List Addr}(I:Inv X pins σ H s)(hf:∀ b∈fp,oQ X pins H b)(ho:∀ b∈fp,∃ o,s.heap.get? b=some o/\∀ v,o.data≠.cell v):Inv X (pins++oq fp s.heap) σ H s:=
 I.yH λp hp=>(Oo.mp hp).elim (λz=>I.pin p (NX _ z)) λz=>by
  obtain ⟨hb,e⟩:=zT z
  obtain ⟨f0,f1,f2,_⟩:=hf p.1 hb
  obtain ⟨o,e',d⟩:=ho p.1 hb
  rw[e] at e';cases e'
  exact ⟨e,f0,f1,f2,d⟩
theorem Inv.hU {pins pl:List (Addr×Obj)}{σ:St}{H:Hp}{s:ND}(I:Inv X (pins++pl) σ H s):Inv X pins σ H s:=I.yH λp hp=>I.pin p (NX _ (Sv _ hp))
theorem IP {iter:N1}{body:List Stmt}{wi:TI}{g:TG}{tb:TS}{pos:Pos}(hp:Ub (N3 X.prog X.w) X.A X.env X.xe)(hc:X.calm=true)(hi:PI X tg iter wi)(hg:PG X tg g)(hb:PSs X body tb)
  (hs:∀ x,OQ iter X.env x=pure x:=by intro _;rfl):PS X (.For tg iter body [] pos) (Na wi g tb):=by
 intro pins s σ H D I h
 refine wpAny_For (thn (hi pins s σ H _ I h) λv s1 h1=>thn h1 λitv s2 h2=>?_) hs
 obtain ⟨it,fp,tn,J,H2,e,I2,T,st2,f2,W,⟨m0,w0⟩,turn⟩:=h2
 subst e
 -- what stays true of the iterator's objects through the loop
 have wz:∀ {H':Hp},(∀ b∈fp,H' b=none)->∀ b∈fp,oQ X pins H' b:=λhn b hb=>⟨hn b hb,(f2 b hb).2⟩
 refine codeAny_forLoop_any (λn s'=>∃ i σ' H',Inv X pins σ' H' s'/\tn i s'.heap/\(∀ b∈fp,H' b=none)/\W i n σ' H') ?_ m0 ⟨0,σ,H2,I2,st2,λb hb=>(f2 b hb).1,w0⟩
 rintro n s3 ⟨i,σ3,H3,I3,st3,fr3,w3⟩
 rcases turn i n σ3 H3 w3 with ⟨stop,qn⟩ | ⟨go,N,hN,step⟩
 ·refine Pn hp (thn (T.done X rfl rfl rfl hc i pins s3 σ3 H3 X.xe I3 (wz fr3) st3 stop) λr s4 ⟨hr,I4⟩=>?_)
  subst hr
  exact QW ⟨σ3,H3,I4,qn⟩
 ·refine Pn hp (thn (T.item X rfl rfl rfl hc i pins s3 σ3 H3 X.xe I3 (wz fr3) st3 go) λr s4 ⟨u,hr,h4⟩=>?_)
  subst hr
  refine Pn hp (thn h4 λ_ s5 ⟨x,H5,I5,r5,y5,st5,fr5⟩=>?_)
  have I5':=I5.pinned (wz fr5) (T.obj _ _ st5)
  refine Pn hp (thn (hg _ s5 σ3 H5 x u _ I5' r5 (step x H5 y5)) λ_ s6 ⟨σ6,H6,I6,q6⟩=>?_)
  refine Pn hp (thn (hb _ s6 σ6 H6 _ I6 q6) λf s7 q7=>?_)
  have again:∀ {σ7:St} {H7:Hp},Inv X (pins++oq fp s5.heap) σ7 H7 s7->N σ7 H7->∃ m,m < n/\∃ i σ' H',Inv X pins σ' H' s7/\tn i s7.heap/\(∀ b∈fp,H' b=none)/\W i m σ' H':=λ{σ7 H7} I7 n7=>by
   obtain ⟨m',hm,w7⟩:=hN σ7 H7 n7
   refine ⟨m',hm,i+1,σ7,H7,I7.hU,T.keep _ _ _ st5 λb hb o e=>(I7.pin (b,o) (NX _ (NX _ (fg hb e)))).1,λb hb=>?_,w7⟩
   obtain ⟨o,e,d⟩:=T.obj _ _ st5 b hb
   exact (I7.pin (b,o) (NX _ (NX _ (fg hb e)))).2.1
  cases f with
  | next=>obtain ⟨σ7,H7,I7,n7⟩:=q7;exact again I7 n7
  | cont=>obtain ⟨σ7,H7,I7,n7⟩:=q7;exact again I7 n7
  | brk=>obtain ⟨σ7,H7,I7,q7⟩:=q7;exact ⟨σ7,H7,I7.hU,q7⟩
  | ret v=>obtain ⟨x7,σ7,H7,I7,r7,q7⟩:=q7;exact ⟨x7,σ7,H7,I7.hU,r7,q7⟩
end
end L2
namespace L2
open PySem PySem.Spec PyProof.Rows
abbrev R2:=V->V->Hp->VK->Prop
def OpR (X:Cx)(f:NC->NC->Sem NC)(r:R2):Prop:=
 ∀ (pins:List (Addr×Obj)) (s:ND) (σ:St) (H:Hp) (x y:V) (v u:NC) (Q:VK),Inv X pins σ H s->RelV x v->RelV y u->r x y H Q->
  NU (N3 X.prog X.w) X.A (f v u) (EP X pins σ Q) X.xe s
def UnR (X:Cx)(f:NC->Sem NC)(r:V->Hp->VK->Prop):Prop:=
 ∀ (pins:List (Addr×Obj)) (s:ND) (σ:St) (H:Hp) (x:V) (v:NC) (Q:VK),Inv X pins σ H s->RelV x v->r x H Q->
  NU (N3 X.prog X.w) X.A (f v) (EP X pins σ Q) X.xe s
def cm (X:Cx)(f:NC)(r:List V->Hp->VK->Prop):Prop:=
 ∀ (pins:List (Addr×Obj)) (s:ND) (σ:St) (H:Hp) (xs:List V) (us:List NC) (Q:VK),Inv X pins σ H s->Vals xs us->r xs H Q->
  NU (N3 X.prog X.w) X.A (call f us) (EP X pins σ Q) X.xe s
def tOp (r:R2)(ta tb:TE):TE:=λσ H Q=>ta σ H λx H1=>tb σ H1 λy H2=>r x y H2 Q
def tUn (r:V->Hp->VK->Prop)(ta:TE):TE:=λσ H Q=>ta σ H λx H1=>r x H1 Q
def rI (C:Int->Int->Prop)(g:Int->Int->V):R2:=λx y H Q=>∃ i j,x=.int i/\y=.int j/\C i j/\Q (g i j) H
def rI0 (g:Int->Int->V):R2:=λx y H Q=>∃ i j,x=.int i/\y=.int j/\Q (g i j) H
def rU (g:Int->V):V->Hp->VK->Prop:=λx H Q=>∃ i,x=.int i/\Q (g i) H
section
variable {X:Cx} {a b c:N1} {ta tb tc:TE} {pos:Pos}
theorem HG (ha:PE X a ta)(hb:PE X b tb){pins:List (Addr×Obj)}{s:ND}{σ:St}{H:Hp}{R:V->V->Hp->Prop}(I:Inv X pins σ H s)
  (h:ta σ H λx H1=>tb σ H1 λy H2=>R x y H2) {Q:NC->ND->Prop} {f:NC->NC->Sem NC}
  (hf:∀ v u s2 x y H2,Inv X pins σ H2 s2->RelV x v->RelV y u->R x y H2->NU (N3 X.prog X.w) X.A (f v u) Q X.xe s2) :
  NU (N3 X.prog X.w) X.A (O4 a X.env) (λv s₁=>NU (N3 X.prog X.w) X.A (O4 b X.env) (λu s₂=>NU (N3 X.prog X.w) X.A (f v u) Q X.xe s₂) X.xe s₁) X.xe s:=by
 refine thn (ha pins s σ H _ I h) λv s1 ⟨x,H1,I1,r1,q1⟩=>?_
 refine thn (hb pins s1 σ H1 _ I1 q1) λu s2 ⟨y,H2,I2,r2,q2⟩=>?_
 exact hf v u s2 x y H2 I2 r1 r2 q2
theorem GN {op:Operator}{r:R2}(ho:OpR X (Pt op) r)(ha:PE X a ta)(hb:PE X b tb):PE X (.BinOp a op b pos) (tOp r ta tb):=by
 intro pins s σ H Q I h
 exact wpAny_BinOp (HG ha hb I h λv u s2 x y H2 I2 rx ry q=>ho pins s2 σ H2 x y v u Q I2 rx ry q)
theorem L7 {op:UnaryOp}{r:V->Hp->VK->Prop}(ho:UnR X (unaryOp op) r)(ha:PE X a ta):PE X (.UnaryOp op a pos) (tUn r ta):=by
 intro pins s σ H Q I h
 exact UnaryOp_ (thn (ha pins s σ H _ I h) λv s1 ⟨x,H1,I1,r1,q1⟩=>ho pins s1 σ H1 x v Q I1 r1 q1)
theorem opI {f:NC->NC->Sem NC}{C:Int->Int->Prop}{g:Int->Int->Int}
  (rule:∀ (i j:Int) (t u:Tok) (s:ND) (Q:NC->ND->Prop) (E:NC->ND->Prop),C i j->Q (.int (g i j) s.toks) { s with toks:=s.toks+1 }->NU (N3 X.prog X.w) X.A (f (.int i t) (.int j u)) Q E s) :
  OpR X f (rI C λi j=>.int (g i j)):=by
 intro pins s σ H x y v u Q I rx ry h
 obtain ⟨i,j,rfl,rfl,hc,q⟩:=h
 obtain ⟨t,rfl⟩:=rx
 obtain ⟨t',rfl⟩:=ry
 exact rule i j t t' s _ _ hc ⟨.int (g i j),H,I.tok _,⟨_,rfl⟩,q⟩
theorem Md {f:NC->NC->Sem NC}{g:Int->Int->Int}
  (rule:∀ (i j:Int) (t u:Tok) (s:ND) (Q:NC->ND->Prop) (E:NC->ND->Prop),Q (.int (g i j) s.toks) { s with toks:=s.toks+1 }->NU (N3 X.prog X.w) X.A (f (.int i t) (.int j u)) Q E s) :
  OpR X f (rI0 λi j=>.int (g i j)):=by
 intro pins s σ H x y v u Q I rx ry h
 obtain ⟨i,j,rfl,rfl,q⟩:=h
 obtain ⟨t,rfl⟩:=rx
 obtain ⟨t',rfl⟩:=ry
 exact rule i j t t' s _ _ ⟨.int (g i j),H,I.tok _,⟨_,rfl⟩,q⟩
theorem Ge {f:NC->NC->Sem NC}{g:Int->Int->Bool}
  (rule:∀ (i j:Int) (t u:Tok) (s:ND) (Q:NC->ND->Prop) (E:NC->ND->Prop),Q (.bool (g i j)) s->NU (N3 X.prog X.w) X.A (f (.int i t) (.int j u)) Q E s) :
  OpR X f (rI0 λi j=>.bl (g i j)):=by
 intro pins s σ H x y v u Q I rx ry h
 obtain ⟨i,j,rfl,rfl,q⟩:=h
 obtain ⟨t,rfl⟩:=rx
 obtain ⟨t',rfl⟩:=ry
 exact rule i j t t' s _ _ ⟨.bl (g i j),H,I,rfl,q⟩
def M0 (i j:Int):Prop:=0<=j/\j<=1000000/\i.natAbs < 2 ^ 64
def Mt (i j:Int):Prop:=(-(2 ^ 64) < i/\i < 2 ^ 64)∨(-(2 ^ 64) < j/\j < 2 ^ 64)
theorem Mt.ok {i j:Int}(h:Mt i j):IntMulOk i j:=by
 rcases h with ⟨h1,h2⟩ | ⟨h1,h2⟩
 ·exact .of_left (RA h1 h2)
 ·exact .of_right (RA h1 h2)
theorem Jw:OpR X (Pt .Add) (rI0 λi j=>.int (i+j)):=Md λ_ _ _ _ _ _ _ q=>add_int q
theorem JC:OpR X (Pt .Sub) (rI0 λi j=>.int (i - j)):=Md λ_ _ _ _ _ _ _ q=>sub_int q
theorem Fp:OpR X (Pt .Mod) (rI (λ_ j=>j≠0) λi j=>.int (i.fmod j)):=opI λ_ _ _ _ _ _ _ hc q=>mod_int' hc q
theorem Hx:OpR X (Pt .Pow) (rI M0 λi j=>.int (i ^ j.toNat)):=opI λ_ _ _ _ _ _ _ hc q=>pow_int_small hc.1 hc.2.1 hc.2.2 q
theorem unI {f:NC->Sem NC}{g:Int->Int}
  (rule:∀ (i:Int) (t:Tok) (s:ND) (Q:NC->ND->Prop) (E:NC->ND->Prop),Q (.int (g i) s.toks) { s with toks:=s.toks+1 }->NU (N3 X.prog X.w) X.A (f (.int i t)) Q E s) :
  UnR X f (rU λi=>.int (g i)):=by
 intro pins s σ H x v Q I rx h
 obtain ⟨i,rfl,q⟩:=h
 obtain ⟨t,rfl⟩:=rx
 exact rule i t s _ _ ⟨.int (g i),H,I.tok _,⟨_,rfl⟩,q⟩
theorem JU:UnR X (unaryOp .USub) (rU λi=>.int (-i)):=unI λ_ _ _ _ _ q=>neg_int q
end
def Mc:V->V->Bool
 | .non,.non=>true | .non,.int _=>true | .int _,.non=>true | .non,.bl _=>true | .bl _,.non=>true | .non,.str _=>true | .str _,.non=>true
 | .int _,.int _=>true | .bl _,.bl _=>true | .str _,.str _=>true | .byt _,.byt _=>true
 | .int _,.str _=>true | .str _,.int _=>true | .bl _,.str _=>true | .str _,.bl _=>true
 | _,_=>false
def rEq:R2:=λx y H Q=>Mc x y=true/\Q (.bl (decide (x=y))) H
def rNe:R2:=λx y H Q=>Mc x y=true/\Q (.bl (!decide (x=y))) H
section
variable {X:Cx} {a b c:N1} {ta tb tc:TE} {pos:Pos}
theorem DO {pins:List (Addr×Obj)}{σ:St}{H:Hp}{s:ND}{Q:VK}{k k':Bool}(I:Inv X pins σ H s)(q:Q (.bl k) H)(e:k=k'):EP X pins σ Q (.bool k') s:=by
 subst e
 exact ⟨.bl k,H,I,rfl,q⟩
theorem G8:OpR X (OA .Lt) (rI0 λi j=>.bl (decide (i < j))):=Ge λ_ _ _ _ _ _ _ q=>lt_int q
theorem qo:OpR X (OA .LtE) (rI0 λi j=>.bl (decide (i<=j))):=Ge λ_ _ _ _ _ _ _ q=>le_int q
theorem GW:OpR X (OA .Gt) (rI0 λi j=>.bl (decide (j < i))):=Ge λ_ _ _ _ _ _ _ q=>gt_int q
theorem LP:OpR X (OA .GtE) (rI0 λi j=>.bl (decide (j<=i))):=Ge λ_ _ _ _ _ _ _ q=>ge_int q
theorem AN:OpR X (OA .In) (λx y H Q=>∃ i j,x=.str i/\y=.str j/\Q (.bl (!(Qk j i 0 j.length 1).isEmpty)) H):=by
 intro pins s σ H x y v u Q I rx ry h
 obtain ⟨i,j,rfl,rfl,q⟩:=h
 obtain ⟨t,rfl⟩:=rx
 obtain ⟨t',rfl⟩:=ry
 exact in_str (DO I q rfl)
theorem Ig:OpR X (OA .Is) (λx y H Q=>y=.non/\Q (.bl (decide (x=.non))) H):=by
 intro pins s σ H x y v u Q I rx ry h
 obtain ⟨rfl,q⟩:=h
 cases ry
 refine is_none_gen (DO I q ?_)
 cases x<;>first
  | (cases rx;rfl)
  | (obtain ⟨t,rfl⟩:=rx;rfl)
theorem gI (b:N1){op:TF}(h:op≠.In:=by decide)(h2:op≠.NotIn:=by decide):Pa op b=false:=by
 have e1:(op == CmpOp.In)=false:=by cases op<;>first | rfl | exact absurd rfl h
 have e2:(op == CmpOp.NotIn)=false:=by cases op<;>first | rfl | exact absurd rfl h2
 cases b<;>simp[Pa,e1,e2]
theorem FH {op:TF}{r:R2}(ho:OpR X (OA op) r)(ha:PE X a ta)(hb:PE X b tb)(hm:Pa op b=false):PE X (.Compare a [op] [b] pos) (tOp r ta tb):=by
 intro pins s σ H Q I h
 exact wpAny_Compare1 (HG ha hb I h λv u s2 x y H2 I2 rx ry q=>ho pins s2 σ H2 x y v u Q I2 rx ry q) hm
def Bk (t:TE):TT:=λσ H Q=>t σ H λx H'=>∃ k,x=.bl k/\Q k H'
theorem yV {op:TF}{r:R2}(ho:OpR X (OA op) r)(ha:PE X a ta)(hb:PE X b tb)(hm:Pa op b=false):PT X (.Compare a [op] [b] pos) (Bk (tOp r ta tb)):=by
 intro pins s σ H Q I h
 refine wpAny_isTrue_Compare1 (thn (ha pins s σ H _ I h) λv s1 ⟨x,H1,I1,r1,q1⟩=>thn (hb pins s1 σ H1 _ I1 q1) λu s2 ⟨y,H2,I2,r2,q2⟩=>
  thn (ho pins s2 σ H2 x y v u _ I2 r1 r2 q2) λc s3 ⟨z,H3,I3,r3,k,e,q3⟩=>?_) hm
 subst e
 cases r3
 exact OP ⟨H3,I3,q3⟩
def xM (r r':R2)(ta tb tc:TE):TE:=λσ H Q=>ta σ H λx H1=>tb σ H1 λy H2=>r x y H2 λz H3=>∃ k,z=.bl k/\
 (if k=true then tc σ H3 λw' H4=>r' y w' H4 Q else Q (.bl false) H3)
theorem DG {op op':TF}{r r':R2}(ho:OpR X (OA op) r)(ho':OpR X (OA op') r')(ha:PE X a ta)(hb:PE X b tb)(hc:PE X c tc)
  (hm:SJ [op,op'] [b,c]=false:=by with_unfolding_all rfl):PE X (.Compare a [op,op'] [b,c] pos) (xM r r' ta tb tc):=by
 intro pins s σ H Q I h
 refine Compare_chain (thn (ha pins s σ H _ I h) λv s1 ⟨x,H1,I1,r1,q1⟩=>chain_link (thn (hb pins s1 σ H1 _ I1 q1) λu s2 ⟨y,H2,I2,r2,q2⟩=>
  thn (ho pins s2 σ H2 x y v u _ I2 r1 r2 q2) λd s3 ⟨z,H3,I3,r3,k,e,q3⟩=>?_)) hm
 subst e
 cases r3
 refine OP ?_
 cases k with
 | false=>exact ite_ff ⟨.bl false,H3,I3,rfl,q3⟩
 | true=>exact ite_tt (chain_last (thn (hc pins s3 σ H3 _ I3 q3) λw' s4 ⟨z',H4,I4,r4,q4⟩=>ho' pins s4 σ H4 y z' u w' Q I4 r2 r4 q4))
theorem Bs {op op':TF}{r r':R2}(ho:OpR X (OA op) r)(ho':OpR X (OA op') r')(ha:PE X a ta)(hb:PE X b tb)(hc:PE X c tc)
  (hm:SJ [op,op'] [b,c]=false:=by with_unfolding_all rfl):PT X (.Compare a [op,op'] [b,c] pos) (Bk (xM r r' ta tb tc)):=by
 intro pins s σ H Q I h
 refine isTrue_chain (thn (ha pins s σ H _ I h) λv s1 ⟨x,H1,I1,r1,q1⟩=>test_link (thn (hb pins s1 σ H1 _ I1 q1) λu s2 ⟨y,H2,I2,r2,q2⟩=>
  thn (ho pins s2 σ H2 x y v u _ I2 r1 r2 q2) λd s3 ⟨z,H3,I3,r3,k,e,q3⟩=>?_)) hm
 subst e
 cases r3
 refine OP ?_
 cases k with
 | false=>
  obtain ⟨k',e',q'⟩:=q3
  cases e'
  exact ite_ff ⟨H3,I3,q'⟩
 | true=>
  refine ite_tt (test_last (thn (hc pins s3 σ H3 _ I3 q3) λw' s4 ⟨z',H4,I4,r4,q4⟩=>thn (ho' pins s4 σ H4 y z' u w' _ I4 r2 r4 q4) λd' s5 ⟨z2,H5,I5,r5,k2,e2,q5⟩=>?_))
  subst e2
  cases r5
  exact OP ⟨H5,I5,q5⟩
theorem kQ:(sizeLine:Nat) < 2 ^ 63:=by rw[QS];decide
theorem wL:OpR X (Pt .Add) (λx y H Q=>∃ i j,x=.str i/\y=.str j/\i.length+j.length<=sizeLine/\Q (.str (i++j)) H):=by
 intro pins s σ H x y v u Q I rx ry h
 obtain ⟨i,j,rfl,rfl,hz,q⟩:=h
 obtain ⟨t,rfl⟩:=rx
 obtain ⟨t',rfl⟩:=ry
 exact add_str (λt' tk=>⟨.str (i++j),H,I.tok _,⟨_,rfl⟩,q⟩) hz
theorem vals1 {x:V}{us:List NC}(r:Vals [x] us):∃ u,us=[u]/\RelV x u:=by
 cases r with
 | cons r1 r2=>cases r2;exact ⟨_,rfl,r1⟩
theorem iL:cm X (.builtin "abs") (λxs H Q=>∃ i,xs=[.int i]/\Q (.int (if i < 0 then -i else i)) H):=by
 intro pins s σ H xs us Q I r h
 obtain ⟨i,rfl,q⟩:=h
 obtain ⟨u,rfl,t,rfl⟩:=vals1 r
 exact call_abs_int λu tk=>⟨.int (if i < 0 then -i else i),H,I.tok _,⟨_,rfl⟩,q⟩
theorem Ab:cm X (.type "int") (λxs H Q=>(∃ i,xs=[.int i]/\Q (.int i) H)∨∃ k,xs=[.bl k]/\Q (.int (if k then 1 else 0)) H):=by
 intro pins s σ H xs us Q I r h
 rcases h with ⟨i,rfl,q⟩ | ⟨k,rfl,q⟩
 ·obtain ⟨u,rfl,t,rfl⟩:=vals1 r
  exact call_int_int ⟨.int i,H,I,⟨_,rfl⟩,q⟩
 ·obtain ⟨u,rfl,r1⟩:=vals1 r
  cases r1
  exact call_int_bool ⟨.int (if k then 1 else 0),H,I.tok _,⟨_,rfl⟩,q⟩
end
end L2
namespace L2
open PySem PySem.Spec PyProof.Rows
section
variable {prog:NR} {w:N6} {A:N7} {E:NC->ND->Prop} {s:ND} {K:NB} {x dx C f:Addr} {mA:Str->Option NC} {name:Str} {v:NC}
end
section
variable {P:NR} {w:N6} {H H':Hp} {h h':Heap} {a C dx:Addr} {fs fs':List (Str×V)}
end
structure Cls (K:NB) (C:Addr):Prop where
 pg:Ud K C Ue=true
 hd:PySem.W.hasDictIn K C=true
 po:PySem.W.plainOver K C=true
 sa:PySem.W.findIn K (.ref C) "__setattr__" = some (some (.builtin "object.__setattr__"))
theorem Cls.get {K:NB}{C:Addr}(c:Cls K C)(f:Str):Ud K C f=true:=c.pg
section
variable {X:Cx} {pins:List (Addr×Obj)} {σ:St} {H:Hp} {s:ND} {a C dx:Addr} {fs:List (Str×V)} {f:Str} {v:V} {A:N7} {E:NC->ND->Prop}
end
section
variable {X:Cx} {o e value:N1} {f:Str} {pos pos' tpos:Pos} {ta tv:TE}
def uF:V->V->Hp->VK->Prop:=λx y H Q=>∃ i j,x=.int i/\y=.int j/\Q (.int (i - j)) H
end
section
variable {X:Cx} {pins:List (Addr×Obj)} {σ:St} {H:Hp} {s:ND} {A:N7} {E:NC->ND->Prop} {Q:NC->ND->Prop} {c:NC} {b:Bool}
end
end L2
namespace L2
open PySem PySem.Spec PyProof.Rows
structure fu (k:Nat) (A:N7):Prop where
 hd:A.handled=none
 dp:A.depth+3*k+5 < recursionLimit
 un:A.units+16*k+200 < cLine
theorem fu.mono {j k:Nat}{A:N7}(r:fu k A)(h:j<=k):fu j A:=⟨r.hd,by have:=r.dp;omega,by have:=r.un;omega⟩
theorem fu.deeper {k:Nat}{A:N7}(r:fu (k+1) A)(env:Env):fu k (A.deeper env):=
 ⟨r.hd,by have:=r.dp;show A.depth+1+3*k+5 < _;omega,by have:=r.un;show A.units+3+16*k+200 < _;omega⟩
theorem fu.depth {k:Nat}{A:N7}(r:fu k A):A.depth < recursionLimit:=by have:=r.dp;omega
theorem fu.units {k:Nat}{A:N7}(r:fu k A):A.units+64 < cLine:=by have:=r.un;omega
def M5:TA:=λ_ H Q=>Q [] H
def Mf (ta:TE)(tr:TA):TA:=λσ H Q=>ta σ H λx H1=>tr σ H1 λxs H2=>Q (x::xs) H2
section
variable {X:Cx} {e:N1} {es:List N1} {te:TE} {t:TA} {pos:Pos}
theorem oN:PA X [] M5:=λ_ _ _ _ H Q I h=>Qu ⟨[],H,I,.nil,h⟩
theorem iV (ha:PE X e te)(hr:PA X es t)(hs:NL (e::es) X.env=(false,O4 e X.env)::NL es X.env:=by rfl):PA X (e::es) (Mf te t):=by
 intro pos pins s σ H Q I h
 rw[hs]
 show NU _ _ (UC ((false,O4 e X.env)::OB pos (NL es X.env))) _ _ s
 refine Qi (thn (ha pins s σ H _ I h) λu s1 ⟨x,H1,I1,r1,q1⟩=>?_)
 exact thn (hr pos pins s1 σ H1 _ I1 q1) λus s2 ⟨xs,H2,I2,r2,q2⟩=>⟨x::xs,H2,I2,.cons r1 r2,q2⟩
def M1 (t:TA):TE:=λσ H Q=>t σ H λxs H1=>xs.length<=sizeLine/\∀ p,H1 p=none->Q (.ref p) (upd H1 p (.tup xs))
def MH (t:TA):TE:=λσ H Q=>t σ H λxs H1=>xs.length<=sizeLine/\∀ p,H1 p=none->Q (.ref p) (upd H1 p (.lst xs))
theorem IM {x1}(h:PA X es t):PE X (.Tuple es x1 pos) (M1 t):=by
 intro pins s σ H Q I hq
 refine wpAny_Tuple_spliced (thn (h pos pins s σ H _ I hq) λus s1 ⟨xs,H1,I1,r,z,q⟩=>⟨by rw[← r.length];exact z,?_⟩)
 have hf:H1 s1.heap.objs.size=none:=I1.hok.fresh (NV _)
 refine ⟨.ref s1.heap.objs.size,upd H1 s1.heap.objs.size (.tup xs),I1.laid (t':=s1.toks) (λb u e=>NF _ e) (NV _) ?_,rfl,q _ hf⟩
 exact ⟨z,us,r,⟨_,NT _ rfl⟩⟩
theorem C8 (h:PA X es t):PE X (.List es pos) (MH t):=by
 intro pins s σ H Q I hq
 refine wpAny_List_spliced (thn (h pos pins s σ H _ I hq) λus s1 ⟨xs,H1,I1,r,z,q⟩=>⟨by rw[← r.length];exact z,?_⟩)
 have hf:H1 s1.heap.objs.size=none:=I1.hok.fresh (NV _)
 refine ⟨.ref s1.heap.objs.size,upd H1 s1.heap.objs.size (.lst xs),I1.laid (t':=s1.toks) (λb u e=>NF _ e) (NV _) ?_,rfl,q _ hf⟩
 exact ⟨z,us,0,r,NT _ rfl⟩
end
abbrev Sp:=List V->Hp->VK->XK->Prop
abbrev CXT:=List Env->Hp->ND->XK->NC->ND->Prop
structure FO (P:NR) (w:N6) (K:NB) (mg:Str->Option NC) (base:Heap) (A:N7) (outer:List Env) (s:ND) (H:Hp):Prop where
 frames:A.frames=some outer
 mod:Mod K mg base
 bs:∀ b o,base.get? b=some o->s.heap.get? b=some o/\H b=none
 bsz:base.objs.size<=s.heap.objs.size
 nW:s.heap.FunFrames base outer
 frf:∀ b∈frs outer,H b=none
 hok:HOk P w H s.heap
 bare:Rq s.gens
def CE (outer:List Env)(P:NR)(w:N6)(H:Hp)(s:ND)(Q:VK)(u:NC)(s':ND):Prop:=
 ∃ v H',s'.os=s.os/\Rq s'.gens/\Un (frs outer) [] H H' s.heap s'.heap/\HOk P w H' s'.heap/\RelV v u/\Q v H'
def CR (CX:CXT)(outer:List Env)(P:NR)(w:N6)(H:Hp)(s:ND)(Q:VK)(E:XK)(r:UJ)(s':ND):Prop:=
 match r with
 | .ok (.ret u)=>CE outer P w H s Q u s'
 | .ok _=>False
 | .error e=>CX outer H s E e s'
structure jy (P:NR) (w:N6) (K:NB) (mg:Str->Option NC) (base:Heap) (CX:CXT) (k:Nat) (f:Addr) (fd:N0) (ps:List Str) (sp:Sp):Prop where
 len:∀ vs H Q E,sp vs H Q E->vs.length=ps.length
 run:∀ (A:N7) (outer:List Env) (s:ND) (H:Hp) (args:Args) (us:List NC) (vs:List V) (Q:VK) (E:XK),fu k A->FO P w K mg base A outer s H->TH s fd args (ps.zip us)->Vals vs us->sp vs H Q E->
  PR (N3 P w) A (.call (.ref f) args) (CR CX outer P w H s Q E) s
theorem jy.mono {P:NR}{w:N6}{K:NB}{mg:Str->Option NC}{base:Heap}{CX:CXT}{j k:Nat}{f:Addr}{fd:N0}{ps:List Str}{sp:Sp}(F:jy P w K mg base CX j f fd ps sp)(h:j<=k) :
  jy P w K mg base CX k f fd ps sp:=⟨F.len,λA outer s H args us vs Q E hr=>F.run A outer s H args us vs Q E (hr.mono h)⟩
section
variable {X:Cx} {pins:List (Addr×Obj)} {σ:St} {H:Hp} {s s':ND}
theorem Inv.Nd (I:Inv X pins σ H s):FO X.prog X.w X.K X.mg X.base X.A X.stack s H:=
 ⟨I.ok.frames,I.ok.mod,I.bs,OJ I.ok.bsz I.sz,I.stack,I.yy,I.hok,I.bare⟩
theorem Inv.after {Q:VK}{u:NC}(I:Inv X pins σ H s)(h:CE X.stack X.prog X.w H s Q u s'):EP X pins σ Q u s':=by
 obtain ⟨v,H',os,bare,un,hok,r,q⟩:=h
 obtain ⟨hh,g,d,t,os'⟩:=s'
 obtain rfl:os'=s.os:=os
 exact ⟨v,H',I.call (h':=hh) (g':=g) (d':=d) (t':=t) (ch:=[]) un hok bare (λb z=>absurd z (by simp)),r,q⟩
end
def Lq (sp:Sp)(dvs:List V)(E:XK)(t:TA):TE:=λσ H Q=>t σ H λvs H1=>sp (vs++dvs) H1 Q E
def Binds (K:NB)(fd:N0)(ps:List Str)(ds:List NC):Prop:=
 ∀ (s:ND) (us:List NC),K.In s.heap->(us++ds).length=ps.length->TH s fd ⟨us,[]⟩ (ps.zip (us++ds))
theorem Binds.all {K:NB}{fd:N0}{ps:List Str}(h:∀ us:List NC,us.length=ps.length->bindArgs fd ⟨us,[]⟩=pure (ps.zip us)):Binds K fd ps []:=λs us _ hl=>by
 rw[OI] at hl ⊢
 exact .of_eq (h us hl)
def Passes (CX:CXT)(X:Cx)(E:XK):Prop:=∀ (pins:List (Addr×Obj)) (σ:St) (H:Hp) (s:ND) (e:NC) (s':ND),Inv X pins σ H s->CX X.stack H s E e s'->X.xe e s'
section
variable {X:Cx} {CX:CXT} {k:Nat} {f C:Addr} {fd:N0} {ps:List Str} {sp:Sp} {dvs:List V} {ds:List NC} {E:XK} {x m:Str} {p pos apos:Pos} {e o:N1} {es:List N1} {ta:TE} {t:TA}
theorem J2 {pins:List (Addr×Obj)}{σ:St}{H:Hp}{s:ND}{Q:VK}{us:List NC}{vs:List V}(F:jy X.prog X.w X.K X.mg X.base CX k f fd ps sp)(hr:fu k X.A)(hb:Binds X.K fd ps ds)(hd:Vals dvs ds)(hx:Passes CX X E)
  (I:Inv X pins σ H s) (r:Vals vs us) (h:sp (vs++dvs) H Q E):NU (N3 X.prog X.w) X.A (call (.ref f) us) (EP X pins σ Q) X.xe s:=by
 have r2:Vals (vs++dvs) (us++ds):=r.append hd
 have hl:(us++ds).length=ps.length:=by rw[← r2.length];exact F.len _ _ _ _ h
 refine Tp (Q2 (F.run X.A X.stack s H ⟨us,[]⟩ (us++ds) (vs++dvs) Q E hr I.Nd (hb s us I.kIn hl) r2 h) λr s' hq=>?_)
 cases r with
 | error e=>exact hx pins σ H s e s' I hq
 | ok fl=>
  cases fl with
  | ret u=>exact I.after hq
  | next=>exact NG hq
  | brk=>exact NG hq
  | cont=>exact NG hq
theorem E7 (F:jy X.prog X.w X.K X.mg X.base CX k f fd ps sp)(hr:fu k X.A)(hg:Gl X x)(hm:X.mg x=some (.ref f))(hk:Qw X.K (.ref f)=true)(hb:Binds X.K fd ps ds)(hd:Vals dvs ds)(hx:Passes CX X E)
  (ha:PA X (e::es) t) (hdb:(x == ("__debug__" : Str))=false:=by decide) (he:NL (e::es) X.env=(false,O4 e X.env)::NL es X.env:=by rfl) (hpl:(OB pos (NL es X.env)).any (·.1)=false:=by rfl) :
  PE X (.Call (.Name x p) (e::es) [] pos) (Lq sp dvs E t):=by
 intro pins s σ H Q I h
 refine Pg (yY I hg hm ?_ hdb)
 refine PySem.W.callWith_K (h₀:=X.base) I.ok.mod.kin hk (thn (ha pos pins s σ H _ I h) λus s1 ⟨vs,H1,I1,r,q⟩=>⟨I1.kIn,?_⟩) he hpl
 exact J2 F hr hb hd hx I1 r q
end
section
variable {X:Cx} {CX:CXT} {k:Nat} {f C:Addr} {fd:N0} {ps ks:List Str} {sp:Sp} {E:XK} {x m:Str} {p pos apos kpos:Pos} {e o:N1} {es:List N1} {kws:List SK} {te ta:TE} {t tk:TA} {nm:Option Str}
variable {g:List NC->List NC->List NC} {gV:List V->List V->List V}
end
structure aJ (N P:List Str) (sc:Scope):Prop where
 kind:sc.kind=.function
 co:sc.isCoroutine=false
 gen:sc.isGenerator=false
 nd:N.Nodup
 pre:N.take P.length=P
 par:∀ x∈P,sc.names.lookup x=some .local∨sc.names.lookup x=some .cell
 IL:∀ y∈sc.names,y.2≠.free
theorem qJ {QG:Str->Option QT}{x:Str}:∀ {binds:List (Str×NC)} {m:Str->Option NC},(∀ v,(x,v) ∉ binds)->UK QG binds m x=m x
 | [],_,_=>rfl
 | (n,v)::r,m,h=>by
  unfold UK
  rw[qJ λw hw=>h w (NM _ hw)]
  split
  ·have:x≠n:=by rintro rfl;exact h v NJ
   simp[this]
  ·rfl
theorem qC {QG:Str->Option QT}{x:Str}:∀ {binds:List (Str×NC)} {m:Str->Option NC},(∀ v,(x,v) ∉ binds)->UL QG binds m x=m x
 | [],_,_=>rfl
 | (n,v)::r,m,h=>by
  unfold UL
  rw[qC λw hw=>h w (NM _ hw)]
  split
  ·rfl
  ·have:x≠n:=by rintro rfl;exact h v NJ
   simp[this]
theorem qm {QG:Str->Option QT}{x:Str}{v:NC}:∀ {P:List Str} {vs:List NC} {i:Nat} {m:Str->Option NC},P.Nodup->P[i]? = some x->vs[i]? = some v->QG x=some .local->
  UK QG (P.zip vs) m x=some v
 | [],_,_,_,_,h,_,_=>by simp at h
 | _::_,[],_,_,_,_,h,_=>by simp at h
 | p::P,w::vs,0,m,nd,h1,h2,hk=>by
  simp at h1 h2;subst h1;subst h2
  show UK QG ((p,w)::P.zip vs) m p=_
  unfold UK
  rw[qJ λv hv=>(Po.mp nd).1 (Sa hv).1,if_pos hk]
  simp
 | p::P,w::vs,i+1,m,nd,h1,h2,hk=>by
  show UK QG ((p,w)::P.zip vs) m x=_
  unfold UK
  exact qm (i:=i) (Po.mp nd).2 (by simpa using h1) (by simpa using h2) hk
theorem qN {QG:Str->Option QT}{x:Str}{v:NC}:∀ {P:List Str} {vs:List NC} {i:Nat} {m:Str->Option NC},P.Nodup->P[i]? = some x->vs[i]? = some v->QG x≠some .local->
  UL QG (P.zip vs) m x=some v
 | [],_,_,_,_,h,_,_=>by simp at h
 | _::_,[],_,_,_,_,h,_=>by simp at h
 | p::P,w::vs,0,m,nd,h1,h2,hk=>by
  simp at h1 h2;subst h1;subst h2
  show UL QG ((p,w)::P.zip vs) m p=_
  unfold UL
  rw[qC λv hv=>(Po.mp nd).1 (Sa hv).1,if_neg hk]
  simp
 | p::P,w::vs,i+1,m,nd,h1,h2,hk=>by
  show UL QG ((p,w)::P.zip vs) m x=_
  unfold UL
  exact qN (i:=i) (Po.mp nd).2 (by simpa using h1) (by simpa using h2) hk
def start (N:List Str)(vs:List V):St:=vs.map some++N8 (N.length - vs.length) none
def vg (CX:CXT)(P:NR)(w:N6)(K:NB)(mg:Str->Option NC)(base:Heap)(N:List Str)(qual:Str)(scope:Scope)(f:Addr)(cd:NC)(A:N7)(outer:List Env)(s:ND)(H:Hp)(E:XK):Cx where
 prog:=P
 w:=w
 K:=K
 mg:=mg
 base:=base
 A:=A.deeper (Rb qual scope s.heap.objs.size f cd)
 N:=N
 s₀:=s
 H₀:=H
 env:=Rb qual scope s.heap.objs.size f cd
 outer:=outer
 stack:=Rb qual scope s.heap.objs.size f cd::outer
 ex:=[]
 calm:=true
 fn:=λ_=>true
 pn:=[]
 xe:=λe s'=>NU (N3 P w) (A.deeper (Rb qual scope s.heap.objs.size f cd)) (leaving (Rb qual scope s.heap.objs.size f cd) e) (λ_ s''=>CX outer H s E e s'') (λe' s''=>CX outer H s E e' s'') s'
theorem uA {sc:Scope}{n:Nat}{x:Str}(h:sc.names.lookup x=some .cell):∃ c,(cellsFrom n sc.names []).lookup x=some c:=by
 have q:=RZ sc.names n [] (.inl h)
 exact Qd.mp q
theorem AH {CX:CXT}{P:NR}{w:N6}{K:NB}{mg:Str->Option NC}{base:Heap}{N ps:List Str}{qual:Str}{scope:Scope}{f:Addr}{cd:NC}{A:N7}{outer:List Env}{s s1:ND}{H:Hp}{E:XK}{us:List NC}{vs:List V}
  (S:aJ N ps scope) (hd:A.handled=none) (e0:FO P w K mg base A outer s H) (hl:vs.length=ps.length) (r:Vals vs us)
  (x:InCallC s s.heap.objs.size (UK (Rb qual scope s.heap.objs.size f cd).kindOf (ps.zip us) λ_=>none) (cellsFrom (s.heap.objs.size+1) scope.names []) (UL (Rb qual scope s.heap.objs.size f cd).kindOf (ps.zip us) λ_=>none) s1) :
  Inv (vg CX P w K mg base N qual scope f cd A outer s H E) [] (start N vs) H s1:=by
 have hpl:ps.length<=N.length:=by have:=congrArg PY S.pre;rw[QH] at this;omega
 obtain ⟨h1,tk,rfl,hk⟩:=x.done
 have noA:∀ b:Addr,b ∉ (vg CX P w K mg base N qual scope f cd A outer s H E).ex:=λb z=>absurd (show b∈([]:List Addr) from z) (by simp)
 refine ⟨⟨e0.mod,S.kind,rfl,rfl,NV _,λy z c h1 h2=>?_,λy hy=>?_,λy c _ h=>?_,λ_=>hd,Around.frames_deeper e0.frames,.inr ⟨rfl,rfl⟩,λb z=>absurd z (noA b),e0.bs,e0.bsz,λb _ _=>noA b,λb z=>absurd z (noA b),e0.nW,e0.frf⟩,
  rfl,e0.bare,Un.kept hk,⟨_,x.toInCall.ns,λi y v h1 h2 h3=>?_⟩,λy c h=>⟨_,x.cell y c h⟩,e0.hok.fresh (NV _),λy c h=>?_,λp hp=>absurd (show p∈([]:List (Addr×Obj)) from hp) (by simp),e0.hok.kept hk,?_⟩
 ·exact name_of_addr x.apart (ON h1) (ON h2)
 ·have hy:scope.names.lookup y=some .cell∨scope.names.lookup y=some .free:=hy
  rcases hy with hy | hy
  ·exact uA hy
  ·exact absurd rfl (S.IL _ (ON hy))
 ·exact RX (x.above y c (ON h))
 ·have hi:i < vs.length:=by
   unfold start at h2
   by_cases hi:i < vs.length
   ·exact hi
   ·rw[PZ (by simpa using hi)] at h2
    rw[RH] at h2
    split at h2<;>cases h2
  have ha:vs[i]? = some v:=by
   unfold start at h2
   rw[P7 (by simpa using hi),OF] at h2
   cases e:vs[i]? with
   | none=>rw[e] at h2;cases h2
   | some a=>rw[e] at h2;cases h2;rfl
  obtain ⟨u,hu,rv⟩:=r.get ha
  have hp:ps[i]? = some y:=by
   rw[← S.pre,List.getElem?_take_of_lt (by omega)];exact h1
  have ndP:ps.Nodup:=by rw[← S.pre];exact S.nd.sublist (List.take_sublist _ _)
  refine ⟨u,rv,?_⟩
  rcases S.par y (QU hp) with k | k
  ·exact .inl ⟨k,qm ndP hp hu k⟩
  ·obtain ⟨c,e⟩:=uA (n:=s.heap.objs.size+1) k
   refine .inr ⟨.inl k,c,e,?_⟩
   have q:=x.cell y c e
   rw[qN ndP hp hu (by show scope.names.lookup y≠_;rw[k];decide)] at q
   exact q
 ·exact e0.hok.fresh (RX (x.above y c (ON h)))
 ·unfold start
  show _=N.length
  rw[NW,NK,OY]
  omega
theorem K3 {CX:CXT}{P:NR}{w:N6}{K:NB}{mg:Str->Option NC}{base:Heap}{k:Nat}{f:Addr}{name qual:Str}{params:Arguments}{body:List Stmt}{scope:Scope}{dV kV doc pm cdv ct oc:NC}{an od:Option Addr}
  {osl:Array (Option NC)} {N ps:List Str} {sp:Sp} (lk:K.lookup f=some ⟨oc,od,.func (P5 name qual params body scope dV kV doc pm an cdv ct),osl⟩) (hcd:Sw K cdv qual=true) (S:aJ N ps scope)
  (len:∀ vs H Q E,sp vs H Q E->vs.length=ps.length)
  (hbody:∀ (A:N7) (outer:List Env) (s:ND) (H:Hp) (vs:List V) (Q:VK) (E:XK),fu k (A.deeper (Rb qual scope s.heap.objs.size f cdv))->sp vs H Q E->
   ∃ t,PSs (vg CX P w K mg base N qual scope f cdv A outer s H E) body t/\t { nx:=λ_ H'=>Q .non H',rt:=Q } (start N vs) H) :
  jy P w K mg base CX (k+1) f (P5 name qual params body scope dV kV doc pm an cdv ct) ps sp:=by
 refine ⟨len,λA outer s H args us vs Q E hr e0 hb r hsp=>?_⟩
 have hl:=len _ _ _ _ hsp
 have KX:K.In s.heap:=e0.mod.kin.keeps λb o e=>(e0.bs b o e).1
 have lim:s.heap.NoLimit:=e0.mod.nolimit.keeps λb o e=>(e0.bs b o e).1
 have gi:∀ y∈ps.zip us,scope.names.lookup y.1=some .local∨(scope.names.lookup y.1=some .cell/\((cellsFrom (s.heap.objs.size+1) scope.names []).lookup y.1).isSome=true):=λ⟨n,v⟩ hy=>by
  rcases S.par n (Sa hy).1 with q | q
  ·exact .inl q
  ·exact .inr ⟨q,RZ _ _ _ (.inl q)⟩
 refine codeAny_call_function hr.depth (KX _ _ lk) rfl S.co S.gen rfl (PySem.W.codeRec_of KX hcd) (hb _ _ _ _ ?_)
 refine wpAny_newFunctionEnv_cells S.kind gi λenv he s1 x=>?_
 subst he
 refine ⟨lim.keeps x.toInCall.keep,codeAny_func ?_⟩
 obtain ⟨t,ht,hq⟩:=hbody A outer s H vs Q E (hr.deeper _) hsp
 have I:Inv (vg CX P w K mg base N qual scope f cdv A outer s H E) [] (start N vs) H s1:=AH S hr.hd e0 hl r x
 refine O1 (ht [] s1 (start N vs) H _ I hq) (λfl s' hs=>?_) λe s' hs=>hs
 have fin:∀ {σ':St} {H':Hp} {v:V} {u:NC},Inv (vg CX P w K mg base N qual scope f cdv A outer s H E) [] σ' H' s'->RelV v u->Q v H'->CE outer P w H s Q u s':=
  λ{σ' H' v u} J rv q=>⟨v,H',J.os,J.bare,J.base,J.hok,rv,q⟩
 cases fl with
 | ret u=>
  obtain ⟨v,σ',H',J,rv,q⟩:=hs
  exact fin J rv q
 | next=>
  obtain ⟨σ',H',J,q⟩:=hs
  exact fin (v:=V.non) (u:=Pe) J rfl q
 | brk=>
  obtain ⟨_,_,_,q⟩:=hs
  exact NG q
 | cont=>
  obtain ⟨_,_,_,q⟩:=hs
  exact NG q
end L2
namespace L2
open PySem PySem.Spec PyProof.Rows
section
variable {X:Cx} {x:Str} {p pos:Pos} {e:N1} {es:List N1} {t:TA} {id T:String} {r:List V->Hp->VK->Prop}
def tCB (r:List V->Hp->VK->Prop)(t:TA):TE:=λσ H Q=>t σ H λvs H1=>r vs H1 Q
theorem nN (hc:cm X (.builtin id) r)(hg:Gl X x)(hm:X.mg x=none)(hv:Of x=some (.builtin id))(ha:PA X (e::es) t)(hn:x ≠ "__name__" := by decide)(hdb:(x == ("__debug__" : Str))=false:=by decide)
  (he:NL (e::es) X.env=(false,O4 e X.env)::NL es X.env:=by rfl) (hpl:(OB pos (NL es X.env)).any (·.1)=false:=by rfl):PE X (.Call (.Name x p) (e::es) [] pos) (tCB r t):=by
 intro pins s σ H Q I h
 refine Pg (jA I hg hm hv ?_ hn hdb)
 exact PC (thn (ha pos pins s σ H _ I h) λus s1 ⟨vs,H1,I1,r1,q1⟩=>hc pins s1 σ H1 vs us Q I1 r1 q1) he hpl
theorem qR (hc:cm X (.type T) r)(hg:Gl X x)(hm:X.mg x=none)(hv:Of x=some (.type T))(ha:PA X (e::es) t)(hn:x ≠ "__name__" := by decide)(hdb:(x == ("__debug__" : Str))=false:=by decide)
  (he:NL (e::es) X.env=(false,O4 e X.env)::NL es X.env:=by rfl) (hpl:(OB pos (NL es X.env)).any (·.1)=false:=by rfl):PE X (.Call (.Name x p) (e::es) [] pos) (tCB r t):=by
 intro pins s σ H Q I h
 refine Pg (jA I hg hm hv ?_ hn hdb)
 exact PQ (thn (ha pos pins s σ H _ I h) λus s1 ⟨vs,H1,I1,r1,q1⟩=>hc pins s1 σ H1 vs us Q I1 r1 q1) he hpl
end
end L2
namespace HT
open PySem PyProof.Rows
section
open PySem.SeqAt
open PySem.AutoSeq1 (wpAny_loadPart')
open PySem.MeetsSeq PySem.MeetsSeq2 PySem.MeetsSeq3
end
section
variable {prog:NR} {w:N6} {A:N7} {E:NC->ND->Prop} {s:ND}
theorem Gq {t b:Addr}{vs ws:List NC}{Q:NC->ND->Prop}(ht:IsTup s.heap t vs.toArray)(hb:IsTup s.heap b ws.toArray)(hv:vs≠[])
  (h1:ws=[]->Q (.ref t) s) (h2:ws≠[]->Q (.ref s.heap.objs.size) { s with heap:=s.heap.push { cls:=.type "tuple", data:=.seq (vs++ws).toArray } })
  (hsz:vs.length+ws.length<=sizeLine):NU (N3 prog w) A (Pt .Add (.ref t) (.ref b)) Q E s:=by
 obtain ⟨⟨cls,dd,data,sl⟩,ho,hc,n,hd⟩:=id ht
 obtain ⟨⟨cls2,dd2,data2,sl2⟩,ho2,hc2,n2,hd2⟩:=id hb
 simp only at hc hd hc2 hd2
 subst hc hd hc2 hd2
 have e:vs.toArray++ws.toArray=(vs++ws).toArray:=by simp
 by_cases hw:ws=[]
 ·exact R0 ⟨_,ho,rfl⟩ ⟨_,ho2,rfl⟩ RI SX Qx Ql (Qe _ _)
   (tuple_addW1 t b vs.toArray ws.toArray n n2 dd dd2 sl sl2 (by simpa using hv) (by simp[hw])) ⟨ho,ho2,h1 hw⟩
 ·refine R0 ⟨_,ho,rfl⟩ ⟨_,ho2,rfl⟩ RI SX Qx Ql (Qe _ _)
   (tuple_addW2 t b vs.toArray ws.toArray n n2 dd dd2 sl sl2 (by simpa using hv) (by simpa using hw) (by rw[NS,NS];exact hsz)) ⟨ho,ho2,?_⟩
  rw[e]
  exact h2 hw
def sIx (n d:Nat):Option Int->Nat
 | none=>d
 | some v=>if v < 0 then (v+(n:Int)).toNat else min v.toNat n
theorem BP (n d:Nat):sIx n d none=d:=rfl
theorem Gu (n d k:Nat):sIx n d (some (k:Int))=min k n:=by
 show (if (k:Int) < 0 then ((k:Int)+(n:Int)).toNat else min (k:Int).toNat n)=min k n
 rw[if_neg (by omega),Ox]
theorem IJ (n d:Nat)(hd:d<=n)(o:Option Int):sIx n d o<=n:=by
 cases o with
 | none=>exact hd
 | some v=>
  show (if v < 0 then (v+(n:Int)).toNat else min v.toNat n)<=n
  by_cases hv:v < 0
  ·rw[if_pos hv];omega
  ·rw[if_neg hv];exact Nat.min_le_right _ _
theorem y9 (v:Int)(n d:Nat):(if v < 0 then max (v+(n:Int)) 0 else min v (n:Int))=((sIx n d (some v):Nat):Int):=by
 show (if v < 0 then max (v+(n:Int)) 0 else min v (n:Int))=(((if v < 0 then (v+(n:Int)).toNat else min v.toNat n):Nat):Int)
 by_cases hv:v < 0
 ·simp only[if_pos hv];omega
 ·simp only[if_neg hv];omega
theorem wI (lo hi:Option Int)(n:Nat):P8 lo hi 1 (n:Int)=(((sIx n 0 lo:Nat):Int),((sIx n n hi:Nat):Int)):=by
 have h1:¬ ((1:Int) < 0):=by omega
 unfold P8
 simp only[h1,if_false]
 refine Prod.ext ?_ ?_
 ·cases lo with
  | none=>rfl
  | some v=>exact y9 v n 0
 ·cases hi with
  | none=>rfl
  | some v=>exact y9 v n n
theorem yp (i j:Nat):Pl (i:Int) (j:Int) 1=j - i:=by
 unfold Pl
 have h1:(1:Int) > 0:=by omega
 simp only[h1,if_true,Int.ediv_one]
 split<;>omega
theorem oj {v:NC}{o:Option Int}{Q:Option Int->ND->Prop}(p:IsPart v o)(h:Q o s):NU (N3 prog w) A (Uq v) Q E s:=by
 cases p with
 | none=>exact slicePart_none h
 | int i t=>exact slicePart_int h
theorem fV {sl:Addr}{vl vu:NC}{lo hi:Option Int}{n:Nat}{Q:Int×Int×Nat->ND->Prop}(hs:s.heap.IsSliceOf sl vl vu .none)(pl:IsPart vl lo)(pu:IsPart vu hi)
  (h:Q (((sIx n 0 lo:Nat):Int),1,sIx n n hi - sIx n 0 lo) s):NU (N3 prog w) A (Rc (.ref sl) (pure (n:Int))) Q E s:=by
 obtain ⟨os,hos,hcs,hds⟩:=id hs
 unfold Rc U0
 refine wpAny_bind (wpAny_bind (Uk hos hds (x:=vl) rfl (wpAny_bind (Uk hos hds (x:=vu) rfl (wpAny_bind (Uk hos hds (x:=.none) rfl (wpAny_pure ?_)))))))
 refine wpAny_bind (slicePart_none ?_)
 show NU _ _ (if ((1:Int) == 0)=true then _ else _) _ _ s
 rw[if_neg (by decide)]
 refine wpAny_bind (oj pl (wpAny_bind (oj pu (wpAny_bind (wpAny_pure ?_)))))
 show NU _ _ (match P8 lo hi 1 (n:Int) with | (lo,hi)=>pure (lo,(1:Int),Pl lo hi 1)) _ _ s
 rw[wI lo hi n]
 show NU _ _ (pure (((sIx n 0 lo:Nat):Int),(1:Int),Pl ((sIx n 0 lo:Nat):Int) ((sIx n n hi:Nat):Int) 1)) _ _ s
 rw[yp]
 exact wpAny_pure h
theorem Dz (xs:Array NC)(i k:Nat):((OR k).filterMap λ(m:Nat)=>xs[((i:Int)+(m:Int)*1).toNat]?).toArray=((xs.toList.drop i).take k).toArray:=by
 have e:(λ(m:Nat)=>xs[((i:Int)+(m:Int)*1).toNat]?)=λm=>xs[i+m]?:=by
  funext m
  have:((i:Int)+(m:Int)*1).toNat=i+m:=by omega
  rw[this]
 rw[e]
 have:=pick_run xs i k
 rw[List.filterMap_map] at this
 have e2:((λx=>xs[x]?) ∘ λx=>i+x)=λm=>xs[i+m]?:=rfl
 rw[e2] at this
 rw[this]
theorem kf {t sl:Addr}{items:Array NC}{vl vu:NC}{lo hi:Option Int}{Q:NC->ND->Prop}(ht:IsTup s.heap t items)(hs:s.heap.IsSliceOf sl vl vu .none)(pl:IsPart vl lo)(pu:IsPart vu hi)
  (hw:¬ (sIx items.size 0 lo=0/\sIx items.size items.size hi=items.size))
  (h:Q (.ref s.heap.objs.size) { s with heap:=s.heap.push { cls:=.type "tuple", data:=.seq ((items.toList.drop (sIx items.size 0 lo)).take (sIx items.size items.size hi - sIx items.size 0 lo)).toArray } })
  (hsz:items.size<=sizeLine):NU (N3 prog w) A (SM (.ref t) (.ref sl)) Q E s:=by
 have zc:sizeOk (.seq ((items.toList.drop (sIx items.size 0 lo)).take (sIx items.size items.size hi - sIx items.size 0 lo)).toArray):=by
  show ((items.toList.drop (sIx items.size 0 lo)).take (sIx items.size items.size hi - sIx items.size 0 lo)).toArray.size<=sizeLine
  rw[NS,QH,QI,OM]
  omega
 have hj:sIx items.size items.size hi<=items.size:=IJ _ _ (NV _) hi
 obtain ⟨os,hos,hcs,hds⟩:=id hs
 have hTs:s.TypeIs (.ref sl) "slice" := ⟨os,hos,hcs⟩
 unfold SM
 try with_reducible refine wpAny_holding ?_
 first | refine wpAny_bind (wpAny_pure ?_) | skip
 refine wpAny_bind (TJ ht.typeIs (by decide) ?_)
 refine wpAny_bind (OH (name:=NA "__getitem__") ht.typeIs Ol
  (OK Ol ht.typeIs SQ ?_ (Tq _ _)))
 show NU _ _ (Rf (.ref t) >>= _) _ _ s
 refine wpAny_bind (tupleItemsOf_ ht ?_)
 refine wpAny_bind (wpAny_typeOf hTs ?_)
 rw[if_pos (by decide)]
 refine wpAny_bind (fV hs pl pu ?_)
 have hno:¬ ((((sIx items.size 0 lo:Nat):Int) == 0&&(1:Int) == 1&&(sIx items.size items.size hi - sIx items.size 0 lo) == items.size)=true):=by
  intro q
  rw[NO,NO] at q
  have q1:((sIx items.size 0 lo:Nat):Int)=0:=eq_of_beq q.1.1
  have q2:sIx items.size items.size hi - sIx items.size 0 lo=items.size:=eq_of_beq q.2
  exact hw ⟨by omega,by omega⟩
 show NU _ _ (if (((sIx items.size 0 lo:Nat):Int) == 0&&(1:Int) == 1&&(sIx items.size items.size hi - sIx items.size 0 lo) == items.size)=true then _ else _) _ _ s
 rw[if_neg hno,Dz]
 first
  | exact wpAny_bind (m:=Px _) (OS (wpAny_pure ⟨_,rfl,wpAny_pure h⟩) zc)
  | exact wpAny_bind (m:=Px _) (OS (wpAny_bind (wpAny_pure (wpAny_pure ⟨_,rfl,wpAny_pure h⟩))) zc)
  | exact wpAny_bind (wpAny_bind (m:=Px _) (OS (wpAny_pure (wpAny_pure ⟨_,rfl,wpAny_pure h⟩)) zc))
  | exact wpAny_bind (wpAny_bind (m:=Px _) (OS (wpAny_pure ⟨_,rfl,wpAny_pure h⟩) zc))
end
end HT
namespace L2
open PySem PySem.Spec PyProof.Rows
abbrev TO:=St->Hp->(Option Int->Hp->Prop)->Prop
def PO (X:Cx)(e:Option N1)(t:TO):Prop:=
 ∀ (pins:List (Addr×Obj)) (s:ND) (σ:St) (H:Hp) (Q:Option Int->Hp->Prop),Inv X pins σ H s->t σ H Q->
  NU (N3 X.prog X.w) X.A (evalPart e X.env) (λu s'=>∃ o H',Inv X pins σ H' s'/\IsPart u o/\Q o H') X.xe s
def ED:TO:=λ_ H Q=>Q none H
def L4 (t:TE):TO:=λσ H Q=>t σ H λx H1=>∃ i,x=.int i/\Q (some i) H1
section
variable {X:Cx} {e:N1} {te:TE} {lo hi:Option N1} {tl th:TO} {pos p2:Pos}
theorem Gg:PO X none ED:=by
 intro pins s σ H Q I h
 rw[evalPart_none]
 exact wpAny_pure ⟨none,H,I,.none,h⟩
theorem El (h:PE X e te):PO X (some e) (L4 te):=by
 intro pins s σ H Q I hw
 rw[evalPart_some]
 refine thn (h pins s σ H _ I hw) λu s1 ⟨x,H1,I1,r1,q1⟩=>?_
 obtain ⟨i,rfl,q⟩:=q1
 obtain ⟨t,rfl⟩:=r1
 exact ⟨some i,H1,I1,.int i t,q⟩
def SlR (X:Cx)(r:V->Option Int->Option Int->Hp->VK->Prop):Prop:=
 ∀ (pins:List (Addr×Obj)) (s:ND) (σ:St) (H:Hp) (x:V) (v vl vu:NC) (lo hi:Option Int) (sl:Addr) (Q:VK),Inv X pins σ H s->RelV x v->s.heap.IsSliceOf sl vl vu .none->IsPart vl lo->IsPart vu hi->r x lo hi H Q->
  ∃ T id,typeLookup (.type T) "__getitem__" = pure (some (.builtin id))/\s.TypeIs v T/\NU (N3 X.prog X.w) X.A (SM v (.ref sl)) (EP X pins σ Q) X.xe s
theorem SlR.or {r r':V->Option Int->Option Int->Hp->VK->Prop}(h:SlR X r)(h':SlR X r'):SlR X (λx lo hi H Q=>r x lo hi H Q∨r' x lo hi H Q):=by
 intro pins s σ H x v vl vu lo hi sl Q I rx hs pl pu q
 rcases q with q | q
 ·exact h pins s σ H x v vl vu lo hi sl Q I rx hs pl pu q
 ·exact h' pins s σ H x v vl vu lo hi sl Q I rx hs pl pu q
def tSl (r:V->Option Int->Option Int->Hp->VK->Prop)(te:TE)(tl th:TO):TE:=λσ H Q=>te σ H λx H1=>tl σ H1 λl H2=>th σ H2 λu H3=>r x l u H3 Q
theorem Ck {r:V->Option Int->Option Int->Hp->VK->Prop}(hr:SlR X r)(he:PE X e te)(hl:PO X lo tl)(hu:PO X hi th):PE X (.Subscript e (.Slice lo hi none p2) pos) (tSl r te tl th):=by
 intro pins s σ H Q I h
 refine Subscript_ (thn (he pins s σ H _ I h) λv s1 ⟨x,H1,I1,r1,q1⟩=>?_)
 refine wpAny_Slice (thn (hl pins s1 σ H1 _ I1 q1) λvl s2 ⟨l,H2,I2,pl,q2⟩=>thn (hu pins s2 σ H2 _ I2 q2) λvu s3 ⟨u,H3,I3,pu,q3⟩=>?_)
 rw[evalPart_none]
 refine wpAny_pure ?_
 have I4:Inv X pins σ H3 { s3 with heap:=s3.heap.push { cls:=.type "slice", data:=.fields #[vl,vu,.none] } }:=I3.kept (t':=s3.toks) λb ob q=>NF _ q
 obtain ⟨T,id,hT,ht,hg⟩:=hr pins { s3 with heap:=s3.heap.push { cls:=.type "slice", data:=.fields #[vl,vu,.none] } } σ H3 x v vl vu l u s3.heap.objs.size Q I4 r1 (Vo ..) pl pu q3
 show NU (N3 X.prog X.w) X.A (subscriptTail e (.Slice lo hi none p2) v (.ref s3.heap.objs.size)) (EP X pins σ Q) X.xe { s3 with heap:=s3.heap.push { cls:=.type "slice", data:=.fields #[vl,vu,.none] } }
 exact tail_any (ops:=[.ref s3.heap.objs.size,v]) ht hT hg (by with_unfolding_all rfl)
def vo (xs:List V)(lo hi:Option Int):List V:=(xs.drop (HT.sIx xs.length 0 lo)).take (HT.sIx xs.length xs.length hi - HT.sIx xs.length 0 lo)
theorem lR (xs:List V)(lo hi:Option Int):(vo xs lo hi).length<=xs.length:=by
 unfold vo
 rw[QH,QI]
 omega
def Nx (K:NB):V->Option Int->Option Int->Hp->VK->Prop:=λx lo hi H Q=>∃ a xs,x=.ref a/\SqT K H a xs/\
 ¬ (HT.sIx xs.length 0 lo=0/\HT.sIx xs.length xs.length hi=xs.length)/\∀ p,H p=none->Q (.ref p) (upd H p (.tup (vo xs lo hi)))
theorem ID:SlR X (Nx X.K):=by
 intro pins s σ H x v vl vu lo hi sl Q I rx hs pl pu h
 obtain ⟨a,xs,rfl,hx,hw,q⟩:=h
 cases rx
 obtain ⟨its,r,ht,hz⟩:=I.tuple hx
 have hlen:its.toArray.size=xs.length:=by rw[NS];exact r.length.symm
 refine ⟨"tuple", _,Ol.lookup,ht.typeIs,?_⟩
 refine HT.kf ht hs pl pu (by rw[hlen];exact hw) ?_ (by rw[hlen];exact hz)
 rw[hlen]
 refine ⟨.ref s.heap.objs.size,_,I.laid (t':=s.toks) (o:=.tup (vo xs lo hi)) (λb ob q=>NF _ q) (NV _) ?_,rfl,q _ (I.hok.fresh (NV _))⟩
 exact ⟨OJ (lR xs lo hi) hz,_,(r.drop (HT.sIx xs.length 0 lo)).take (HT.sIx xs.length xs.length hi - HT.sIx xs.length 0 lo),ve.new _ _⟩
def G6 (K:NB):R2:=λx y H Q=>∃ a b xs ys,x=.ref a/\y=.ref b/\SqT K H a xs/\SqT K H b ys/\xs≠[]/\xs.length+ys.length<=sizeLine/\
 (ys=[]->Q (.ref a) H)/\(ys≠[]->∀ p,H p=none->Q (.ref p) (upd H p (.tup (xs++ys))))
theorem Vals.sS {xs:List V}{us:List NC}(r:Vals xs us):us=[]↔xs=[]:=by
 cases r with
 | nil=>simp
 | cons _ _=>simp
theorem F5:OpR X (Pt .Add) (G6 X.K):=by
 intro pins s σ H x y v u Q I rx ry h
 obtain ⟨a,b,xs,ys,rfl,rfl,ha,hb,hx,hz,q1,q2⟩:=h
 cases rx
 cases ry
 obtain ⟨its,r1,p1,_⟩:=I.tuple ha
 obtain ⟨its2,r2,p2,_⟩:=I.tuple hb
 refine HT.Gq p1 p2 (λz=>hx (r1.sS.mp z)) (λz=>⟨.ref a,H,I,rfl,q1 (r2.sS.mp z)⟩) (λz=>?_) (by rw[← r1.length,← r2.length];exact hz)
 refine ⟨.ref s.heap.objs.size,_,I.laid (t':=s.toks) (o:=.tup (xs++ys)) (λb ob q=>NF _ q) (NV _) ?_,rfl,q2 (λw=>z (r2.sS.mpr w)) _ (I.hok.fresh (NV _))⟩
 exact ⟨by rw[NW];exact hz,_,r1.append r2,ve.new _ _⟩
end
end L2
namespace L2
open PySem PySem.Spec PyProof.Rows
def ixN (n:Nat)(i:Int):Option Nat:=if 0<=i then (if i < n then some i.toNat else none) else if -(n:Int)<=i then some (i+n).toNat else none
def atI {α:Type}(xs:List α)(i:Int):Option α:=(ixN xs.length i).bind λj=>xs[j]?
theorem zh {n:Nat}{i:Int}{j:Nat}(h:ixN n i=some j):seqIndex? i n=some j/\j < n/\-(n:Int)<=i/\i < n:=by
 unfold ixN at h
 by_cases h0:0<=i
 ·rw[if_pos h0] at h
  by_cases h1:i < n
  ·rw[if_pos h1] at h
   have e:i.toNat=j:=Oq h
   exact ⟨by rw[Ul h0 h1,e],by omega,by omega,h1⟩
  ·rw[if_neg h1] at h;cases h
 ·rw[if_neg h0] at h
  by_cases h1:-(n:Int)<=i
  ·rw[if_pos h1] at h
   have e:(i+n).toNat=j:=Oq h
   exact ⟨by rw[TK (by omega) h1,e],by omega,h1,by omega⟩
  ·rw[if_neg h1] at h;cases h
theorem rS {α:Type}{xs:List α}{i:Int}{v:α}(h:atI xs i=some v):∃ j,seqIndex? i xs.length=some j/\xs[j]? = some v/\j < xs.length/\-(xs.length:Int)<=i/\i < xs.length:=by
 unfold atI at h
 cases e:ixN xs.length i with
 | none=>rw[e] at h;cases h
 | some j=>
  rw[e] at h
  obtain ⟨h1,h2,h3,h4⟩:=zh e
  exact ⟨j,h1,h,h2,h3,h4⟩
def mI (b:N1):Prop:=∀ o i,subscripted b false o i=operate [o,i] (SM o i)
def IxR (X:Cx)(r:R2):Prop:=
 ∀ (value slice:N1) (pins:List (Addr×Obj)) (s:ND) (σ:St) (H:Hp) (x y:V) (v u:NC) (Q:VK),Inv X pins σ H s->RelV x v->RelV y u->r x y H Q->
  subscripted slice false v u=operate [v,u] (SM v u)->NU (N3 X.prog X.w) X.A (subscriptTail value slice v u) (EP X pins σ Q) X.xe s
def MtR (X:Cx)(id:String)(r:V->List V->Hp->VK->Prop):Prop:=
 ∀ (pins:List (Addr×Obj)) (s:ND) (σ:St) (H:Hp) (x:V) (xs:List V) (v:NC) (us:List NC) (Q:VK),Inv X pins σ H s->RelV x v->Vals xs us->r x xs H Q->
  NU (N3 X.prog X.w) X.A (call (.builtin id) (v::us)) (EP X pins σ Q) X.xe s
section
variable {X:Cx} {a b:N1} {ta tb:TE} {pos:Pos}
theorem IxR.or {r r':R2}(h:IxR X r)(h':IxR X r'):IxR X (λx y H Q=>r x y H Q∨r' x y H Q):=by
 intro value slice pins s σ H x y v u Q I rx ry q hs
 rcases q with q | q
 ·exact h value slice pins s σ H x y v u Q I rx ry q hs
 ·exact h' value slice pins s σ H x y v u Q I rx ry q hs
theorem CL {r:R2}(hr:IxR X r)(ha:PE X a ta)(hb:PE X b tb)(hs:mI b):PE X (.Subscript a b pos) (tOp r ta tb):=by
 intro pins s σ H Q I h
 exact Subscript_ (HG ha hb I h λv u s2 x y H2 I2 rx ry q=>hr a b pins s2 σ H2 x y v u Q I2 rx ry q (hs _ _))
def KL (K:NB):R2:=λx y H Q=>∃ p xs i v,x=.ref p/\y=.int i/\SqL K H p xs/\atI xs i=some v/\Q v H
def KJ (K:NB):R2:=λx y H Q=>∃ p xs i v,x=.ref p/\y=.int i/\SqT K H p xs/\atI xs i=some v/\Q v H
def JE:R2:=λx y H Q=>∃ z i c,x=.str z/\y=.int i/\z.length<=sizeLine/\atI z.cps.toList i=some c/\Q (.str ⟨#[c]⟩) H
theorem FJ:IxR X (KL X.K):=by
 intro value slice pins s σ H x y v u Q I rx ry h hs
 obtain ⟨p,xs,i,z,rfl,rfl,hq,he,q⟩:=h
 cases rx
 obtain ⟨t,rfl⟩:=ry
 obtain ⟨its,r,pl,hz⟩:=I.list hq
 obtain ⟨j,h1,h2,h3,h4,h5⟩:=rS he
 obtain ⟨w,ew,rw'⟩:=r.get h2
 have hl:=r.length
 have hn:=kQ
 have fin:EP X pins σ Q w s:=⟨z,H,I,rw',q⟩
 by_cases h0:0<=i
 ·have hj:i.toNat=j:=by
   rw[Ul h0 h5] at h1
   exact Oq h1
  exact item_listR pl.isList h0 (by omega) (by rw[hj];simpa using ew) fin hs
 ·have hj:(i+(its.toArray.size:Int)).toNat=j:=by
   rw[TK (by omega) h4] at h1
   rw[NS,← hl]
   exact Oq h1
  exact R4 (x:=w) pl.isList.typeIs TL.lookup
   (wpAny_getItem_list_neg (Q:=λr s'=>r=w/\EP X pins σ Q r s') pl.isList (by omega) (by rw[NS]<;>omega) (by omega) (by rw[hj];simpa using ew) ⟨rfl,fin⟩) hs
theorem JR:IxR X (KJ X.K):=by
 intro value slice pins s σ H x y v u Q I rx ry h hs
 obtain ⟨p,xs,i,z,rfl,rfl,hq,he,q⟩:=h
 cases rx
 obtain ⟨t,rfl⟩:=ry
 obtain ⟨its,r,pl,hz⟩:=I.tuple hq
 obtain ⟨j,h1,h2,h3,h4,h5⟩:=rS he
 obtain ⟨w,ew,rw'⟩:=r.get h2
 have hl:=r.length
 have hn:=kQ
 have fin:EP X pins σ Q w s:=⟨z,H,I,rw',q⟩
 exact R4 (x:=w) pl.typeIs slot_tuple_getitem.lookup
  (getItem_tuple (j:=j) (Q:=λr s'=>r=w/\EP X pins σ Q r s') pl (by omega) (by omega) (by rw[NS,← hl];exact h1) (by simpa using ew) ⟨rfl,fin⟩) hs
theorem DZ:IxR X JE:=by
 intro value slice pins s σ H x y v u Q I rx ry h hs
 obtain ⟨z,i,c,rfl,rfl,hz,he,q⟩:=h
 obtain ⟨t,rfl⟩:=rx
 obtain ⟨t',rfl⟩:=ry
 obtain ⟨j,h1,h2,h3,h4,h5⟩:=rS he
 have hl:z.cps.toList.length=z.length:=by simp[Str.length]
 rw[hl] at h1 h4 h5
 have hn:=kQ
 exact tail_any (typeIs_str s z t) slot_str_getitem.lookup (getItem_str (c:=c) (by
  have e1:decide (i < -(2 ^ 63:Int))=false:=decide_eq_false (by omega)
  have e2:decide (i ≥ 2 ^ 63)=false:=decide_eq_false (by omega)
  rw[e1,e2,SY]) (by rw[h1];simpa using h2) ⟨.str ⟨#[c]⟩,H,I.tok _,⟨_,rfl⟩,q⟩) hs
def rIx (K:NB):R2:=λx y H Q=>KL K x y H Q∨KJ K x y H Q∨JE x y H Q
theorem IH:IxR X (rIx X.K):=FJ.or (JR.or DZ)
theorem yn (its:List NC)(n j:Nat)(u:NC):PJ (·.setIfInBounds j u) { cls:=.type "list", data:=.seq its.toArray n }={ cls:=.type "list", data:=.seq (its.set j u).toArray n }:=by
 simp[PJ]
theorem Inv.lst {pins:List (Addr×Obj)}{σ:St}{H:Hp}{s:ND}{p:Addr}{xs:List V}(I:Inv X pins σ H s)(h:H p=some (.lst xs)) :
  ∃ (its:List NC) (n:Nat),Vals xs its/\s.heap.get? p=some { cls:=.type "list", data:=.seq its.toArray n }/\xs.length<=sizeLine:=by
 obtain ⟨z,its,n,r,e⟩:=I.hok p _ h
 exact ⟨its,n,r,e,z⟩
theorem Inv.Ki {pins:List (Addr×Obj)}{σ:St}{H:Hp}{s:ND}{p:Addr}{xs ys:List V}{its its':List NC}{n n':Nat}{f:Obj->Obj}(I:Inv X pins σ H s)(h:H p=some (.lst xs))
  (ho:s.heap.get? p=some { cls:=.type "list", data:=.seq its.toArray n }) (hf:f { cls:=.type "list", data:=.seq its.toArray n }={ cls:=.type "list", data:=.seq its'.toArray n' }) (r:Vals ys its') (hz:ys.length<=sizeLine) (t:Nat) :
  Inv X pins σ (upd H p (.lst ys)) { s with heap:=s.heap.update p f,toks:=t }:=by
 have e:(s.heap.update p f).get? p=some { cls:=.type "list", data:=.seq its'.toArray n' }:=by
  rw[Om f ho (by rw[hf]<;>rfl),hf]
 refine I.write (x:=p) (e:=p) (by rw[h];trivial) (.inl rfl) (λb u hb q=>(Oi _ _ (Pz hb)).trans q) ⟨_,e⟩ ?_
 exact ⟨hz,its',n',r,e⟩
def KG:V->V->V->Hp->(Hp->Prop)->Prop:=λo i v H Q=>∃ p xs k j,o=.ref p/\i=.int k/\H p=some (.lst xs)/\ixN xs.length k=some j/\Q (upd H p (.lst (xs.set j v)))
theorem set_list:LB X KG:=by
 intro pins s σ H o i v ov iv u Q I ro ri rv h
 obtain ⟨p,xs,k,j,rfl,rfl,hp,hj,q⟩:=h
 cases ro
 obtain ⟨t,rfl⟩:=ri
 obtain ⟨its,n,r,ho,hz⟩:=I.lst hp
 obtain ⟨h1,h2,h3,h4⟩:=zh hj
 have hl:=r.length
 have hn:=kQ
 have I':Inv X pins σ (upd H p (.lst (xs.set j v))) { s with heap:=s.heap.update p (PJ (·.setIfInBounds j u)) }:=
  I.Ki hp ho (yn its n j u) (r.set rv j) (by rw[List.length_set];exact hz) s.toks
 by_cases h0:0<=k
 ·have hk:k.toNat=j:=by
   rw[Ul h0 h4] at h1
   exact Oq h1
  exact PySem.W.ki_setAt ho h0 (by omega) (by rw[NS,← hl];exact h4) (by rw[hk];exact ⟨_,I',q⟩)
 ·have hk:(k+(its.toArray.size:Int)).toNat=j:=by
   rw[TK (by omega) h3] at h1
   rw[NS,← hl]
   exact Oq h1
  exact PySem.W.ki_setBack ho (by omega) (by rw[NS,← hl];exact h3) (by omega) (by rw[hk];exact ⟨_,I',q⟩)
theorem rY (lo hi:Option Int)(n:Nat):(Qm lo hi none n).1=((HT.sIx n 0 lo:Nat):Int)/\(Qm lo hi none n).2.1=((HT.sIx n n hi:Nat):Int)/\(Qm lo hi none n).2.2=1:=by
 refine ⟨?_,?_,rfl⟩
 ·cases lo with
  | none=>simp[Qm,HT.sIx]
  | some i=>
   simp only[Qm,HT.sIx,Ug,show (1:Int) > 0 by decide,if_true]
   by_cases h:i < 0
   ·simp only[h,if_true]<;>omega
   ·simp only[h,if_false]<;>omega
 ·cases hi with
  | none=>simp[Qm,HT.sIx]
  | some i=>
   simp only[Qm,HT.sIx,Ug,show (1:Int) > 0 by decide,if_true]
   by_cases h:i < 0
   ·simp only[h,if_true]<;>omega
   ·simp only[h,if_false]<;>omega
theorem pq (its:List NC)(lo hi:Option Int):slicePick its.toArray lo hi none=((its.drop (HT.sIx its.length 0 lo)).take (HT.sIx its.length its.length hi - HT.sIx its.length 0 lo)).toArray:=by
 obtain ⟨h1,h2,h3⟩:=rY lo hi its.toArray.size
 unfold slicePick
 rw[h1,h2,h3]
 simp only[sliceRange_one,pick_run,NS]<;>rfl
def MQ (K:NB):V->Option Int->Option Int->Hp->VK->Prop:=λx lo hi H Q=>∃ a xs,x=.ref a/\SqL K H a xs/\∀ p,H p=none->Q (.ref p) (upd H p (.lst (vo xs lo hi)))
theorem Eo:SlR X (MQ X.K):=by
 intro pins s σ H x v vl vu lo hi sl Q I rx hs pl pu h
 obtain ⟨a,xs,rfl,hx,q⟩:=h
 cases rx
 obtain ⟨its,r,ht,hz⟩:=I.list hx
 have hlen:=r.length
 refine ⟨"list", _,TL.lookup,ht.isList.typeIs,?_⟩
 refine wpAny_getItem_list_slice ht.isList hs pl pu .none (by simp) ?_ (by rw[NS]<;>omega)
 rw[pq,← hlen]
 refine ⟨.ref s.heap.objs.size,_,I.laid (t':=s.toks) (o:=.lst (vo xs lo hi)) (λb ob q=>NF _ q) (NV _) ?_,rfl,q _ (I.hok.fresh (NV _))⟩
 exact ⟨OJ (lR xs lo hi) hz,_,0,(r.drop (HT.sIx xs.length 0 lo)).take (HT.sIx xs.length xs.length hi - HT.sIx xs.length 0 lo),NT _ rfl⟩
def GY:V->Bool
 | .non=>true
 | .bl _=>true
 | .int _=>true
 | .str _=>true
 | _=>false
def eqV:V->V->Bool
 | .non,.non=>true
 | .bl a,.bl b=>a == b
 | .bl a,.int b=>(if a then 1 else 0) == b
 | .int a,.bl b=>a == (if b then 1 else 0)
 | .int a,.int b=>a == b
 | .str a,.str b=>a == b
 | _,_=>false
def inV (x:V)(xs:List V):Bool:=xs.any λy=>eqV y x
def rIn (K:NB)(neg:Bool):R2:=λx y H Q=>∃ p xs,y=.ref p/\(SqL K H p xs∨SqT K H p xs)/\GY x=true/\xs.all GY=true/\Q (.bl (if neg then !inV x xs else inV x xs)) H
theorem rn:cm X (.builtin "len") (λxs H Q=>∃ p ys,xs=[.ref p]/\(SqL X.K H p ys∨SqT X.K H p ys)/\Q (.int ys.length) H):=by
 intro pins s σ H xs us Q I r h
 obtain ⟨p,ys,rfl,hq,q⟩:=h
 obtain ⟨u,rfl,rx⟩:=vals1 r
 cases rx
 have hn:=kQ
 rcases hq with hq | hq
 ·obtain ⟨its,r',pl,hz⟩:=I.list hq
  have hlen:=r'.length
  exact Calls.call_len_list pl.isList (by simp only[NS]<;>omega) ⟨.int ys.length,H,I.tok _,⟨s.toks+1,by rw[NS,hlen]⟩,q⟩
 ·obtain ⟨its,r',pl,hz⟩:=I.tuple hq
  have hlen:=r'.length
  exact len_tuple pl (by simp only[NS]<;>omega) ⟨.int ys.length,H,I.tok _,⟨s.toks+1,by rw[NS,hlen]⟩,q⟩
theorem sR:cm X (.builtin "len") (λxs H Q=>∃ z,xs=[.str z]/\z.length<=sizeLine/\Q (.int z.length) H):=by
 intro pins s σ H xs us Q I r h
 obtain ⟨z,rfl,hz,q⟩:=h
 obtain ⟨u,rfl,t,rfl⟩:=vals1 r
 have hn:=kQ
 exact len_str (by omega) ⟨.int z.length,H,I.tok _,⟨_,rfl⟩,q⟩
theorem cm.or {f:NC}{r r':List V->Hp->VK->Prop}(h:cm X f r)(h':cm X f r'):cm X f (λxs H Q=>r xs H Q∨r' xs H Q):=by
 intro pins s σ H xs us Q I rs q
 rcases q with q | q
 ·exact h pins s σ H xs us Q I rs q
 ·exact h' pins s σ H xs us Q I rs q
theorem sZ:cm X (.type "list") (λxs H Q=>∃ p ys,xs=[.ref p]/\(SqL X.K H p ys∨SqT X.K H p ys)/\∀ l,H l=none->Q (.ref l) (upd H l (.lst ys))):=by
 intro pins s σ H xs us Q I r h
 obtain ⟨p,ys,rfl,hq,q⟩:=h
 obtain ⟨u,rfl,rx⟩:=vals1 r
 cases rx
 have fin:∀ (its:List NC),Vals ys its->ys.length<=sizeLine->∀ (h':Heap) (c':Nat),(∀ b o',s.heap.get? b=some o'->h'.get? b=some o')->
   h'.get? s.heap.objs.size=some { cls:=.type "list", dict:=none,data:=.seq its.toArray c',slots:=#[] }->EP X pins σ Q (.ref s.heap.objs.size) { s with heap:=h' }:=λits r' hz h' c' kp e=>
  ⟨.ref s.heap.objs.size,_,I.laid (t':=s.toks) kp (NV _) (show cK X.prog X.w _ h' _ (.lst ys) from ⟨hz,its,c',r',e⟩),rfl,q _ (I.hok.fresh (NV _))⟩
 rcases hq with hq | hq
 ·obtain ⟨its,r',pl,hz⟩:=I.list hq
  have hlen:=r'.length
  obtain ⟨o,ho,hc,n,hd⟩:=pl.isList
  exact call_list_seq p (.inl rfl) ho hc hd (λh' c' kp e=>fin its r' hz h' c' kp e) (by simp only[NS]<;>omega)
 ·obtain ⟨its,r',pl,hz⟩:=I.tuple hq
  have hlen:=r'.length
  obtain ⟨o,ho,hc,n,hd⟩:=pl
  exact call_list_seq p (.inr rfl) ho hc hd (λh' c' kp e=>fin its r' hz h' c' kp e) (by simp only[NS]<;>omega)
theorem bz:cm X (.type "tuple") (λxs H Q=>∃ p ys,xs=[.ref p]/\((SqL X.K H p ys/\∀ l,H l=none->Q (.ref l) (upd H l (.tup ys)))∨(SqT X.K H p ys/\Q (.ref p) H))):=by
 intro pins s σ H xs us Q I r h
 obtain ⟨p,ys,rfl,h⟩:=h
 obtain ⟨u,rfl,rx⟩:=vals1 r
 cases rx
 rcases h with ⟨hq,q⟩ | ⟨hq,q⟩
 ·obtain ⟨its,r',pl,hz⟩:=I.list hq
  have hlen:=r'.length
  refine call_tuple_list pl.isList (λh' kp=>?_) (by simp only[NS]<;>omega)
  have I1:Inv X pins σ H { s with heap:=h' }:=I.kept (t':=s.toks) kp
  have I2:Inv X pins σ (upd H h'.objs.size (.tup ys)) { s with heap:=h'.push { cls:=.type "tuple", data:=.seq its.toArray } }:=
   I1.laid (t':=s.toks) (λb o e=>NF _ e) (NV _) (show cK X.prog X.w _ _ _ (.tup ys) from ⟨hz,its,r',ve.new _ _⟩)
  exact ⟨.ref h'.objs.size,_,I2,rfl,q _ (I1.hok.fresh (NV _))⟩
 ·obtain ⟨its,r',pl,hz⟩:=I.tuple hq
  exact call_tuple_same pl ⟨.ref p,H,I,rfl,q⟩
def tyV (K:NB)(T:String)(x:V)(H:Hp):Prop:=match x with
 | .str _=>T = "str"
 | .int _=>T = "int"
 | .ref p=>(T = "list" /\ ∃ xs,SqL K H p xs)∨(T = "tuple" /\ ∃ o,K.lookup p=some o/\o.cls=.type "tuple" /\ o.dict=none)∨
   (T = "dict" /\ ((∃ kvs,H p=some (.dK kvs))∨∃ kvs,H p=some (.dT kvs)))∨(T = "set" /\ ∃ S n,H p=some (.set S n))
 | _=>False
theorem IE {pins:List (Addr×Obj)}{σ:St}{H:Hp}{s:ND}{T:String}{x:V}{v:NC}(I:Inv X pins σ H s)(r:RelV x v)(ty:tyV X.K T x H) :
  s.TypeIs v T/\∀ a,v=.ref a->∃ ob,s.heap.get? a=some ob/\ob.dict=none:=by
 cases x with
 | str z=>
  obtain ⟨t,rfl⟩:=r
  cases (show T = "str" from ty)
  exact ⟨typeIs_str s z t,λ_ e=>nomatch e⟩
 | int i=>
  obtain ⟨t,rfl⟩:=r
  cases (show T = "int" from ty)
  exact ⟨typeIs_int s i t,λ_ e=>nomatch e⟩
 | ref p=>
  cases r
  rcases ty with ⟨rfl,xs,hq⟩ | ⟨rfl,o,hk,hc,hd⟩ | ⟨rfl,hk⟩ | ⟨rfl,S,n,hk⟩
  ·obtain ⟨its,_,pl,_⟩:=I.list hq
   refine ⟨pl.isList.typeIs,λa e=>?_⟩
   cases e
   obtain ⟨o,n,e,c,hd,_⟩:=pl
   exact ⟨o,e,hd⟩
  ·refine ⟨⟨o,I.kIn p o hk,hc⟩,λa e=>?_⟩
   cases e
   exact ⟨o,I.kIn _ o hk,hd⟩
  ·have z:∃ o,s.heap.get? p=some o/\o.ExactDict:=by
    rcases hk with ⟨kvs,hk⟩ | ⟨kvs,hk⟩
    ·obtain ⟨_,_,_,_,o,_,_,e,ex,_⟩:=I.hok p _ hk
     exact ⟨o,e,ex⟩
    ·obtain ⟨_,_,_,_,o,_,_,e,ex,_⟩:=I.hok p _ hk
     exact ⟨o,e,ex⟩
   obtain ⟨o,e,ex⟩:=z
   refine ⟨⟨o,e,ex.1⟩,λa e2=>?_⟩
   cases e2
   exact ⟨o,e,ex.2.1⟩
  ·obtain ⟨o,_,_,_,e,ex,_⟩:=I.hok p _ hk
   refine ⟨⟨o,e,ex.1⟩,λa e2=>?_⟩
   cases e2
   exact ⟨o,e,ex.2.1⟩
 | _=>exact NG ty
def tBM (K:NB)(T:String)(r:V->List V->Hp->VK->Prop)(to:TE)(t:TA):TE:=λσ H Q=>to σ H λx H1=>tyV K T x H1/\t σ H1 λxs H2=>r x xs H2 Q
variable {o e:N1} {es:List N1} {to:TE} {t:TA} {name:Str} {apos cpos:Pos} {T id:String} {r:V->List V->Hp->VK->Prop}
theorem Hi (pa:PlainAttrs T)(slot:Slot T name id)(hty:typeOf (.builtin id)=pure (.type "method_descriptor"))(hm:MtR X id r)(ho:PE X o to)(ha:PA X (e::es) t)
  (hbase:S0 o name X.env (O4 o X.env)=O4 o X.env:=by rfl)
  (hfew:((OB cpos (NL (e::es) X.env)).all (λx=>!x.1)&&(backToKw cpos (Um [] X.env)).all (λx=>x.1.isSome)
   && decide ((e::es).length+([]:List SK).length+(if ([]:List SK).isEmpty then 0 else 1) < 30))=true:=by rfl)
  (hline:(apos.endLine == cpos.line)=true:=by rfl) (hs:NL (e::es) X.env=(false,O4 e X.env)::NL es X.env:=by rfl) (hplain:(OB cpos (NL es X.env)).any (·.1)=false:=by rfl) :
  PE X (.Call (.Attribute o name apos) (e::es) [] cpos) (tBM X.K T r to t):=by
 intro pins s σ H Q I h
 refine wpAny_Call_method_late hbase hfew hline rfl (thn (ho pins s σ H _ I h) λv s1 ⟨x,H1,I1,r1,ty,q1⟩=>?_)
 obtain ⟨h1,h2⟩:=IE I1 r1 ty
 refine ⟨T,id,pa,slot,hty,h1,h2,?_⟩
 have hA:=ha cpos pins s1 σ H1 _ I1 q1
 rw[hs] at hA ⊢
 refine Calls.callWith_builtin (by show (false || (OB cpos (NL es X.env)).any (·.1))=false;rw[hplain]<;>rfl) (Calls.evalArgs_plain ?_)
 exact thn hA λus s2 ⟨vs,H2,I2,r2,q2⟩=>hm pins s2 σ H2 x vs v us Q I2 r1 r2 q2
end
end L2
namespace L2
open PySem PySem.Spec PyProof.Rows
def MtM (X:Cx)(id:String)(r:V->List V->Hp->VK->Prop):Prop:=
 ∀ (pins:List (Addr×Obj)) (s:ND) (σ:St) (H:Hp) (x:V) (xs:List V) (v:NC) (us:List NC) (Q:VK),Inv X pins σ H s->RelV x v->Vals xs us->r x xs H Q->
  NU (N3 X.prog X.w) X.A (call (.builtin id) (v::us)) (EP X pins σ Q) X.xe s
theorem Vals.one:∀ {x:V} {us:List NC},Vals [x] us->∃ u,us=[u]/\RelV x u
 | _,_,.cons r .nil=>⟨_,rfl,r⟩
theorem Vals.zero:∀ {us:List NC},Vals [] us->us=[]
 | _,.nil=>rfl
section
variable {X:Cx} {pins:List (Addr×Obj)} {σ:St} {H:Hp} {s:ND} {l b:Addr} {xs ys zs:List V}
theorem Inv.MV {its its':List NC}{n:Nat}{f:Array NC->Array NC}{t':Nat}(I:Inv X pins σ H s)(hH:H l=some (.lst xs))
  (e:s.heap.get? l=some { cls:=.type "list", data:=.seq its.toArray n }) (hf:f its.toArray=its'.toArray) (hv:Vals ys its') (hz:ys.length<=sizeLine) :
  Inv X pins σ (upd H l (.lst ys)) { s with heap:=s.heap.update l (PJ f),toks:=t' }:=by
 have q:=PySem.IsL.update e f
 rw[hf] at q
 refine I.write (x:=l) (e:=l) (by rw[hH];exact trivial) (.inl rfl) (λb' u hb hu=>(Oi s.heap (PJ f) (Pz hb)).trans hu) ⟨_,q⟩ ?_
 exact ⟨hz,its',_,hv,q⟩
theorem Inv.MP {its:List NC}{t':Nat}(I:Inv X pins σ H s)(hv:Vals ys its)(hz:ys.length<=sizeLine) :
  Inv X pins σ (upd H s.heap.objs.size (.lst ys)) { s with heap:=s.heap.push { cls:=.type "list", data:=.seq its.toArray },toks:=t' }:=
 I.laid (λ_ _ q=>NF _ q) (NV _) ⟨hz,its,0,hv,NT _ rfl⟩
theorem Inv.fresh (I:Inv X pins σ H s):H s.heap.objs.size=none:=I.hok.fresh (NV _)
theorem Inv.Lv (I:Inv X pins σ H s)(hH:H l=some (.lst xs)):xs.length<=sizeLine/\∃ (its:List NC) (n:Nat),Vals xs its/\xs.length=its.length/\s.heap.get? l=some { cls:=.type "list", data:=.seq its.toArray n }:=by
 obtain ⟨z,its,n,r,e⟩:=I.hok l _ hH
 exact ⟨z,its,n,r,r.length,e⟩
end
section
variable {X:Cx}
def Gy:V->List V->Hp->VK->Prop:=λx vs H Q=>∃ l xs y,x=.ref l/\vs=[y]/\H l=some (.lst xs)/\xs.length < sizeLine/\Q .non (upd H l (.lst (xs++[y])))
theorem qi:MtM X "list.append" Gy:=by
 intro pins s σ H x vs v us Q I rx rv h
 obtain ⟨l,xs,y,rfl,rfl,hH,hz,q⟩:=h
 cases rx
 obtain ⟨u,rfl,ru⟩:=rv.one
 obtain ⟨z,its,n,r,hl,e⟩:=I.Lv hH
 refine call_meets F.slot_list_append ⟨_,e,rfl⟩ F.entry_list_append (F.args_list_append_2 _ _) (PySem.list_append l its.toArray n u (by rw[NS];omega)) ⟨e,?_⟩
 refine ⟨.non,_,I.MV (its':=its++[u]) hH e (by simp) (r.append (.cons ru .nil)) ?_,rfl,q⟩
 rw[NW,PN]
 omega
end
section
variable {prog:NR} {w:N6} {A:N7} {E:NC->ND->Prop} {s:ND}
end
section
variable {X:Cx}
end
end L2
namespace Att
open PySem PySem.W PySem.Calls PyProof.Rows
theorem l9 {P:UM}{h:Heap}:∀ (ns:List Int) (vs:List NC),WellAll P h vs (ns.map WData.int)->UD vs ns:=by
 intro ns
 induction ns with
 | nil=>
  intro vs w
  rw[TM] at w
  cases w
  exact .nil
 | cons n ns ih=>
  intro vs w
  rw[Ob] at w
  cases w with
  | cons a b=>
   cases a
   exact .cons _ _ (ih _ b)
theorem zD {l:OpenLaw}{n:Nat}(hn:l.most=some n){P:UM}{h:Heap}{args:List WData}{vals:List NC}
  (hpre:l.row.toRowW.claim.pre args=true) (hwl:WellAll P h vals args) :
  ∃ a vs ns,vals=[OX a]/\args=[WData.list (ns.map WData.int)]/\h.get? a=some { cls:=.type "list", data:=.seq vs.toArray }/\UD vs ns/\ns.length<=n:=by
 have hsh:WShape.hasAll [] args [.list .int]=true:=(pre_splitW hpre).1
 have hc:l.pre.holds [] { args:=args }=true:=(pre_splitW hpre).2
 obtain ⟨d,r,rfl,h1,h2⟩:=hasAllW_cons hsh
 obtain rfl:=hasAllW_nil h2
 obtain ⟨xs,rfl,h3⟩:=hasW_list h1
 obtain ⟨ns,rfl⟩:=items_int h3
 have hlen:ns.length<=n:=by
  unfold OpenLaw.pre at hc
  have h4:(WTm.not (.lt (.lit (.int (n:Int))) (.len (.arg 0)))).holds [] { args:=[.list (ns.map .int)] }=true:=by
   have h4:=(holds_andW hc).1
   rw[hn] at h4
   exact h4
  have h5:=condW_of h4 (w_not (w_lt w_lit (w_len_list (w_arg rfl))))
  rw[NK] at h5
  refine Nat.le_of_not_lt λq=>?_
  have q':(n:Int) < ((ns.length:Nat):Int):=by omega
  first
   | (rw[decide_eq_true q'] at h5;exact absurd h5 (by decide))
   | (simp at h5;omega)
 cases hwl with
 | cons w1 w2=>
  cases w2
  cases w1 with
  | list ho hall=>exact ⟨_,_,ns,rfl,rfl,ho,l9 ns _ hall,hlen⟩
theorem AV (l:OpenLaw)(args:List WData):l.row.toRowW.claim.post args (.bool true) args=true:=
 postW_of (r:=l.row.toRowW) (X:=(true == true))
  (show Vp [] (.bool true) .bool=true by first | rfl | decide | simp[Vp,WShape.arms,WShape.armsAll])
  (show (WTm.eq .res (.lit (.bool true))).value [] { args:=args,res:=some (.bool true),after:=args }=some (.bool (true == true)) from w_eq_bool (w_res rfl) w_lit) rfl
theorem vJ {l:OpenLaw}{n:Nat}{q:NR}{loose:List Str}{XP:(Str->Option NC)->Heap->Prop}{YP:N6->Heap->Prop}{d:DefRec}
  (hn:l.most=some n) (hdf:d.params.defaults=[])
  (call:∀ (w:N6) (s₀ s₁:ND) (mg mb:Str->Option NC) (fa:Addr) (o:Obj) (pm cd doc:NC) (a:Addr) (vs:List NC) (ns:List Int),
   Ground q loose [] XP w s₀ mg mb s₁.heap->YP w s₁.heap->
   s₁.heap.get? fa=some o->o.data=.func (docDef d.name d.params d.body d.scope pm cd doc)->s₁.heap.CodeRec cd d.name->mg d.name=some (.ref fa)->
   s₁.heap.get? a=some { cls:=.type "list", data:=.seq vs.toArray }->UD vs ns->ns.length<=n->s₁.gens = #[]->
   PR (N3 l.prog w) R5 (.call (.ref fa) ⟨[.ref a],[]⟩) (λr s'=>r=.ok (.ret (.bool true))/\OldK s₁.heap s'.heap/\s'.os=s₁.os/\Rq s'.gens) s₁) :
  WalkO q loose XP YP l.row.toRowW d [] (λf vs=>Rg f vs):=by
 intro w s₀ s₁ mg mb G Y fa o pm cd doc dV kV ho hd hcd hD hmg hg args vals as hpre hlay hrd hwl hlo
 obtain rfl:dV=.none:=Dflts.none hD hdf
 obtain rfl:kV=.none:=Dflts.noKw hD
 obtain ⟨a,vs,ns,rfl,rfl,hobj,hints,hlen⟩:=zD hn hpre hwl
 refine enter_call (Q2 (call w s₀ s₁ mg mb fa o pm cd doc a vs ns G Y ho (fd_plain hd) hcd hmg hobj hints hlen hg) λr s' hq=>?_)
 obtain ⟨rfl,h2,h3,h4⟩:=hq
 exact ⟨.inl ⟨.bool true,.bool true,[],rfl,λ_=>rfl,.bool true,AV l _,λ_=>⟨Vq,λ_ hm=>(nomatch hm)⟩⟩,h2,h3,h4⟩
section
variable {prog:NR} {w:N6} {A:N7} {E:NC->ND->Prop} {s:ND} {K:Frag}
end
end Att
namespace L2
open PySem PySem.Spec PyProof.Rows
theorem qP:∀ {vs:List NC} {ns:List Int},UD vs ns->Vals (ns.map V.int) vs
 | _,_,.nil=>.nil
 | _,_,.cons n t h=>.cons ⟨t,rfl⟩ (qP h)
def FT (H:Hp):Prop:=∀ b,H b=none∨∃ o xs,H b=some (.frz o (.lst xs))
theorem Dd {P:NR}{w:N6}{K:NB}{mg mb:Str->Option NC}{CX:CXT}{k:Nat}{fa a:Addr}{fd:N0}{x:Str}{sp:Sp}{s₁:ND}{vs:List NC}{ns:List Int}
  (KX:K.In s₁.heap) (hns:s₁.heap.Ns Oy mg) (hb:s₁.heap.Ns UE mb) (hbb:∀ x:Str,x ≠ "__name__" -> mb x=Of x) (hlim:s₁.heap.NoLimit) (hg:s₁.gens = #[])
  (ha:s₁.heap.get? a=some { cls:=.type "list", data:=.seq vs.toArray }) (hi:UD vs ns) (hl:ns.length<=sizeLine) (hr:fu k R5)
  (F:∀ base:Heap,K.In base->base.Ns Oy mg->jy P w K mg base CX k fa fd [x] sp) (hbind:∀ (s:ND) (u:NC),TH s fd ⟨[u],[]⟩ [(x,u)])
  (hsp:∀ H:Hp,FT H->SqL K H a (ns.map V.int)->sp [.ref a] H (λv _=>v=.bl true) λ_ _ _=>False)
  (hCX:∀ H e s',CX [] H s₁ (λ_ _ _=>False) e s'->False) :
  PR (N3 P w) R5 (.call (.ref fa) ⟨[.ref a],[]⟩) (λr s'=>r=.ok (.ret (.bool true))/\OldK s₁.heap s'.heap/\s'.os=s₁.os/\Rq s'.gens) s₁:=by
 have rv:=qP hi
 have Nw:=hi.length
 -- from an abstract heap in which nothing but the script may be tracked
 have core:∀ H:Hp,FT H->SqL K H a (ns.map V.int)->HOk P w H s₁.heap->(∀ b,H b≠none->b=a)->(H a≠none->K.lookup a=none)->
   PR (N3 P w) R5 (.call (.ref fa) ⟨[.ref a],[]⟩) (λr s'=>r=.ok (.ret (.bool true))/\OldK s₁.heap s'.heap/\s'.os=s₁.os/\Rq s'.gens) s₁:=by
  intro H hO hS hok hA hK
  have base_of:∀ {b:Addr} {o:Obj},s₁.heap.get? b=some o->H b=none->(qW s₁.heap H).get? b=some o:=λe n=>BD e n
  have noA:∀ {b:Addr} {o:Obj} {es:Array Pd} {ep:Nat},s₁.heap.get? b=some o->o.data=.dict es ep->H b=none:=λ{b o es ep} e d=>by
   cases q:H b with
   | none=>rfl
   | some u=>
    have e':b=a:=hA b (by rw[q];simp)
    subst e'
    rw[ha] at e;cases e
    have d':Data.seq vs.toArray _=Data.dict es ep:=d
    cases d'
  have nsK:∀ {b:Addr} {m:Str->Option NC},s₁.heap.Ns b m->(qW s₁.heap H).Ns b m:=λ{b m} ⟨o,es,ep,e,d,r⟩=>⟨o,es,ep,base_of e (noA e d),d,r⟩
  have hKb:K.In (qW s₁.heap H):=λb o e=>base_of (KX b o e) (by
   cases q:H b with
   | none=>rfl
   | some u=>
    have e':b=a:=hA b (by rw[q];simp)
    subst e'
    rw[hK (by rw[q];simp)] at e;cases e)
  have hM:Mod K mg (qW s₁.heap H):=⟨hKb,nsK hns,⟨mb,nsK hb,hbb⟩,let ⟨mc,h1,h2⟩:=hlim;⟨mc,nsK h1,h2⟩⟩
  have e0:FO P w K mg (qW s₁.heap H) R5 [] s₁ H:=⟨rfl,hM,λb o e=>Ga e,Nat.le_of_eq (zV _ _),trivial,λb hb=>absurd (show b∈([]:List Addr) from hb) (by simp),hok,.of_eq hg⟩
  refine Q2 ((F _ hKb (nsK hns)).run R5 [] s₁ H ⟨[.ref a],[]⟩ [.ref a] [.ref a] _ _ hr e0 (hbind s₁ (.ref a)) (.cons rfl .nil) (hsp H hO hS)) λr s' h=>?_
  cases r with
  | error e=>exact (hCX H e s' h).elim
  | ok fl=>
   cases fl with
   | next=>exact NG h
   | brk=>exact NG h
   | cont=>exact NG h
   | ret u=>
    obtain ⟨v,H',os,bare,un,hok',r',q⟩:=h
    have q':v=.bl true:=q
    subst q'
    obtain rfl:u=RV true:=r'
    refine ⟨rfl,OldK.of_keep λb o e=>?_,os,bare⟩
    cases q:H b with
    | none=>exact un.keep b o e q (by intro z;exact absurd (show b∈([]:List Addr) from z) (by simp)) (by simp)
    | some u=>
     rcases hO b with z | ⟨ob,xs,z⟩
     ·rw[q] at z;cases z
     ·have z2:=un.k9 b ob _ z
      obtain ⟨e1,_⟩:=hok b _ z
      obtain ⟨e2,_⟩:=hok' b _ z2
      rw[e] at e1;cases e1
      exact e2
 cases hk:K.lookup a with
 | some o=>
  -- the script is one of the module's own objects
  have e:=KX a o hk
  rw[ha] at e
  cases e
  refine core (λ_=>none) (λ_=>.inl rfl) (.inr ⟨_,vs.toArray,_,hk,rfl,rfl,rfl,by rw[NS,Nw];exact hl,by simpa using rv⟩) (λb u z=>by have z':(none:Option HO)=some u:=z;cases z') (λb z=>absurd rfl z) λz=>absurd rfl z
 | none=>
  refine core (λb=>if b=a then some (.frz { cls:=.type "list", data:=.seq vs.toArray } (.lst (ns.map V.int))) else none) (λb=>?_) (.inl (.inr ⟨{ cls:=.type "list", data:=.seq vs.toArray },if_pos rfl⟩)) (λb u z=>?_) (λb z=>?_) λ_=>hk
  ·by_cases hb:b=a
   ·exact .inr ⟨_,_,if_pos hb⟩
   ·exact .inl (if_neg hb)
  ·by_cases hb:b=a
   ·have z':=(if_pos hb).symm.trans z
    cases z'
    subst hb
    exact ⟨ha,by rw[NK];exact hl,vs,_,rv,ha⟩
   ·have z':=(if_neg hb).symm.trans z
    cases z'
  ·by_cases hb:b=a
   ·exact hb
   ·exact absurd (if_neg hb) z
end L2
namespace L2
open PySem PySem.Spec PyProof.Rows
theorem FC {l:Sd}{n k:Nat}{q:NR}{loose:List Str}{XP:(Str->Option NC)->Heap->Prop}{YP:N6->Heap->Prop}{d:DefRec}{K:UM->NB}{CX:N6->CXT}{sp:N6->Sp}{x:Str}
  (hn:l.most=some n) (hn2:n<=sizeLine) (hdf:d.params.defaults=[]) (hr:fu k R5)
  (hY:∀ (w:N6) (h:Heap),YP w h->(K w.params).In h)
  (F:∀ (w:N6) (mg:Str->Option NC) (fa:Addr) (h:Heap),(K w.params).In h->h.Ns Oy mg->mg d.name=some (.ref fa)->
   ∃ fd:N0,(∀ (s:ND) (u:NC),TH s fd ⟨[u],[]⟩ [(x,u)])/\
    ∀ base:Heap,(K w.params).In base->base.Ns Oy mg->jy l.prog w (K w.params) mg base (CX w) k fa fd [x] (sp w))
  (hsp:∀ (w:N6) (H:Hp) (a:Addr) (ns:List Int),ns.length<=n->FT H->SqL (K w.params) H a (ns.map V.int)->sp w [.ref a] H (λv _=>v=.bl true) λ_ _ _=>False)
  (hCX:∀ (w:N6) (H:Hp) (s:ND) (e:NC) (s':ND),CX w [] H s (λ_ _ _=>False) e s'->False) :
  U2 q loose XP YP l.row.toRowW d [] (λf vs=>Rg f vs):=by
 refine Att.vJ hn hdf λw s₀ s₁ mg mb fa o pm cd doc a vs ns G Y ho hd hcd hmg hobj hints hlen hg=>?_
 have KX:=hY w _ Y
 obtain ⟨fd,hb,hF⟩:=F w mg fa _ KX G.T.g hmg
 exact Dd KX G.T.g G.T.b G.T.builtins G.T.nolimit hg hobj hints (OJ hlen hn2) hr hF hb (λH hO hS=>hsp w H a ns hlen hO hS) λH e s'=>hCX w H s₁ e s'
end L2
namespace L2
open PySem PySem.Spec PyProof.Rows
def jT (s:Stmt):Arguments:=match s with
 | .FunctionDef _ a _ _ _ _ _ _ _ _=>a
 | _=>{ posonlyargs:=[],args:=[],vararg:=none,kwonlyargs:=[],kw_defaults:=[],kwarg:=none,defaults:=[] }
def fz (s:Stmt):List Stmt:=match s with
 | .FunctionDef _ _ b _ _ _ _ _ _ _=>b
 | _=>[]
def aw (s:Stmt):Scope:=match s with
 | .FunctionDef _ _ _ _ _ _ sc _ _ _=>sc
 | _=>{ kind:=.function,names:=[],isGenerator:=false,isCoroutine:=false }
abbrev CX0:CXT:=λ_ _ _ _ _ _=>False
abbrev E0:XK:=λ_ _ _=>False
theorem KU {X:Cx}:Passes CX0 X E0:=λ_ _ _ _ _ _ _ h=>h.elim
structure Fun (K:NB) (x qual:Str) (st:Stmt) (f:Addr) (fd:N0):Prop where
 ex:∃ (oc:NC) (od:Option Addr) (kV doc pm:NC) (an:Option Addr) (cdv ct:NC) (osl:Array (Option NC)),
  fd=P5 x qual (jT st) (fz st) (aw st) .none kV doc pm an cdv ct/\K.lookup f=some ⟨oc,od,.func fd,osl⟩/\Sw K cdv qual=true
 kp:Qw K (.ref f)=true
section
variable {P:NR} {w:N6} {K:NB} {mg:Str->Option NC} {base:Heap}
theorem Fun.ok {x qual:Str}{st:Stmt}{f:Addr}{fd:N0}{N ps:List Str}{k:Nat}{sp:Sp}(F:Fun K x qual st f fd)(S:aJ N ps (aw st))(len:∀ vs H Q E,sp vs H Q E->vs.length=ps.length)
  (hbody:∀ (cdv:NC) (A:N7) (outer:List Env) (s:ND) (H:Hp) (vs:List V) (Q:VK) (E:XK),fu k (A.deeper (Rb qual (aw st) s.heap.objs.size f cdv))->sp vs H Q E->
   ∃ t,PSs (vg CX0 P w K mg base N qual (aw st) f cdv A outer s H E).nox (fz st) t/\t { nx:=λ_ H'=>Q .non H',rt:=Q } (start N vs) H):jy P w K mg base CX0 (k+1) f fd ps sp:=by
 obtain ⟨oc,od,kV,doc,pm,an,cdv,ct,osl,rfl,lk,hcd⟩:=F.ex
 refine K3 lk hcd S len λA outer s H vs Q E hr hsp=>?_
 obtain ⟨t,h,q⟩:=hbody cdv A outer s H vs Q E hr hsp
 exact ⟨t,h.nox,q⟩
theorem Fun.binds {x qual:Str}{st:Stmt}{f:Addr}{fd:N0}{ps:List Str}(F:Fun K x qual st f fd)
  (h:∀ (kV doc pm:NC) (an:Option Addr) (cdv ct:NC) (us:List NC),us.length=ps.length->bindArgs (P5 x qual (jT st) (fz st) (aw st) .none kV doc pm an cdv ct) ⟨us,[]⟩=pure (ps.zip us)):Binds K fd ps []:=by
 obtain ⟨oc,od,kV,doc,pm,an,cdv,ct,osl,rfl,lk,hcd⟩:=F.ex
 exact .all (h kV doc pm an cdv ct)
theorem aW {x qual:Str}{st:Stmt}{f:Addr}{oc:NC}{od an:Option Addr}{osl:Array (Option NC)}{kV doc pm cdv ct:NC}(l:K.lookup f=some ⟨oc,od,.func (P5 x qual (jT st) (fz st) (aw st) .none kV doc pm an cdv ct),osl⟩)
  (c:Sw K cdv qual=true) (k:Qw K (.ref f)=true):Fun K x qual st f (P5 x qual (jT st) (fz st) (aw st) .none kV doc pm an cdv ct):=⟨⟨oc,od,kV,doc,pm,an,cdv,ct,osl,rfl,l,c⟩,k⟩
end
section
variable {X:Cx}
theorem pv (i:Nat){x:Str}{pos:Pos}(hN:X.N[i]? = some x:=by rfl)(hv:Vis X.env.scope x:=by first | exact Sx rfl | exact RB (Sx rfl) | exact RB (RB rfl))(hd:(x == ("__debug__" : Str))=false:=by decide)
  (hcd:(x == ("__classdict__" : Str))=false:=by decide):PE X (.Name x pos) (KN i):=Eh hN hv hd hcd
end
theorem sf {A B:Prop}(h:B):if false=true then A else B:=by
 rw[if_neg Ra]
 exact h
theorem tf {A B:Prop}(h:A):if true=true then A else B:=by
 rw[if_pos rfl]
 exact h
def t9 (H H':Hp):Prop:=∀ b o,H b=some o->H' b=some o
theorem t9.trans {H H1 H2:Hp}(a:t9 H H1)(b:t9 H1 H2):t9 H H2:=λc o h=>b c o (a c o h)
theorem t9.free {H H':Hp}(e:t9 H H'){l:Addr}(h:H' l=Vi):H l=Vi:=by
 cases q:H l with
 | none=>rfl
 | some o=>
  rw[e l o q] at h
  cases h
theorem t9.seq {K:NB}{H H':Hp}{a:Addr}{xs:List V}(e:t9 H H')(h:SqL K H a xs):SqL K H' a xs:=by
 rcases h with (h | ⟨o,h⟩) | h
 ·exact .inl (.inl (e _ _ h))
 ·exact .inl (.inr ⟨o,e _ _ h⟩)
 ·exact .inr h
end L2
namespace L2
open PySem PySem.Spec PyProof.Rows
section
variable {κ:Type} [DecidableEq κ]
def iM (kvs:List (κ×V))(k:κ):Option V:=(kvs.find? λkv=>decide (kv.1=k)).map (·.2)
def putK (kvs:List (κ×V))(k:κ)(v:V):List (κ×V):=
 if (kvs.any λkv=>decide (kv.1=k))=true then kvs.map (λkv=>if kv.1=k then (kv.1,v) else kv) else kvs++[(k,v)]
def Hk (kvs:List (κ×V))(k:κ):List (κ×V):=kvs.filter λkv=>decide (kv.1≠k)
theorem oO {p:κ×V}{r:List (κ×V)}{k:κ}(e:p.1=k):iM (p::r) k=some p.2:=by simp[iM,OC,e]
theorem nY {p:κ×V}{r:List (κ×V)}{k:κ}(e:¬ p.1=k):iM (p::r) k=iM r k:=by simp[iM,OC,e]
theorem uJ (k:κ):∀ kvs:List (κ×V),(kvs.any λkv=>decide (kv.1=k))=(iM kvs k).isSome
 | []=>rfl
 | p::r=>by
  rw[Qf]
  by_cases e:p.1=k
  ·simp only[oO e,decide_eq_true e,Vc,Option.isSome_some]
  ·rw[nY e,decide_eq_false e,U3];exact uJ k r
theorem ur (kvs:List (κ×V))(k:κ)(v:V):(putK kvs k v).length<=kvs.length+1:=by
 unfold putK
 split
 ·rw[NK];omega
 ·rw[NW,NN,OD];omega
theorem BK {kvs:List (κ×V)}{k:κ}(v:V)(h:iM kvs k=none):putK kvs k v=kvs++[(k,v)]:=by
 unfold putK
 rw[uJ,h]
 exact if_neg (by decide)
theorem Ao.getD {o:Option V}{u:Option NC}{d:V}{d':NC}(r:Ao o u)(rd:RelV d d'):RelV (o.getD d) (u.getD d'):=by
 cases o with
 | none=>cases u with
  | none=>exact rd
  | some _=>exact (show False from r).elim
 | some _=>cases u with
  | none=>exact (show False from r).elim
  | some _=>exact r
theorem KV.val {kvs:List (κ×V)}{vs:List (κ×NC)}(r:KV kvs vs)(k:κ):Ao (iM kvs k) (TN vs k):=by
 unfold KV at r
 induction r with
 | nil=>exact PK
 | @cons p q ps qs h t ih=>
  obtain ⟨h1,h2⟩:=h
  by_cases e:p.1=k
  ·have e':q.1=k:=h1.symm.trans e
   have b:TN (q::qs) k=some q.2:=by simp[TN,OC,e']
   rw[oO e,b];exact h2
  ·have e':¬ q.1=k:=λz=>e (h1.trans z)
   have b:TN (q::qs) k=TN qs k:=by simp[TN,OC,e']
   rw[nY e,b];exact ih
theorem KV.any {kvs:List (κ×V)}{vs:List (κ×NC)}(r:KV kvs vs)(k:κ):(kvs.any λkv=>decide (kv.1=k))=vs.any λkv=>decide (kv.1=k):=by
 unfold KV at r
 induction r with
 | nil=>rfl
 | cons h t ih=>rw[Qf,Qf,ih,h.1]
theorem KV.Np {kvs:List (κ×V)}{vs:List (κ×NC)}(r:KV kvs vs)(k:κ){y:V}{u:NC}(ry:RelV y u) :
  KV (kvs.map λkv=>if kv.1=k then (kv.1,y) else kv) (vs.map λkv=>if kv.1=k then (kv.1,u) else kv):=by
 unfold KV at r ⊢
 induction r with
 | nil=>exact .nil
 | @cons p q ps qs h t ih=>
  rw[Ob,Ob]
  refine .cons ?_ ih
  obtain ⟨h1,h2⟩:=h
  by_cases e:p.1=k
  ·rw[if_pos e,if_pos (h1.symm.trans e)];exact ⟨h1,ry⟩
  ·rw[if_neg e,if_neg (λz=>e (h1.trans z))];exact ⟨h1,h2⟩
theorem KV.put {kvs:List (κ×V)}{vs:List (κ×NC)}(r:KV kvs vs)(k:κ){y:V}{u:NC}(ry:RelV y u):KV (putK kvs k y) (stored vs k u):=by
 unfold putK stored
 rw[r.any k]
 by_cases e:(vs.any λkv=>decide (kv.1=k))=true
 ·rw[if_pos e,if_pos e];exact r.Np k ry
 ·rw[if_neg e,if_neg e];exact Paired.snoc r ⟨rfl,ry⟩
theorem KV.drop {kvs:List (κ×V)}{vs:List (κ×NC)}(r:KV kvs vs)(k:κ):KV (Hk kvs k) (without vs k):=by
 unfold KV at r ⊢
 unfold Hk without
 induction r with
 | nil=>exact .nil
 | @cons p q ps qs h t ih=>
  obtain ⟨h1,h2⟩:=h
  rw[Uh,Uh]
  by_cases e:p.1=k
  ·have a:¬ decide (p.1≠k)=true:=by simp[e]
   have b:¬ decide (q.1≠k)=true:=by simp[h1.symm.trans e]
   rw[if_neg a,if_neg b];exact ih
  ·have e':¬ q.1=k:=λz=>e (h1.trans z)
   have a:decide (p.1≠k)=true:=by simp[e]
   have b:decide (q.1≠k)=true:=by simp[e']
   rw[if_pos a,if_pos b];exact .cons ⟨h1,h2⟩ ih
theorem KV.keys {kvs:List (κ×V)}{vs:List (κ×NC)}(r:KV kvs vs):kvs.map (·.1)=vs.map (·.1):=by
 unfold KV at r
 induction r with
 | nil=>rfl
 | cons h t ih=>rw[Ob,Ob,ih,h.1]
theorem KV.length {kvs:List (κ×V)}{vs:List (κ×NC)}(r:KV kvs vs):kvs.length=vs.length:=U1 r
end
theorem DS {P:NR}{w:N6}{k:Key}{u:NC}(r:RelV (kV k) u):(b5 P w).is k u=true:=by
 cases k with
 | inl i=>obtain ⟨t,e⟩:=(show ∃ t,u=SI i t from r);subst e;exact u9 P w i t
 | inr x=>obtain ⟨t,e⟩:=(show ∃ t,u=QF x t from r);subst e;exact uB P w x t
theorem qS {P:NR}{w:N6}:∀ {ks:List Key} {us:List NC},Vals (ks.map kV) us->UN (b5 P w) ks us
 | [],_,r=>by rw[TM] at r;cases r;exact .nil
 | k::ks,_,r=>by
  rw[Ob] at r
  cases r with
  | cons h t=>exact .cons (DS h) (qS t)
abbrev KT (H:Hp):List (List Key×V)->List (List Key×Addr×NC)->Prop:=Rx λp q=>p.1=q.1/\H q.2.1=some (.tup (p.1.map kV))/\RelV p.2 q.2.2
theorem KT.val {H:Hp}{kvs:List (List Key×V)}{xs:List (List Key×Addr×NC)}(r:KT H kvs xs)(k:List Key):Ao (iM kvs k) ((atKey xs k).map (·.2)):=by
 induction r with
 | nil=>exact PK
 | @cons p q ps qs h t ih=>
  obtain ⟨h1,_,h2⟩:=h
  by_cases e:p.1=k
  ·have e':q.1=k:=h1.symm.trans e
   have b:atKey (q::qs) k=some q.2:=by simp[atKey,OC,e']
   rw[oO e,b];exact h2
  ·have e':¬ q.1=k:=λz=>e (h1.trans z)
   have b:atKey (q::qs) k=atKey qs k:=by simp[atKey,OC,e']
   rw[nY e,b];exact ih
theorem KT.keeps {H H':Hp}{kvs:List (List Key×V)}{xs:List (List Key×Addr×NC)}(r:KT H kvs xs)(ht:∀ b ys,H b=some (.tup ys)->H' b=some (.tup ys)):KT H' kvs xs:=
 Rx.HI r λ_ _ z=>⟨z.1,ht _ _ z.2.1,z.2.2⟩
section
variable {P:NR} {w:N6} {H:Hp} {h:Heap} {a:Addr}
theorem Ly {u:HO}(ok:HOk P w H h)(e:Rd H a u):cK P w H h a u:=e.ok ok
theorem L9 {kvs:List (Key×V)}(ok:HOk P w H h)(e:Rd H a (.dK kvs)):kvs.length<=sizeLine/\(a == PH)=false/\∃ vs,KV kvs vs/\h.DictOf (b5 P w) a vs:=
 show cK P w H h a (.dK kvs) from Ly ok e
theorem Lg {kvs:List (Key×V)}(ok:HOk P w H h)(e:H a=some (.dK kvs)):kvs.length<=sizeLine/\(a == PH)=false/\∃ vs,KV kvs vs/\h.DictOf (b5 P w) a vs:=L9 ok (.inl e)
end
def Ex (H:Hp)(a:Addr)(y:V)(r:Option V):Prop:=
 (∃ kvs k,Rd H a (.dK kvs)/\y=kV k/\r=iM kvs k)∨∃ kvs k b,Rd H a (.dT kvs)/\y=.ref b/\H b=some (.tup (k.map kV))/\r=iM kvs k
def F7 (H:Hp)(a:Addr)(y v:V)(H':Hp):Prop:=
 (∃ kvs k,H a=some (.dK kvs)/\y=kV k/\kvs.length < sizeLine/\H'=upd H a (.dK (putK kvs k v)))∨
 ∃ kvs k b,H a=some (.dT kvs)/\y=.ref b/\H b=some (.tup (k.map kV))/\kvs.length < sizeLine/\H'=upd H a (.dT (putK kvs k v))
theorem Ex.k {H:Hp}{a:Addr}{kvs:List (Key×V)}{k:Key}(e:H a=some (.dK kvs)):Ex H a (kV k) (iM kvs k):=.inl ⟨kvs,k,.inl e,rfl,rfl⟩
theorem Ex.t {H:Hp}{a b:Addr}{kvs:List (List Key×V)}{k:List Key}(e:H a=some (.dT kvs))(eb:H b=some (.tup (k.map kV))):Ex H a (.ref b) (iM kvs k):=.inr ⟨kvs,k,b,.inl e,rfl,eb,rfl⟩
theorem F7.k {H:Hp}{a:Addr}{kvs:List (Key×V)}{k:Key}{v:V}(e:H a=some (.dK kvs))(hl:kvs.length < sizeLine):F7 H a (kV k) v (upd H a (.dK (putK kvs k v))):=.inl ⟨kvs,k,e,rfl,hl,rfl⟩
theorem F7.t {H:Hp}{a b:Addr}{kvs:List (List Key×V)}{k:List Key}{v:V}(e:H a=some (.dT kvs))(eb:H b=some (.tup (k.map kV)))(hl:kvs.length < sizeLine) :
  F7 H a (.ref b) v (upd H a (.dT (putK kvs k v))):=.inr ⟨kvs,k,b,e,rfl,eb,hl,rfl⟩
section
variable {X:Cx} {pins:List (Addr×Obj)} {σ:St} {H:Hp} {s:ND} {a:Addr} {y v:V} {u r:NC} {o:Option V} {A:N7} {E:NC->ND->Prop}
theorem Inv.big (I:Inv X pins σ H s):PH < s.heap.objs.size:=by
 have h:Oy < s.heap.objs.size:=(I.mod.glob.keeps I.bk).lt
 exact Qy (by decide) h
theorem Ey {h':Heap}{t':Nat}{ob:HO}(I:Inv X pins σ H s)(mu:Mut (H a))(hs:Pr a s.heap h')(he:∃ q,h'.get? a=some q)(new:cK X.prog X.w (upd H a ob) h' a ob) :
  Inv X pins σ (upd H a ob) { s with heap:=h',toks:=t' }:=
 I.write (x:=a) (e:=a) mu (.inl rfl) (λb q hb z=>(hs.2 b hb).trans z) he new
theorem Hy {P:NR}{w:N6}{H':Hp}{h':Heap}{kvs:List (Key×V)}{vs:List (Key×NC)}(z:kvs.length<=sizeLine)(hd:(a == PH)=false)(rel:KV kvs vs)(dd:h'.DictOf (b5 P w) a vs) :
  cK P w H' h' a (.dK kvs):=⟨z,hd,vs,rel,dd⟩
end
section
variable {X:Cx} {pins:List (Addr×Obj)} {σ:St} {H:Hp} {s:ND} {a:Addr} {kvs:List (Key×V)} {k:Key} {u:NC} {A:N7} {E:NC->ND->Prop}
end
section
variable {X:Cx} {o i e value:N1} {pos pos' tpos:Pos} {td ty tv:TE}
end
theorem vQ {P:NR}{w:N6}{H:Hp}(h:Heap)(hb:PH < h.objs.size):cK P w H (h.push { cls:=.type "dict", data:=.dict #[] }) h.objs.size (.dK []):=
 ⟨Pb _,beq_eq_false_iff_ne.mpr (Pz (NY hb)),[],.nil,Heap.DictOf.new h⟩
def HH:TE:=λ_ H Q=>∀ p,H p=none->Q (.ref p) (upd H p (.dK []))
section
variable {X:Cx} {pos:Pos}
theorem BE:PE X (.Dict [] [] pos) HH:=λpins s σ H Q I h=>
 wpAny_Dict_empty ⟨.ref s.heap.objs.size,_,I.laid (a:=s.heap.objs.size) (o:=.dK []) (t':=s.toks) (λ_ _ q=>NF _ q) (NV _) (vQ s.heap I.big),rfl,h _ (I.hok.fresh (NV _))⟩
end
def rO:List (TE×TE)->St->Hp->(List (V×V)->Hp->Prop)->Prop
 | [],_,H,Q=>Q [] H
 | (tk,tv)::r,σ,H,Q=>tk σ H λx H1=>tv σ H1 λy H2=>rO r σ H2 λps H3=>Q ((x,y)::ps) H3
abbrev VV:List (V×V)->List (NC×NC)->Prop:=Rx λp q=>RelV p.1 q.1/\RelV p.2 q.2
def PPs (X:Cx)(pos:Pos)(keys:List (Option N1))(values:List N1)(trs:List (TE×TE)):Prop:=
 ∀ (pins:List (Addr×Obj)) (s:ND) (σ:St) (H:Hp) (Q:List (V×V)->Hp->Prop),Inv X pins σ H s->rO trs σ H Q->
  NU (N3 X.prog X.w) X.A (evalPairs (pairTrees keys values X.env pos)) (λvs s'=>∃ ps H',Inv X pins σ H' s'/\VV ps vs/\Q ps H') X.xe s
theorem Fj {X:Cx}{pos:Pos}:PPs X pos [] [] []:=λpins s σ H Q I h=>pairTrees_nil_walk ⟨[],H,I,.nil,h⟩
theorem BA {X:Cx}{pos:Pos}{k v:N1}{ks:List (Option N1)}{vs:List N1}{tk tv:TE}{trs:List (TE×TE)}(hk:PE X k tk)(hv:PE X v tv)(hr:PPs X pos ks vs trs) :
  PPs X pos (some k::ks) (v::vs) ((tk,tv)::trs):=λpins s σ H Q I h=>
 pairTrees_cons_walk (thn (hk pins s σ H _ I h) λu s1 ⟨x,H1,I1,rx,q1⟩=>thn (hv pins s1 σ H1 _ I1 q1) λw2 s2 ⟨y,H2,I2,ry,q2⟩=>
  thn (hr pins s2 σ H2 _ I2 q2) λws s3 ⟨ps,H3,I3,rel,q3⟩=>⟨(x,y)::ps,H3,I3,.cons ⟨rx,ry⟩ rel,q3⟩)
def gj (kvs more:List (Key×V)):List (Key×V):=more.foldl (λacc kv=>putK acc kv.1 kv.2) kvs
theorem KV.merge:∀ {more:List (Key×V)} {rs:List (Key×NC)} {kvs:List (Key×V)} {vs:List (Key×NC)},KV more rs->KV kvs vs->KV (gj kvs more) (merged vs rs):=by
 intro more rs kvs vs r
 unfold KV at r
 induction r generalizing kvs vs with
 | nil=>intro q;exact q
 | @cons p q ps qs h t ih=>
  intro r0
  have e:KV (putK kvs p.1 p.2) (stored vs q.1 q.2):=by
   have:=r0.put p.1 h.2
   rw[← h.1];exact this
  exact ih e
theorem js:∀ (more kvs:List (Key×V)),(gj kvs more).length<=kvs.length+more.length
 | [],kvs=>by show kvs.length<=kvs.length+0;omega
 | p::r,kvs=>by
  have h1:=js r (putK kvs p.1 p.2)
  have h2:=ur kvs p.1 p.2
  show (gj (putK kvs p.1 p.2) r).length<=_
  rw[NN];omega
theorem oK {P:NR}{w:N6}:∀ {kvs:List (Key×V)} {ws:List (NC×NC)},VV (kvs.map λkv=>(kV kv.1,kv.2)) ws->∃ rs,Carries (b5 P w) ws rs/\KV kvs rs
 | [],_,r=>by rw[TM] at r;cases r;exact ⟨[],PK,.nil⟩
 | p::kvs,_,r=>by
  rw[Ob] at r
  cases r with
  | @cons a b as bs h t=>
   obtain ⟨rs,c,q⟩:=oK (P:=P) (w:=w) t
   obtain ⟨b1,b2⟩:=b
   exact ⟨(p.1,b2)::rs,⟨DS h.1,rfl,c⟩,.cons ⟨rfl,h.2⟩ q⟩
def Mw (trs:List (TE×TE)):TE:=λσ H Q=>∀ p,H p=none->rO trs σ (upd H p (.dK [])) λps H2=>H2 p=some (.dK [])/\∃ kvs:List (Key×V),ps=kvs.map (λkv=>(kV kv.1,kv.2))/\kvs.length<=15/\Q (.ref p) (upd H2 p (.dK (gj [] kvs)))
theorem GD {X:Cx}{pos:Pos}{keys:List (Option N1)}{values:List N1}{trs:List (TE×TE)}(h:PPs X pos keys values trs)(hall:keys.all (·.isSome)=true)(hl:keys.length=values.length)(h0:keys≠[])
  (h15:keys.length<=15):PE X (.Dict keys values pos) (Mw trs):=by
 intro pins s σ H Q I q
 have hn:=I.hok.fresh (NV s.heap.objs.size)
 have I1:=I.laid (a:=s.heap.objs.size) (o:=.dK []) (h':=s.heap.push { cls:=.type "dict", data:=.dict #[] }) (t':=s.toks) (λ_ _ q=>NF _ q) (NV _) (vQ s.heap I.big)
 refine wpAny_Dict_walk (knd:=b5 X.prog X.w) hall hl h0 h15 (thn (h pins _ σ _ _ I1 (q _ hn)) λws s2 ⟨ps,H2,I2,rel,e,kvs,ep,lk,q2⟩=>?_)
 subst ep
 obtain ⟨rs,c,rk⟩:=oK (P:=X.prog) (w:=X.w) rel
 obtain ⟨z,hd,vs0,r0,dd⟩:=Lg I2.hok e
 cases r0
 refine ⟨rs,c,dd,λh' dd' hs=>⟨.ref s.heap.objs.size,_,?_,rfl,q2⟩⟩
 have hz:(gj [] kvs).length<=sizeLine:=by
  have h1:=js kvs []
  rw[OD] at h1
  rw[QS];omega
 have he:∃ q,h'.get? s.heap.objs.size=some q:=let ⟨q,_,_,hq,_⟩:=dd';⟨q,hq⟩
 exact Ey I2 (by rw[e];exact PK) hs he (Hy hz hd (rk.merge .nil) dd')
section
variable {X:Cx} {pins:List (Addr×Obj)} {σ:St} {H:Hp} {s:ND} {a:Addr} {y d:V} {u r:NC} {o:Option V} {A:N7} {E:NC->ND->Prop}
end
section
variable {X:Cx} {o e f:N1} {apos cpos:Pos} {td ty tx:TE}
end
section
variable {X:Cx} {pins:List (Addr×Obj)} {σ:St} {H:Hp} {s:ND} {a:Addr} {kvs:List (Key×V)} {A:N7} {E:NC->ND->Prop}
end
section
variable {X:Cx} {pins:List (Addr×Obj)} {σ:St} {H:Hp} {s:ND} {a:Addr} {y:V} {u:NC} {A:N7} {E:NC->ND->Prop}
end
end L2
namespace L3
open PySem
local macro_rules | `(tactic| walk_at "ln")=>`(tactic| (intro ds μ Q h;split at h;rfl;exact h.elim))
theorem Jn {p q:Prop}(a:p)(b:q):p/\q:=⟨a,b⟩
inductive D where
 | non | bl (b:Bool) | int (i:Int) | str (x:Str) | ty (n:String) | tup (ds:List D) | ls (ds:List D) | obj (a:Addr)
inductive MO where
 | lst (ds:List D)
 | dct (kvs:List (L2.Key×D))
 | dcT (kvs:List (List L2.Key×D))
 | dcF (kvs:List (L2.Key×D))
abbrev Mu:=Addr->Option MO
def up (μ:Mu)(a:Addr)(o:MO):Mu:=λb=>if b=a then some o else μ b
theorem aX {μ:Mu}{a:Addr}{o:MO}:up μ a o a=some o:=by unfold up;rw[if_pos rfl]
theorem cJ {μ:Mu}{a b:Addr}{o:MO}(h:b≠a):up μ a o b=μ b:=by unfold up;rw[if_neg h]
theorem mW {μ:Mu}{a:Addr}{o u:MO}:up (up μ a o) a u=up μ a u:=by
 funext b;unfold up;split<;>rfl
abbrev ST:=List (Option D)
abbrev DK:=D->Mu->Prop
abbrev ETr:=ST->Mu->DK->Prop
abbrev TTr:=ST->Mu->(Bool->Mu->Prop)->Prop
abbrev ATr:=ST->Mu->(List D->Mu->Prop)->Prop
abbrev DR:=D->Mu->DK->Prop
abbrev DR2:=D->D->Mu->DK->Prop
abbrev FSp:=List D->Mu->DK->Prop
def kcI (ds:List D)(f:Int->List D->Prop):Prop:=match ds with
 | .int i::r=>f i r
 | _=>False
theorem ecI {ds:List D}{f:Int->List D->Prop}(h:kcI ds f):∃ i r,ds=.int i::r/\f i r:=by
 cases ds with
 | nil=>exact NG h
 | cons d r=>cases d<;>first | exact ⟨_,_,rfl,h⟩ | exact NG h
theorem lcI {ds:List D}{f:Int->List D->Prop}{n:Nat}(h:kcI ds f)(k:∀ i r,f i r->r.length=n):ds.length=n+1:=by
 obtain ⟨i,r,e,h⟩:=ecI h
 rw[e,NN,k i r h]
def kcS (ds:List D)(f:Str->List D->Prop):Prop:=match ds with
 | .str i::r=>f i r
 | _=>False
theorem ecS {ds:List D}{f:Str->List D->Prop}(h:kcS ds f):∃ i r,ds=.str i::r/\f i r:=by
 cases ds with
 | nil=>exact NG h
 | cons d r=>cases d<;>first | exact ⟨_,_,rfl,h⟩ | exact NG h
theorem lcS {ds:List D}{f:Str->List D->Prop}{n:Nat}(h:kcS ds f)(k:∀ i r,f i r->r.length=n):ds.length=n+1:=by
 obtain ⟨i,r,e,h⟩:=ecS h
 rw[e,NN,k i r h]
def kcT (ds:List D)(f:List D->List D->Prop):Prop:=match ds with
 | .tup i::r=>f i r
 | _=>False
theorem ecT {ds:List D}{f:List D->List D->Prop}(h:kcT ds f):∃ i r,ds=.tup i::r/\f i r:=by
 cases ds with
 | nil=>exact NG h
 | cons d r=>cases d<;>first | exact ⟨_,_,rfl,h⟩ | exact NG h
theorem lcT {ds:List D}{f:List D->List D->Prop}{n:Nat}(h:kcT ds f)(k:∀ i r,f i r->r.length=n):ds.length=n+1:=by
 obtain ⟨i,r,e,h⟩:=ecT h
 rw[e,NN,k i r h]
def kcL (ds:List D)(f:List D->List D->Prop):Prop:=match ds with
 | .ls i::r=>f i r
 | _=>False
theorem ecL {ds:List D}{f:List D->List D->Prop}(h:kcL ds f):∃ i r,ds=.ls i::r/\f i r:=by
 cases ds with
 | nil=>exact NG h
 | cons d r=>cases d<;>first | exact ⟨_,_,rfl,h⟩ | exact NG h
theorem lcL {ds:List D}{f:List D->List D->Prop}{n:Nat}(h:kcL ds f)(k:∀ i r,f i r->r.length=n):ds.length=n+1:=by
 obtain ⟨i,r,e,h⟩:=ecL h
 rw[e,NN,k i r h]
def kcO (ds:List D)(f:Addr->List D->Prop):Prop:=match ds with
 | .obj i::r=>f i r
 | _=>False
theorem ecO {ds:List D}{f:Addr->List D->Prop}(h:kcO ds f):∃ i r,ds=.obj i::r/\f i r:=by
 cases ds with
 | nil=>exact NG h
 | cons d r=>cases d<;>first | exact ⟨_,_,rfl,h⟩ | exact NG h
theorem lcO {ds:List D}{f:Addr->List D->Prop}{n:Nat}(h:kcO ds f)(k:∀ i r,f i r->r.length=n):ds.length=n+1:=by
 obtain ⟨i,r,e,h⟩:=ecO h
 rw[e,NN,k i r h]
def kcA (ds:List D)(f:D->List D->Prop):Prop:=match ds with
 | i::r=>f i r
 | _=>False
theorem ecA {ds:List D}{f:D->List D->Prop}(h:kcA ds f):∃ i r,ds=i::r/\f i r:=by
 cases ds with
 | nil=>exact NG h
 | cons d r=>exact ⟨_,_,rfl,h⟩
theorem lcA {ds:List D}{f:D->List D->Prop}{n:Nat}(h:kcA ds f)(k:∀ i r,f i r->r.length=n):ds.length=n+1:=by
 obtain ⟨i,r,e,h⟩:=ecA h
 rw[e,NN,k i r h]
def kcN (ds:List D)(P:Prop):Prop:=match ds with
 | []=>P
 | _=>False
theorem ecN {ds:List D}{P:Prop}(h:kcN ds P):ds=[]/\P:=by
 cases ds with
 | nil=>exact ⟨rfl,h⟩
 | cons d r=>exact NG h
structure En where
 nx:ST->Mu->Prop
 rt:DK
 bk:ST->Mu->Prop:=λ_ _=>False
 ct:ST->Mu->Prop:=λ_ _=>False
abbrev STr:=En->ST->Mu->Prop
abbrev GTr:=D->ST->Mu->(ST->Mu->Prop)->Prop
def kIf (c:Bool)(A B:Prop):Prop:=match c with
 | true=>A
 | false=>B
def kB (x:D)(f:Bool->Prop):Prop:=match x with
 | .bl c=>f c
 | _=>False
def kI (x:D)(f:Int->Prop):Prop:=match x with
 | .int c=>f c
 | _=>False
def kO (x:Option D)(f:D->Prop):Prop:=match x with
 | some d=>f d
 | none=>False
def kS (x:D)(f:List D->Prop):Prop:=match x with
 | .tup ds=>f ds
 | .ls ds=>f ds
 | _=>False
def k2 (ds:List D)(f:D->D->Prop):Prop:=match ds with
 | [v,w]=>f v w
 | _=>False
def kL (μ:Mu)(a:Addr)(f:List D->Prop):Prop:=match μ a with
 | some (.lst ds)=>f ds
 | _=>False
def kD (μ:Mu)(a:Addr)(f:List (L2.Key×D)->Prop):Prop:=match μ a with
 | some (.dct ds)=>f ds
 | _=>False
def kN (x:Option Nat)(f:Nat->Prop):Prop:=match x with
 | some d=>f d
 | none=>False
def lk:ST->Nat->Option D
 | [],_=>none
 | o::_,0=>o
 | _::r,n+1=>lk r n
def ai (i:Nat):ETr:=λρ μ Q=>kO (lk ρ i) λd=>Q d μ
def TC (d:D):ETr:=λ_ μ Q=>Q d μ
def aq (r:DR2)(a b:ETr):ETr:=λρ μ Q=>a ρ μ λx μ1=>b ρ μ1 λy μ2=>r x y μ2 Q
def TUn (r:DR)(a:ETr):ETr:=λρ μ Q=>a ρ μ λx μ1=>r x μ1 Q
def S64 (i:Int):Prop:=-18446744073709551616 < i/\i < 18446744073709551616
def bx (i:Int):Prop:=-115792089237316195423570985008687907853269984665640564039457584007913129639936 < i/\i < 115792089237316195423570985008687907853269984665640564039457584007913129639936
def MulOk (i j:Int):Prop:=(S64 i∨S64 j)∨(bx i/\bx j)
def iJ (j:Int):Prop:=j≠0/\bx j
def o8 (i j:Int):Prop:=0<=j/\j<=1000000/\i.natAbs < 18446744073709551616
def uF:DR2:=λx y μ Q=>match x,y with
 | .int i,.int j=>Q (.int (i - j)) μ
 | _,_=>False
def gB:DR2:=λx y μ Q=>match x,y with
 | .int i,.int j=>MulOk i j/\Q (.int (i*j)) μ
 | _,_=>False
def jc:DR2:=λx y μ Q=>match x,y with
 | .int i,.int j=>iJ j/\Q (.int (i.fdiv j)) μ
 | _,_=>False
def fR:DR2:=λx y μ Q=>match x,y with
 | .int i,.int j=>j≠0/\Q (.int (i.fmod j)) μ
 | _,_=>False
def uc:DR2:=λx y μ Q=>match x,y with
 | .int i,.int j=>o8 i j/\Q (.int (i ^ j.toNat)) μ
 | _,_=>False
def AJ:DR:=λx μ Q=>match x with
 | .int i=>Q (.int (-i)) μ
 | _=>False
def Dn (p:Int->Int->Bool):DR2:=λx y μ Q=>match x,y with
 | .int i,.int j=>Q (.bl (p i j)) μ
 | _,_=>False
def rLt:DR2:=Dn λi j=>decide (i < j)
def rLe:DR2:=Dn λi j=>decide (i<=j)
def rGt:DR2:=Dn λi j=>decide (j < i)
def rGe:DR2:=Dn λi j=>decide (j<=i)
mutual
def eqD:D->D->Bool
 | .non,.non=>true
 | .bl a,.bl b=>a == b
 | .int a,.int b=>decide (a=b)
 | .bl a,.int b=>decide ((if a then 1 else 0:Int)=b)
 | .int a,.bl b=>decide (a=(if b then 1 else 0:Int))
 | .str a,.str b=>decide (a=b)
 | .tup a,.tup b=>fY a b
 | .ls a,.ls b=>fY a b
 | _,_=>false
def fY:List D->List D->Bool
 | [],[]=>true
 | a::r,b::s=>eqD a b&&fY r s
 | _,_=>false
end
mutual
def okD:Nat->D->Bool
 | _,.non=>true
 | _,.bl _=>true
 | _,.int _=>true
 | _,.str x=>Oe x
 | n+1,.tup ds=>bR n ds
 | n+1,.ls ds=>bR n ds
 | _,_=>false
def bR:Nat->List D->Bool
 | _,[]=>true
 | n,d::ds=>okD n d&&bR n ds
end
def rEq:DR2:=λx y μ Q=>(okD 40 x=true/\okD 40 y=true)/\Q (.bl (eqD x y)) μ
def rNe:DR2:=λx y μ Q=>(okD 40 x=true/\okD 40 y=true)/\Q (.bl (!eqD x y)) μ
def rIs:DR2:=λx y μ Q=>match y with
 | .non=>(match x with
  | .non=>Q (.bl true) μ
  | _=>Q (.bl false) μ)
 | _=>False
def xp:DR2:=λx y μ Q=>match y with
 | .non=>(match x with
  | .non=>Q (.bl false) μ
  | _=>Q (.bl true) μ)
 | _=>False
def cZ (a b:ETr):ETr:=λρ μ Q=>a ρ μ λx μ1=>kB x λc=>kIf c (b ρ μ1 Q) (Q (.bl false) μ1)
def An (a b:ETr):ETr:=λρ μ Q=>a ρ μ λx μ1=>kB x λc=>kIf c (Q (.bl true) μ1) (b ρ μ1 Q)
def lr (a:ETr):ETr:=λρ μ Q=>a ρ μ λx μ1=>kB x λc=>Q (.bl (!c)) μ1
def TB (t:ETr):TTr:=λρ μ Q=>t ρ μ λx μ1=>kB x λc=>Q c μ1
def Jr (t u:TTr):TTr:=λρ μ Q=>t ρ μ λc μ1=>kIf c (u ρ μ1 Q) (Q false μ1)
def TOr (t u:TTr):TTr:=λρ μ Q=>t ρ μ λc μ1=>kIf c (Q true μ1) (u ρ μ1 Q)
def cg (t:TTr):TTr:=λρ μ Q=>t ρ μ λc μ1=>Q (!c) μ1
def Ar (c:TTr)(a b:ETr):ETr:=λρ μ Q=>c ρ μ λk μ1=>kIf k (a ρ μ1 Q) (b ρ μ1 Q)
def fK (r r':DR2)(a b c:ETr):ETr:=λρ μ Q=>a ρ μ λx μ1=>b ρ μ1 λy μ2=>r x y μ2 λz μ3=>kB z λk=>kIf k (c ρ μ3 λy' μ4=>r' y y' μ4 Q) (Q (.bl false) μ3)
def ar:ATr:=λ_ μ Q=>Q [] μ
def af (a:ETr)(r:ATr):ATr:=λρ μ Q=>a ρ μ λx μ1=>r ρ μ1 λxs μ2=>Q (x::xs) μ2
def aP (t:ATr):ETr:=λρ μ Q=>t ρ μ λds μ1=>ds.length<=1000000/\Q (.tup ds) μ1
def cF (t:ATr):ETr:=λρ μ Q=>t ρ μ λds μ1=>ds.length<=1000000/\Q (.ls ds) μ1
def xc (t:ATr):ETr:=λρ μ Q=>t ρ μ λds μ1=>ds.length<=1000000/\∀ p,μ1 p=none->Q (.obj p) (up μ1 p (.lst ds))
def au (sp:FSp)(t:ATr):ETr:=λρ μ Q=>t ρ μ λds μ1=>sp ds μ1 Q
def atD (ds:List D)(i:Int):Option D:=L2.atI ds i
def rIx:DR2:=λx y μ Q=>match x,y with
 | .tup ds,.int i=>kO (atD ds i) λd=>Q d μ
 | .ls ds,.int i=>kO (atD ds i) λd=>Q d μ
 | .obj a,.int i=>kL μ a λds=>kO (atD ds i) λd=>Q d μ
 | _,_=>False
def sG:FSp:=λds μ Q=>match ds with
 | [.int i]=>Q (.int (if i < 0 then -i else i)) μ
 | _=>False
def Lm:FSp:=λds μ Q=>match ds with
 | [.int i,.int j]=>Q (.int (if j > i then j else i)) μ
 | _=>False
def Lz:FSp:=λds μ Q=>match ds with
 | [.int i,.int j]=>Q (.int (if j < i then j else i)) μ
 | _=>False
def Ay:FSp:=λds μ Q=>match ds with
 | [.int i]=>Q (.int i) μ
 | [.bl k]=>Q (.int (if k then 1 else 0)) μ
 | _=>False
def e7:FSp:=λds μ Q=>match ds with
 | [.tup xs]=>Q (.int xs.length) μ
 | [.ls xs]=>Q (.int xs.length) μ
 | [.str x]=>x.length<=1000000/\Q (.int x.length) μ
 | [.obj a]=>kL μ a λxs=>Q (.int xs.length) μ
 | _=>False
def tyD:D->Option String
 | .non=>some "NoneType"
 | .bl _=>some "bool"
 | .int _=>some "int"
 | .str _=>some "str"
 | .tup _=>some "tuple"
 | .ls _=>some "list"
 | _=>none
def br (t c:String):Bool:=t == c || (t == "bool" && c == "int")
def zG (c:String):DR:=λx μ Q=>match tyD x with
 | some t=>Q (.bl (br t c)) μ
 | none=>False
def aY:STr:=λE ρ μ=>E.nx ρ μ
def aE (t u:STr):STr:=λE ρ μ=>t { E with nx:=u E } ρ μ
def wC:STr:=λE ρ μ=>E.bk ρ μ
def Bt:STr:=λE ρ μ=>E.ct ρ μ
def lD (e:ETr):STr:=λE ρ μ=>e ρ μ λ_ μ1=>E.nx ρ μ1
def aR (e:ETr):STr:=λE ρ μ=>e ρ μ E.rt
def DA:STr:=λE _ μ=>E.rt .non μ
def bI (c:TTr)(t u:STr):STr:=λE ρ μ=>c ρ μ λb μ1=>kIf b (t E ρ μ1) (u E ρ μ1)
def az (i:Nat):GTr:=λd ρ μ k=>k (ρ.set i (some d)) μ
def aU (e:ETr)(g:GTr):STr:=λE ρ μ=>e ρ μ λd μ1=>g d ρ μ1 E.nx
def xx (i j:Nat)(a:ATr):STr:=λE ρ μ=>a ρ μ λds μ1=>k2 ds λv w=>E.nx ((ρ.set i (some v)).set j (some w)) μ1
def EY (x z y:D)(μ:Mu)(f:Mu->Prop):Prop:=match x,z with
 | .obj a,.int n=>kL μ a λds=>kN (L2.ixN ds.length n) λj=>f (up μ a (.lst (ds.set j y)))
 | _,_=>False
def ff (o k e:ETr):STr:=λE ρ μ=>e ρ μ λy μ1=>o ρ μ1 λx μ2=>k ρ μ2 λz μ3=>EY x z y μ3 λμ4=>E.nx ρ μ4
def xq (c:TTr)(b:STr):STr:=λE ρ μ=>∃ (P:ST->Mu->Prop) (m:ST->Mu->Nat),P ρ μ/\∀ ρ μ,P ρ μ->
 c ρ μ λk μ1=>kIf k (b { E with nx:=λρ' μ'=>P ρ' μ'/\m ρ' μ' < m ρ μ,ct:=λρ' μ'=>P ρ' μ'/\m ρ' μ' < m ρ μ,bk:=E.nx } ρ μ1) (E.nx ρ μ1)
def forR (g:GTr)(b:STr)(E:En):List D->ST->Mu->Prop
 | [],ρ,μ=>E.nx ρ μ
 | d::r,ρ,μ=>g d ρ μ λρ1 μ1=>b { E with nx:=forR g b E r,ct:=forR g b E r,bk:=E.nx } ρ1 μ1
def qa (it:ATr)(g:GTr)(b:STr):STr:=λE ρ μ=>it ρ μ λds μ1=>forR g b E ds ρ μ1
def dm (lo:Int)(n:Nat):List D:=(OR n).map λi=>.int (lo+(i:Nat))
def cz (a:ETr):ATr:=λρ μ Q=>a ρ μ λx μ1=>kI x λj=>(-4611686018427387904<=j/\j < 4611686018427387904)/\Q (dm 0 j.toNat) μ1
def iC (a:ETr):ATr:=λρ μ Q=>a ρ μ λx μ1=>kS x λds=>Q ds μ1
def dn (μ:Mu)(a:Addr):Mu:=λb=>if b=a then none else μ b
theorem Ee {μ:Mu}{a:Addr}{o:MO}(h:μ a=none):dn (up μ a o) a=μ:=by
 funext b
 unfold dn up
 by_cases hb:b=a
 ·subst hb;simp[h]
 ·simp[hb]
def jY (ρ:ST)(n:Nat)(caps:List Nat):ST:=N8 n none++caps.map (lk ρ)
def ik (p:Addr)(G:GTr)(tt:TTr)(te:ETr)(ρc:ST)(K:Mu->Prop):List D->Mu->Prop
 | [],μ=>K μ
 | d::r,μ=>G d ρc μ λρ1 μ1=>tt ρ1 μ1 λb μ2=>kIf b (te ρ1 μ2 λy μ3=>kL μ3 p λzs=>zs.length < 1000000/\ik p G tt te ρc K r (up μ3 p (.lst (zs++[y])))) (ik p G tt te ρc K r μ2)
def cu (it:ATr)(G:GTr)(tt:TTr)(te:ETr)(n:Nat)(caps:List Nat):ETr:=λρ μ Q=>it ρ μ λds μ1=>∀ p,μ1 p=none->
 ik p G tt te (jY ρ n caps) (λμ'=>kL μ' p λzs=>Q (.ls zs) (dn μ' p)) ds (up μ1 p (.lst []))
def gh:TTr:=λ_ μ Q=>Q true μ
def BI:FSp:=λds μ Q=>match ds with
 | [.ls xs]=>∃ bs:List Bool,xs=bs.map .bl/\Q (.bl (bs.all id)) μ
 | _=>False
theorem f9 {g:GTr}{b:STr}{E:En}(P:List D->ST->Mu->Prop)(hnil:∀ ρ μ,P [] ρ μ->E.nx ρ μ)
  (hcons:∀ d r ρ μ (N:ST->Mu->Prop),P (d::r) ρ μ->(∀ ρ' μ',P r ρ' μ'->N ρ' μ')->g d ρ μ λρ1 μ1=>b { E with nx:=N,ct:=N,bk:=E.nx } ρ1 μ1) :
  ∀ (ds:List D) (ρ:ST) (μ:Mu),P ds ρ μ->forR g b E ds ρ μ
 | [],ρ,μ,h=>hnil ρ μ h
 | d::r,ρ,μ,h=>hcons d r ρ μ _ h λρ' μ' q=>f9 P hnil hcons r ρ' μ' q
section
open PySem PySem.Spec PyProof.Rows L2
def SqF (K:NB)(H:Hp)(a:Addr)(xs:List V):Prop:=
 (∃ o,H a=some (.frz o (.lst xs)))∨
  ∃ (o:Obj) (its:Array NC) (n:Nat),K.lookup a=some o/\o.cls=.type "list" /\ o.dict=none/\o.data=.seq its n/\its.size<=sizeLine/\Vals xs its.toList
theorem SqF.sq {K:NB}{H:Hp}{a:Addr}{xs:List V}(h:SqF K H a xs):SqL K H a xs:=by
 rcases h with h | h
 ·exact .inl (.inr h)
 ·exact .inr h
mutual
inductive Dp (K:NB) (H:Hp):V->D->Prop
 | non:Dp K H .non .non
 | bl (b:Bool):Dp K H (.bl b) (.bl b)
 | int (n:Int):Dp K H (.int n) (.int n)
 | str (z:Str):Dp K H (.str z) (.str z)
 | ty (n:String):Dp K H (.ty n) (.ty n)
 | tup {a:Addr} {xs:List V} {ds:List D}:SqT K H a xs->DpL K H xs ds->Dp K H (.ref a) (.tup ds)
 | ls {a:Addr} {xs:List V} {ds:List D}:SqF K H a xs->DpL K H xs ds->Dp K H (.ref a) (.ls ds)
 | obj (a:Addr):Dp K H (.ref a) (.obj a)
inductive DpL (K:NB) (H:Hp):List V->List D->Prop
 | nil:DpL K H [] []
 | cons {v:V} {d:D} {vs:List V} {ds:List D}:Dp K H v d->DpL K H vs ds->DpL K H (v::vs) (d::ds)
end
structure Tk (H H':Hp):Prop where
 tup:∀ a xs,H a=some (.tup xs)->H' a=some (.tup xs)
 frz:∀ a o u,H a=some (.frz o u)->H' a=some (.frz o u)
theorem Tk.refl (H:Hp):Tk H H:=⟨λ_ _ h=>h,λ_ _ _ h=>h⟩
theorem Tk.trans {H H1 H2:Hp}(a:Tk H H1)(b:Tk H1 H2):Tk H H2:=⟨λc xs h=>b.tup c xs (a.tup c xs h),λc o u h=>b.frz c o u (a.frz c o u h)⟩
theorem Tk.upd {H:Hp}{a:Addr}{o:HO}(h1:∀ xs,H a≠some (.tup xs))(h2:∀ o u,H a≠some (.frz o u)):Tk H (L2.upd H a o):=
 ⟨λb xs h=>by rw[aT (λz=>by subst z;exact h1 _ h)];exact h,λb o u h=>by rw[aT (λz=>by subst z;exact h2 _ _ h)];exact h⟩
theorem Tk.new {H:Hp}{a:Addr}{o:HO}(h:H a=none):Tk H (L2.upd H a o):=.upd (λ_ e=>by rw[h] at e;cases e) λ_ _ e=>by rw[h] at e;cases e
theorem Tk.sqT {K:NB}{H H':Hp}{a:Addr}{xs:List V}(t:Tk H H')(h:SqT K H a xs):SqT K H' a xs:=by
 rcases h with (h | ⟨o,h⟩) | h
 ·exact .inl (.inl (t.tup _ _ h))
 ·exact .inl (.inr ⟨o,t.frz _ _ _ h⟩)
 ·exact .inr h
theorem Tk.sqF {K:NB}{H H':Hp}{a:Addr}{xs:List V}(t:Tk H H')(h:SqF K H a xs):SqF K H' a xs:=by
 rcases h with ⟨o,h⟩ | h
 ·exact .inl ⟨o,t.frz _ _ _ h⟩
 ·exact .inr h
mutual
theorem Dp.mono {K:NB}{H H':Hp}(t:Tk H H'):∀ {v:V} {d:D},Dp K H v d->Dp K H' v d
 | _,_,.non=>.non
 | _,_,.bl b=>.bl b
 | _,_,.int i=>.int i
 | _,_,.str x=>.str x
 | _,_,.ty n=>.ty n
 | _,_,.tup h l=>.tup (t.sqT h) (DpL.mono t l)
 | _,_,.ls h l=>.ls (t.sqF h) (DpL.mono t l)
 | _,_,.obj a=>.obj a
theorem DpL.mono {K:NB}{H H':Hp}(t:Tk H H'):∀ {vs:List V} {ds:List D},DpL K H vs ds->DpL K H' vs ds
 | _,_,.nil=>.nil
 | _,_,.cons h l=>.cons (Dp.mono t h) (DpL.mono t l)
end
theorem DpL.length {K:NB}{H:Hp}:∀ {vs:List V} {ds:List D},DpL K H vs ds->vs.length=ds.length
 | _,_,.nil=>rfl
 | _,_,.cons _ l=>by rw[NN,NN,DpL.length l]
theorem DpL.get {K:NB}{H:Hp}:∀ {vs:List V} {ds:List D} {i:Nat} {d:D},DpL K H vs ds->ds[i]? = some d->∃ v,vs[i]? = some v/\Dp K H v d
 | _,_,_,_,.nil,e=>by simp at e
 | _,_,0,_,.cons h _,e=>by simp at e;subst e;exact ⟨_,rfl,h⟩
 | _,_,i+1,d,.cons _ l,e=>by
  obtain ⟨v,e1,h⟩:=DpL.get (i:=i) (d:=d) l (by simpa using e)
  exact ⟨v,by simpa using e1,h⟩
theorem DpL.get' {K:NB}{H:Hp}:∀ {vs:List V} {ds:List D} {i:Nat} {v:V},DpL K H vs ds->vs[i]? = some v->∃ d,ds[i]? = some d/\Dp K H v d
 | _,_,_,_,.nil,e=>by simp at e
 | _,_,0,_,.cons h _,e=>by simp at e;subst e;exact ⟨_,rfl,h⟩
 | _,_,i+1,d,.cons _ l,e=>by
  obtain ⟨v,e1,h⟩:=DpL.get' (i:=i) (v:=d) l (by simpa using e)
  exact ⟨v,by simpa using e1,h⟩
theorem DpL.set {K:NB}{H:Hp}{v:V}{d:D}(h:Dp K H v d):∀ {vs:List V} {ds:List D} (i:Nat),DpL K H vs ds->DpL K H (vs.set i v) (ds.set i d)
 | _,_,_,.nil=>.nil
 | _,_,0,.cons _ l=>.cons h l
 | _,_,i+1,.cons q l=>.cons q (DpL.set h i l)
theorem DpL.append {K:NB}{H:Hp}:∀ {vs ws:List V} {ds es:List D},DpL K H vs ds->DpL K H ws es->DpL K H (vs++ws) (ds++es)
 | _,_,_,_,.nil,s=>s
 | _,_,_,_,.cons h l,s=>.cons h (DpL.append l s)
theorem DpL.at {K:NB}{H:Hp}{vs:List V}{ds:List D}{i:Int}{d:D}(l:DpL K H vs ds)(e:atD ds i=some d):∃ v,atI vs i=some v/\Dp K H v d:=by
 unfold atD atI at e
 unfold atI
 rw[l.length]
 cases q:ixN ds.length i with
 | none=>rw[q] at e;cases e
 | some j=>
  rw[q] at e
  exact l.get e
def DpK {κ:Type}(K:NB)(H:Hp)(xs:List (κ×V))(kvs:List (κ×D)):Prop:=xs.map (·.1)=kvs.map (·.1)/\DpL K H (xs.map (·.2)) (kvs.map (·.2))
theorem DpK.mono {κ:Type}{K:NB}{H H':Hp}(t:Tk H H'){xs:List (κ×V)}{kvs:List (κ×D)}(h:DpK K H xs kvs):DpK K H' xs kvs:=⟨h.1,h.2.mono t⟩
def xm (K:NB)(H:Hp)(a:Addr):MO->Prop
 | .lst ds=>∃ xs,H a=some (.lst xs)/\DpL K H xs ds
 | .dct kvs=>∃ xs,H a=some (.dK xs)/\DpK K H xs kvs
 | .dcT kvs=>∃ xs,H a=some (.dT xs)/\DpK K H xs kvs
 | .dcF kvs=>∃ xs,(∃ o,H a=some (.frz o (.dK xs)))/\DpK K H xs kvs
theorem xm.go {K:NB}{H H':Hp}{a:Addr}{o:MO}(h:xm K H a o)(t:Tk H H')(k:∀ u,H a=some u->H' a=some u):xm K H' a o:=by
 cases o<;>(obtain ⟨xs,z,l⟩:=h;first | exact ⟨xs,k _ z,l.mono t⟩ | (obtain ⟨o,z⟩:=z;exact ⟨xs,⟨o,k _ z⟩,l.mono t⟩))
theorem xm.ne {K:NB}{H:Hp}{a q:Addr}{o:MO}{u:HO}(h:xm K H a o)(t:Tk H (L2.upd H q u))(k:a≠q):xm K (L2.upd H q u) a o:=h.go t λ_ e=>by rw[aT k];exact e
def bV (K:NB)(H:Hp)(μ:Mu):Prop:=∀ a o,μ a=some o->xm K H a o
theorem bV.free {K:NB}{H:Hp}{μ:Mu}(h:bV K H μ){a:Addr}(e:H a=none):μ a=none:=by
 cases q:μ a with
 | none=>rfl
 | some o=>
  cases o<;>(obtain ⟨xs,z,_⟩:=h a _ q;first | (rw[e] at z;cases z;done) | (obtain ⟨o,z⟩:=z;rw[e] at z;cases z))
theorem bV.keep {K:NB}{H H':Hp}{μ:Mu}(h:bV K H μ)(t:Tk H H')(k:∀ a u,μ a≠none->H a=some u->H' a=some u):bV K H' μ:=λa o e=>by
 exact (h a _ e).go t λu z=>k a u (by rw[e];simp) z
def Sub (μ μ':Mu):Prop:=∀ a o,μ a=some o->μ' a=some o
theorem Sub.refl (μ:Mu):Sub μ μ:=λ_ _ h=>h
theorem Sub.new {μ:Mu}{p:Addr}{o:MO}(h:μ p=none):Sub μ (up μ p o):=λa u e=>by
 rw[cJ (λz=>by subst z;rw[h] at e;cases e)];exact e
theorem Sub.trans {μ μ1 μ2:Mu}(a:Sub μ μ1)(b:Sub μ1 μ2):Sub μ μ2:=λc o h=>b c o (a c o h)
theorem bV.sub {K:NB}{H:Hp}{μ μ':Mu}(h:bV K H μ')(s:Sub μ μ'):bV K H μ:=λa o e=>h a o (s a o e)
structure Rl (K:NB) (σ:L2.St) (H:Hp) (ρ:ST) (μ:Mu):Prop where
 len:ρ.length=σ.length
 loc:∀ i d,lk ρ i=some d->∃ v,σ[i]? = some (some v)/\Dp K H v d
 mu:bV K H μ
theorem Rl.go {K:NB}{σ:L2.St}{H H':Hp}{ρ:ST}{μ μ':Mu}(r:Rl K σ H ρ μ)(t:Tk H H')(m:bV K H' μ'):Rl K σ H' ρ μ':=
 ⟨r.len,λi d e=>let ⟨v,h1,h2⟩:=r.loc i d e;⟨v,h1,h2.mono t⟩,m⟩
theorem Dq:∀ (ρ:ST) (i j:Nat) (d:D),lk (ρ.set i (some d)) j=if i=j/\i < ρ.length then some d else lk ρ j
 | [],i,j,d=>by simp[lk]
 | o::r,0,0,d=>by simp[lk]
 | o::r,0,j+1,d=>by simp[lk]
 | o::r,i+1,0,d=>by simp[lk]
 | o::r,i+1,j+1,d=>by
  show lk (r.set i (some d)) j=_
  rw[Dq r i j d]
  simp[lk]
theorem Rl.set {K:NB}{σ:L2.St}{H:Hp}{ρ:ST}{μ:Mu}(r:Rl K σ H ρ μ){v:V}{d:D}(h:Dp K H v d)(i:Nat):Rl K (σ.set i (some v)) H (ρ.set i (some d)) μ:=by
 refine ⟨by simp[r.len],λj e q=>?_,r.mu⟩
 rw[Dq] at q
 split at q
 ·rename_i hc
  obtain ⟨rfl,hlt⟩:=hc
  cases q
  exact ⟨v,by rw[Qs (by rw[← r.len];exact hlt)],h⟩
 ·rename_i hc
  obtain ⟨u,h1,h2⟩:=r.loc j e q
  by_cases hij:i=j
  ·subst hij
   have:¬ i < ρ.length:=λz=>hc ⟨rfl,z⟩
   have hn:σ[i]? = none:=List.getElem?_eq_none_iff.mpr (by rw[← r.len];omega)
   rw[hn] at h1;cases h1
  ·exact ⟨u,by rw[PX hij];exact h1,h2⟩
abbrev iz (K:NB)(H:Hp)(Q:DK)(Q':VK):Prop:=∀ v H' d μ',Tk H H'->bV K H' μ'->Dp K H' v d->Q d μ'->Q' v H'
def Sim (K:NB)(t:TE)(T:ETr):Prop:=∀ σ H ρ μ (Q:DK) (Q':VK),Rl K σ H ρ μ->T ρ μ Q->iz K H Q Q'->t σ H Q'
def FY (K:NB)(t:TT)(T:TTr):Prop:=∀ σ H ρ μ (Q:Bool->Mu->Prop) (Q':Bool->Hp->Prop),Rl K σ H ρ μ->T ρ μ Q->(∀ b H' μ',Tk H H'->bV K H' μ'->Q b μ'->Q' b H')->t σ H Q'
def MD (K:NB)(t:TA)(T:ATr):Prop:=∀ σ H ρ μ (Q:List D->Mu->Prop) (Q':List V->Hp->Prop),Rl K σ H ρ μ->T ρ μ Q->(∀ vs H' ds μ',Tk H H'->bV K H' μ'->DpL K H' vs ds->Q ds μ'->Q' vs H')->t σ H Q'
abbrev vv (K:NB)(H:Hp)(N:ST->Mu->Prop)(N':L2.St->Hp->Prop):Prop:=∀ σ' H' ρ' μ',Tk H H'->Rl K σ' H' ρ' μ'->N ρ' μ'->N' σ' H'
structure D0 (K:NB) (H:Hp) (E:En) (E':Ends):Prop where
 nx:vv K H E.nx E'.nx
 rt:iz K H E.rt E'.rt
 bk:vv K H E.bk E'.bk
 ct:vv K H E.ct E'.ct
theorem D0.go {K:NB}{H H1:Hp}{E:En}{E':Ends}(e:D0 K H E E')(t:Tk H H1):D0 K H1 E E':=
 ⟨λ_ _ _ _ t'=>e.nx _ _ _ _ (t.trans t'),λ_ _ _ _ t'=>e.rt _ _ _ _ (t.trans t'),λ_ _ _ _ t'=>e.bk _ _ _ _ (t.trans t'),λ_ _ _ _ t'=>e.ct _ _ _ _ (t.trans t')⟩
def Kd (K:NB)(t:TS)(T:STr):Prop:=∀ σ H ρ μ (E:En) (E':Ends),Rl K σ H ρ μ->T E ρ μ->D0 K H E E'->t E' σ H
def IC (K:NB)(g:TG)(G:GTr):Prop:=∀ σ H ρ μ v d (k:ST->Mu->Prop) (k':L2.St->Hp->Prop),Rl K σ H ρ μ->Dp K H v d->G d ρ μ k->vv K H k k'->g v σ H k'
structure LE (X:Cx) (e:N1) (T:ETr):Prop where
 ex:∃ t,PE X e t/\Sim X.K t T
structure LT (X:Cx) (e:N1) (T:TTr):Prop where
 ex:∃ t,PT X e t/\FY X.K t T
structure LW (X:Cx) (e:N1) (T:TTr):Prop where
 ex:∃ t,PW X e t/\FY X.K t T
structure LA (X:Cx) (es:List N1) (T:ATr):Prop where
 ex:∃ t,PA X es t/\MD X.K t T
structure LS (X:Cx) (st:Stmt) (T:STr):Prop where
 ex:∃ t,PS X st t/\Kd X.K t T
structure LSs (X:Cx) (sts:List Stmt) (T:STr):Prop where
 ex:∃ t,PSs X sts t/\Kd X.K t T
structure LG (X:Cx) (tg:N1) (G:GTr):Prop where
 ex:∃ g,PG X tg g/\IC X.K g G
section
variable {X:Cx} {a b c e:N1} {Ta Tb Tc:ETr} {pos:Pos}
theorem ag (i:Nat){x:Str}(hN:X.N[i]? = some x:=by rfl)(hv:Vis X.env.scope x:=by first | exact Sx rfl | exact RB (Sx rfl) | exact RB (RB rfl))(hd:(x == ("__debug__" : Str))=false:=by decide)
  (hcd:(x == ("__classdict__" : Str))=false:=by decide):LE X (.Name x pos) (ai i):=
 ⟨_,Eh hN hv hd hcd,λσ H ρ μ Q Q' r h k=>by
  have h:kO (lk ρ i) λd=>Q d μ:=h
  cases q:lk ρ i with
  | none=>rw[q] at h;exact NG h
  | some d=>
   rw[q] at h
   have h:Q d μ:=h
   obtain ⟨v,e1,p⟩:=r.loc i d q
   exact ⟨v,e1,k v H d μ (.refl H) r.mu p h⟩⟩
theorem le_int {i:Int}{j}:LE X (.Constant (.int i) j pos) (TC (.int i)):=⟨_,DC,λσ H ρ μ Q Q' r h k=>k _ H _ μ (.refl H) r.mu (.int i) h⟩
theorem bK {b:Bool}{j}:LE X (.Constant (.bool b) j pos) (TC (.bl b)):=⟨_,Lp,λσ H ρ μ Q Q' r h k=>k _ H _ μ (.refl H) r.mu (.bl b) h⟩
theorem cG {j}:LE X (.Constant .none j pos) (TC .non):=⟨_,HK,λσ H ρ μ Q Q' r h k=>k _ H _ μ (.refl H) r.mu .non h⟩
theorem le_str {x:Str}{j}:LE X (.Constant (.str x) j pos) (TC (.str x)):=⟨_,Jx,λσ H ρ μ Q Q' r h k=>k _ H _ μ (.refl H) r.mu (.str x) h⟩
def cL (K:NB)(r:R2)(R:DR2):Prop:=∀ H μ x y dx dy (Q:DK) (Q':VK),bV K H μ->Dp K H x dx->Dp K H y dy->R dx dy μ Q->iz K H Q Q'->r x y H Q'
def Lh (K:NB)(r:V->Hp->VK->Prop)(R:DR):Prop:=∀ H μ x dx (Q:DK) (Q':VK),bV K H μ->Dp K H x dx->R dx μ Q->iz K H Q Q'->r x H Q'
theorem iz.go {K:NB}{H H1:Hp}{Q:DK}{Q':VK}(k:iz K H Q Q')(t:Tk H H1):iz K H1 Q Q':=λv H' d μ' t'=>k v H' d μ' (t.trans t')
theorem ke {K:NB}{r:R2}{R:DR2}{ta tb:TE}(hr:cL K r R)(ha:Sim K ta Ta)(hb:Sim K tb Tb):Sim K (tOp r ta tb) (aq R Ta Tb):=λσ H ρ μ Q Q' rl h k=>
 ha σ H ρ μ _ _ rl h λx H1 dx μ1 t1 m1 p1 h1=>hb σ H1 ρ μ1 _ _ (rl.go t1 m1) h1 λy H2 dy μ2 t2 m2 p2 h2=>hr H2 μ2 x y dx dy Q Q' m2 (p1.mono t2) p2 h2 (k.go (t1.trans t2))
theorem kH {op:Operator}{r:R2}{R:DR2}(ho:OpR X (Pt op) r)(hr:cL X.K r R)(ha:LE X a Ta)(hb:LE X b Tb):LE X (.BinOp a op b pos) (aq R Ta Tb):=by
 obtain ⟨ta,pa,sa⟩:=ha.ex
 obtain ⟨tb,pb,sb⟩:=hb.ex
 exact ⟨_,GN ho pa pb,ke hr sa sb⟩
theorem gK {op:TF}{r:R2}{R:DR2}(ho:OpR X (OA op) r)(hr:cL X.K r R)(ha:LE X a Ta)(hb:LE X b Tb)(hm:Pa op b=false):LE X (.Compare a [op] [b] pos) (aq R Ta Tb):=by
 obtain ⟨ta,pa,sa⟩:=ha.ex
 obtain ⟨tb,pb,sb⟩:=hb.ex
 exact ⟨_,FH ho pa pb hm,ke hr sa sb⟩
theorem wU {K:NB}{t:TE}{T:ETr}(h:Sim K t T):FY K (Bk t) (TB T):=λσ H ρ μ Q Q' rl hh k=>
 h σ H ρ μ _ _ rl hh λv H' d μ' t' m' p' h'=>by
  cases p' with
  | bl c=>exact ⟨c,rfl,k c H' μ' t' m' h'⟩
  | _=>exact NG h'
theorem II {K:NB}{t:TE}{T:ETr}(h:Sim K t T):FY K (tB t) (TB T):=λσ H ρ μ Q Q' rl hh k=>
 h σ H ρ μ _ _ rl hh λv H' d μ' t' m' p' h'=>by
  cases p' with
  | bl c=>exact ⟨c,rfl,k c H' μ' t' m' h'⟩
  | _=>exact NG h'
theorem ky {op:TF}{r:R2}{R:DR2}(ho:OpR X (OA op) r)(hr:cL X.K r R)(ha:LE X a Ta)(hb:LE X b Tb)(hm:Pa op b=false):LT X (.Compare a [op] [b] pos) (TB (aq R Ta Tb)):=by
 obtain ⟨ta,pa,sa⟩:=ha.ex
 obtain ⟨tb,pb,sb⟩:=hb.ex
 exact ⟨_,yV ho pa pb hm,wU (ke hr sa sb)⟩
theorem rq {K:NB}{C:Int->Int->Prop}{g:Int->Int->V}{R:DR2}(f:Int->Int->D)(hg:∀ H i j,Dp K H (g i j) (f i j))(hR:∀ i j μ Q,R (.int i) (.int j) μ Q->C i j/\Q (f i j) μ)
  (hn:∀ dx dy μ Q,R dx dy μ Q->(∃ i,dx=.int i)/\∃ j,dy=.int j):cL K (rI C g) R:=λH μ x y dx dy Q Q' m px py h k=>by
 obtain ⟨⟨i,rfl⟩,j,rfl⟩:=hn _ _ _ _ h
 cases px;cases py
 obtain ⟨h1,h2⟩:=hR _ _ _ _ h
 exact ⟨i,j,rfl,rfl,h1,k _ H _ μ (.refl H) m (hg H i j) h2⟩
theorem zv {K:NB}{g:Int->Int->V}{R:DR2}(f:Int->Int->D)(hg:∀ H i j,Dp K H (g i j) (f i j))(hR:∀ i j μ Q,R (.int i) (.int j) μ Q->Q (f i j) μ)
  (hn:∀ dx dy μ Q,R dx dy μ Q->(∃ i,dx=.int i)/\∃ j,dy=.int j):cL K (rI0 g) R:=λH μ x y dx dy Q Q' m px py h k=>by
 obtain ⟨⟨i,rfl⟩,j,rfl⟩:=hn _ _ _ _ h
 cases px;cases py
 exact ⟨i,j,rfl,rfl,k _ H _ μ (.refl H) m (hg H i j) (hR _ _ _ _ h)⟩
theorem sP (ha:LE X a Ta)(hb:LE X b Tb):LE X (.BinOp a .Sub b pos) (aq uF Ta Tb):=kH JC (zv (λi j=>.int (i - j)) (λ_ _ _=>.int _) (λ_ _ _ _ h=>h) (λdx dy μ Q h=>by cases dx<;>cases dy<;>first | exact ⟨⟨_,rfl⟩,_,rfl⟩ | exact NG h)) ha hb
theorem bx.abs {j:Int}(h:bx j):j.natAbs < 2 ^ 256:=by
 have e:(2:Nat) ^ 256=115792089237316195423570985008687907853269984665640564039457584007913129639936:=by decide +kernel
 rw[e]
 obtain ⟨h1,h2⟩:=h
 omega
theorem MulOk.ok {i j:Int}(h:MulOk i j):IntMulOk i j:=by
 rcases h with (⟨h1,h2⟩ | ⟨h1,h2⟩) | ⟨h1,h2⟩
 ·exact .of_left (RA h1 h2)
 ·exact .of_right (RA h1 h2)
 ·exact .of_le (RJ h1.abs) (RJ h2.abs) (by decide)
theorem Gk:OpR X (Pt .Mult) (rI MulOk λi j=>.int (i*j)):=opI λ_ _ _ _ _ _ _ hc q=>mul_int q hc.ok
theorem iJ.np {i j:Int}(h:iJ j):Builtin.divisionGoesByPylong i j=false:=by
 refine PyProof.noPylong_of_log2 ?_
 have h0:j.natAbs≠0:=by have:=h.1;omega
 have:=(Nat.log2_lt h0).mpr h.2.abs
 omega
theorem ET:OpR X (Pt .FloorDiv) (rI (λ_ j=>iJ j) λi j=>.int (i.fdiv j)):=opI λ_ _ _ _ _ _ _ hc q=>floordiv_int hc.1 q (.inl hc.np)
theorem gy (ha:LE X a Ta)(hb:LE X b Tb):LE X (.BinOp a .FloorDiv b pos) (aq jc Ta Tb):=kH ET (rq (λi j=>.int (i.fdiv j)) (λ_ _ _=>.int _) (λ_ _ _ _ h=>⟨h.1,h.2⟩) (λdx dy μ Q h=>by cases dx<;>cases dy<;>first | exact ⟨⟨_,rfl⟩,_,rfl⟩ | exact NG h)) ha hb
theorem le_mul (ha:LE X a Ta)(hb:LE X b Tb):LE X (.BinOp a .Mult b pos) (aq gB Ta Tb):=kH Gk (rq (λi j=>.int (i*j)) (λ_ _ _=>.int _) (λ_ _ _ _ h=>⟨h.1,h.2⟩) (λdx dy μ Q h=>by cases dx<;>cases dy<;>first | exact ⟨⟨_,rfl⟩,_,rfl⟩ | exact NG h)) ha hb
theorem dJ (ha:LE X a Ta)(hb:LE X b Tb):LE X (.BinOp a .Mod b pos) (aq fR Ta Tb):=kH Fp (rq (λi j=>.int (i.fmod j)) (λ_ _ _=>.int _) (λ_ _ _ _ h=>⟨h.1,h.2⟩) (λdx dy μ Q h=>by cases dx<;>cases dy<;>first | exact ⟨⟨_,rfl⟩,_,rfl⟩ | exact NG h)) ha hb
theorem le_pow (ha:LE X a Ta)(hb:LE X b Tb):LE X (.BinOp a .Pow b pos) (aq uc Ta Tb):=kH Hx (rq (λi j=>.int (i ^ j.toNat)) (λ_ _ _=>.int _) (λ_ _ _ _ h=>⟨h.1,h.2⟩) (λdx dy μ Q h=>by cases dx<;>cases dy<;>first | exact ⟨⟨_,rfl⟩,_,rfl⟩ | exact NG h)) ha hb
theorem dj {K:NB}(p:Int->Int->Bool):cL K (rI0 λi j=>.bl (p i j)) (Dn p):=zv (λi j=>.bl (p i j)) (λ_ _ _=>.bl _) (λ_ _ _ _ h=>h) (λdx dy μ Q h=>by cases dx<;>cases dy<;>first | exact ⟨⟨_,rfl⟩,_,rfl⟩ | exact NG h)
theorem Lj (ha:LE X a Ta)(hb:LE X b Tb):LE X (.Compare a [.Lt] [b] pos) (aq rLt Ta Tb):=gK G8 (dj _) ha hb (gI _)
theorem Mm (ha:LE X a Ta)(hb:LE X b Tb):LE X (.Compare a [.Gt] [b] pos) (aq rGt Ta Tb):=gK GW (dj _) ha hb (gI _)
theorem L6 (ha:LE X a Ta)(hb:LE X b Tb):LE X (.Compare a [.GtE] [b] pos) (aq rGe Ta Tb):=gK LP (dj _) ha hb (gI _)
theorem Ll (ha:LE X a Ta)(hb:LE X b Tb):LT X (.Compare a [.Lt] [b] pos) (TB (aq rLt Ta Tb)):=ky G8 (dj _) ha hb (gI _)
theorem uo (ha:LE X a Ta)(hb:LE X b Tb):LT X (.Compare a [.Gt] [b] pos) (TB (aq rGt Ta Tb)):=ky GW (dj _) ha hb (gI _)
theorem Ma {op:UnaryOp}{r:V->Hp->VK->Prop}{R:DR}(ho:UnR X (unaryOp op) r)(hr:Lh X.K r R)(ha:LE X a Ta):LE X (.UnaryOp op a pos) (TUn R Ta):=by
 obtain ⟨ta,pa,sa⟩:=ha.ex
 exact ⟨_,L7 ho pa,λσ H ρ μ Q Q' rl h k=>sa σ H ρ μ _ _ rl h λx H1 dx μ1 t1 m1 p1 h1=>hr H1 μ1 x dx Q Q' m1 p1 h1 (k.go t1)⟩
theorem bh (ha:LE X a Ta)(he:∀ whole,isTrue a X.env whole=(do let v ← whole;standAt a.pos;Rr [v] (truthy v)):=by intro _;rfl):LT X a (TB Ta):=by
 obtain ⟨ta,pa,sa⟩:=ha.ex
 exact ⟨_,HE pa he,II sa⟩
variable {tA tB' tC':TTr} {rest:List N1}
theorem bb (ha:LT X a tA):LT X (.UnaryOp .Not a pos) (cg tA):=by
 obtain ⟨ta,pa,sa⟩:=ha.ex
 exact ⟨_,Ik pa,λσ H ρ μ Q Q' rl h k=>sa σ H ρ μ _ _ rl h λc H1 μ1 t1 m1 h1=>k (!c) H1 μ1 t1 m1 h1⟩
theorem LW.lt (h:LW X a tA):LT X a tA:=by
 obtain ⟨ta,pa,sa⟩:=h.ex
 exact ⟨_,pa.pt,sa⟩
theorem cS (ha:LT X a tA):LW X (.BoolOp .Or [a] pos) tA:=by
 obtain ⟨ta,pa,sa⟩:=ha.ex
 exact ⟨_,pw_or1 pa,sa⟩
theorem eA (ha:LT X a tA)(hb:LW X (.BoolOp .Or (b::rest) pos) tB'):LW X (.BoolOp .Or (a::b::rest) pos) (TOr tA tB'):=by
 obtain ⟨ta,pa,sa⟩:=ha.ex
 obtain ⟨tb,pb,sb⟩:=hb.ex
 refine ⟨_,pw_or pa pb,λσ H ρ μ Q Q' rl h k=>sa σ H ρ μ _ _ rl h λc H1 μ1 t1 m1 h1=>?_⟩
 cases c with
 | true=>exact tf (k true H1 μ1 t1 m1 h1)
 | false=>exact sf (sb σ H1 ρ μ1 Q Q' (rl.go t1 m1) h1 λb H2 μ2 t2=>k b H2 μ2 (t1.trans t2))
theorem du {op}(h:LE X a Ta):LE X (.BoolOp op [a] pos) Ta:=by
 obtain ⟨ta,pa,sa⟩:=h.ex
 exact ⟨_,JM pa,sa⟩
theorem dq (ha:LE X a Ta)(hb:LE X (.BoolOp .And (b::rest) pos) Tb):LE X (.BoolOp .And (a::b::rest) pos) (cZ Ta Tb):=by
 obtain ⟨ta,pa,sa⟩:=ha.ex
 obtain ⟨tb,pb,sb⟩:=hb.ex
 refine ⟨_,JJ pa pb,λσ H ρ μ Q Q' rl h k=>sa σ H ρ μ _ _ rl h λx H1 dx μ1 t1 m1 p1 h1=>?_⟩
 cases p1 with
 | bl c=>
  refine ⟨c,rfl,?_⟩
  cases c with
  | true=>exact tf (sb σ H1 ρ μ1 Q Q' (rl.go t1 m1) h1 (k.go t1))
  | false=>exact sf (k _ H1 _ μ1 t1 m1 (.bl _) h1)
 | _=>exact NG h1
theorem K0 (ha:LE X a Ta)(hb:LE X (.BoolOp .Or (b::rest) pos) Tb):LE X (.BoolOp .Or (a::b::rest) pos) (An Ta Tb):=by
 obtain ⟨ta,pa,sa⟩:=ha.ex
 obtain ⟨tb,pb,sb⟩:=hb.ex
 refine ⟨_,L5 pa pb,λσ H ρ μ Q Q' rl h k=>sa σ H ρ μ _ _ rl h λx H1 dx μ1 t1 m1 p1 h1=>?_⟩
 cases p1 with
 | bl c=>
  refine ⟨c,rfl,?_⟩
  cases c with
  | true=>exact tf (k _ H1 _ μ1 t1 m1 (.bl _) h1)
  | false=>exact sf (sb σ H1 ρ μ1 Q Q' (rl.go t1 m1) h1 (k.go t1))
 | _=>exact NG h1
theorem xD (ha:LE X a Ta):LE X (.UnaryOp .Not a pos) (lr Ta):=by
 obtain ⟨ta,pa,sa⟩:=ha.ex
 refine ⟨_,Kg pa,λσ H ρ μ Q Q' rl h k=>sa σ H ρ μ _ _ rl h λx H1 dx μ1 t1 m1 p1 h1=>?_⟩
 cases p1 with
 | bl c=>exact ⟨c,rfl,k _ H1 _ μ1 t1 m1 (.bl _) h1⟩
 | _=>exact NG h1
theorem HR (hc:LT X c tC')(ha:LE X a Ta)(hb:LE X b Tb):LE X (.IfExp c a b pos) (Ar tC' Ta Tb):=by
 obtain ⟨tc,pc,sc⟩:=hc.ex
 obtain ⟨ta,pa,sa⟩:=ha.ex
 obtain ⟨tb,pb,sb⟩:=hb.ex
 refine ⟨_,Du pc pa pb,λσ H ρ μ Q Q' rl h k=>sc σ H ρ μ _ _ rl h λq H1 μ1 t1 m1 h1=>?_⟩
 cases q with
 | true=>exact tf (sa σ H1 ρ μ1 Q Q' (rl.go t1 m1) h1 (k.go t1))
 | false=>exact sf (sb σ H1 ρ μ1 Q Q' (rl.go t1 m1) h1 (k.go t1))
variable {es:List N1} {At:ATr}
theorem aj:LA X [] ar:=⟨_,oN,λσ H ρ μ Q Q' rl h k=>k [] H [] μ (.refl H) rl.mu .nil h⟩
theorem ae (ha:LE X e Ta)(hr:LA X es At)(hs:NL (e::es) X.env=(false,O4 e X.env)::NL es X.env:=by rfl):LA X (e::es) (af Ta At):=by
 obtain ⟨ta,pa,sa⟩:=ha.ex
 obtain ⟨tr,pr,sr⟩:=hr.ex
 exact ⟨_,iV pa pr hs,λσ H ρ μ Q Q' rl h k=>sa σ H ρ μ _ _ rl h λx H1 dx μ1 t1 m1 p1 h1=>sr σ H1 ρ μ1 _ _ (rl.go t1 m1) h1 λxs H2 ds μ2 t2 m2 p2 h2=>k _ H2 _ μ2 (t1.trans t2) m2 (.cons (p1.mono t2) p2) h2⟩
theorem eI {K:NB}{H:Hp}{μ:Mu}{p:Addr}{o:HO}(m:bV K H μ)(hp:H p=none):bV K (L2.upd H p o) μ:=m.keep (.new hp) λa' xs' _ e=>by rw[aT (dM e hp)];exact e
theorem big {n:Nat}(h:n<=1000000):n<=sizeLine:=OJ h (by decide)
theorem aC {x1}(h:LA X es At):LE X (.Tuple es x1 pos) (aP At):=by
 obtain ⟨ta,pa,sa⟩:=h.ex
 refine ⟨_,IM pa,λσ H ρ μ Q Q' rl h k=>sa σ H ρ μ _ _ rl h λxs H1 ds μ1 t1 m1 p1 h1=>⟨by rw[p1.length];exact big h1.1,λp hp=>?_⟩⟩
 exact k _ _ _ μ1 (t1.trans (.new hp)) (eI m1 hp) (.tup (SqT.of aQ) (p1.mono (.new hp))) h1.2
theorem CO (h:LA X es At):LE X (.List es pos) (xc At):=by
 obtain ⟨ta,pa,sa⟩:=h.ex
 refine ⟨_,C8 pa,λσ H ρ μ Q Q' rl h k=>sa σ H ρ μ _ _ rl h λxs H1 ds μ1 t1 m1 p1 h1=>⟨by rw[p1.length];exact big h1.1,λp hp=>?_⟩⟩
 refine k _ _ _ (up μ1 p (.lst ds)) (t1.trans (.new hp)) (λa o e=>?_) (.obj p) (h1.2 p (m1.free hp))
 by_cases ha:a=p
 ·subst ha
  rw[aX] at e;cases e
  exact ⟨xs,aQ,p1.mono (.new hp)⟩
 ·rw[cJ ha] at e
  exact eI m1 hp a o e
def B0 (t:TE):TE:=λσ H Q=>t σ H λv H1=>∃ a xs,v=.ref a/\H1 a=some (.lst xs)/\∀ o,Q v (L2.upd H1 a (.frz o (.lst xs)))
theorem jC {t:TE}(h:PE X e t):PE X e (B0 t):=by
 intro pins s σ H Q I hh
 refine thn (h pins s σ H _ I hh) λu s1 ⟨v,H1,I1,r,a,xs,ev,ea,q⟩=>?_
 obtain ⟨z,its,n,rv,hg⟩:=(show cK X.prog X.w H1 s1.heap a (.lst xs) from I1.hok a _ ea)
 have nl:∀ b o,H1 b=some o->(∀ ys,o≠.lst ys)->b≠a:=λb o e1 e2 z=>by subst z;rw[ea] at e1;cases e1;exact e2 _ rfl
 refine ⟨v,_,I1.un (h':=s1.heap) (t':=s1.toks) (H':=L2.upd H1 a (.frz { cls:=.type "list", data:=.seq its.toArray n } (.lst xs))) ⟨λb o e _ _ _=>e,λb o e _ _ _=>⟨o.slots,e⟩,λb o e n _=>?_,λb o e _=>⟨o,e⟩,λb ys e=>?_,λb o u e=>?_,λb ps e=>⟨#[],?_⟩⟩ (λb u e=>?_),r,q _⟩
 ·rw[aT (λz=>by subst z;rw[ea] at n;cases n)];exact n
 ·rw[aT (nl b _ e (λ_=>nofun))];exact e
 ·rw[aT (nl b _ e (λ_=>nofun))];exact e
 ·rw[aT (nl b _ e (λ_=>nofun)),e];simp
 ·by_cases hb:b=a
  ·subst hb
   rw[aQ] at e;cases e
   exact ⟨hg,z,its,n,rv,hg⟩
  ·rw[aT hb] at e
   refine (I1.hok b u e).rT (λc w _ q=>q) (λc q=>?_) λc ys q=>?_
   ·rw[aT (nl c _ q (λ_=>nofun))];exact q
   ·rw[aT (nl c _ q (λ_=>nofun))];exact q
theorem bL (h:LA X es At):LE X (.List es pos) (cF At):=by
 obtain ⟨ta,pa,sa⟩:=h.ex
 refine ⟨_,jC (C8 pa),λσ H ρ μ Q Q' rl h k=>sa σ H ρ μ _ _ rl h λxs H1 ds μ1 t1 m1 p1 h1=>⟨by rw[p1.length];exact big h1.1,λp hp=>⟨p,xs,rfl,aQ,λo=>?_⟩⟩⟩
 have e:L2.upd (L2.upd H1 p (.lst xs)) p (.frz o (.lst xs))=L2.upd H1 p (.frz o (.lst xs)):=tP
 rw[e]
 exact k _ _ _ μ1 (t1.trans (.new hp)) (eI m1 hp) (.ls (.inl ⟨o,aQ⟩) (p1.mono (.new hp))) h1.2
end
end
section
open PySem PySem.Spec PyProof.Rows L2
mutual
def toP:D->PyData
 | .non=>.none
 | .bl b=>.bool b
 | .int i=>.int i
 | .str x=>.str x
 | .tup ds=>.tuple (jJ ds)
 | .ls ds=>.list (jJ ds)
 | .ty _=>.none
 | .obj _=>.none
def jJ:List D->List PyData
 | []=>[]
 | d::r=>toP d::jJ r
end
mutual
theorem gm:∀ (n:Nat) (d:D),okD n d=true->(toP d).canLay0=true/\(toP d).depth<=n
 | n,.non,_=>⟨rfl,Pb _⟩
 | n,.bl b,_=>⟨rfl,Pb _⟩
 | n,.int i,_=>⟨rfl,Pb _⟩
 | n,.str x,h=>⟨by cases n<;>exact h,Pb _⟩
 | n+1,.tup ds,h=>by
  obtain ⟨h1,h2⟩:=nt n ds h
  exact ⟨h1,Ui h2⟩
 | n+1,.ls ds,h=>by
  obtain ⟨h1,h2⟩:=nt n ds h
  exact ⟨h1,Ui h2⟩
 | 0,.tup ds,h=>by cases h
 | 0,.ls ds,h=>by cases h
 | n,.ty _,h=>by cases n<;>cases h
 | n,.obj _,h=>by cases n<;>cases h
theorem nt:∀ (n:Nat) (ds:List D),bR n ds=true->TQ (jJ ds)=true/\Ur (jJ ds)<=n
 | n,[],_=>⟨rfl,Pb _⟩
 | n,d::r,h=>by
  have h':okD n d=true/\bR n r=true:=by simpa[bR] using h
  obtain ⟨a1,a2⟩:=gm n d h'.1
  obtain ⟨b1,b2⟩:=nt n r h'.2
  refine ⟨?_,?_⟩
  ·show (UO (toP d)&&TQ (jJ r))=true
   rw[a1,b1];rfl
  ·show max (PyData.depth (toP d)) (Ur (jJ r))<=n
   exact Nat.max_le.mpr ⟨a2,b2⟩
end
theorem str_beq (a b:Str):(a == b)=decide (a=b):=by
 by_cases h:a=b
 ·subst h;simp
 ·rw[decide_eq_false h];exact beq_eq_false_iff_ne.mpr h
mutual
theorem mB:∀ (n m:Nat) (a b:D),okD n a=true->okD m b=true->Py (toP a) (toP b)=eqD a b
 | n,m,.non,b,_,hb=>by cases b<;>first | rfl | (cases m<;>cases hb)
 | n,m,.bl x,b,_,hb=>by
  cases b with
  | int y=>simp only[toP,Py,eqD];rw[QC]
  | ty _=>cases m<;>cases hb
  | obj _=>cases m<;>cases hb
  | _=>rfl
 | n,m,.int x,b,_,hb=>by
  cases b with
  | int y=>simp only[toP,Py,eqD];rw[QC]
  | bl y=>simp only[toP,Py,eqD];rw[QC]
  | ty _=>cases m<;>cases hb
  | obj _=>cases m<;>cases hb
  | _=>rfl
 | n,m,.str x,b,_,hb=>by
  cases b with
  | str y=>simp only[toP,Py,eqD];exact str_beq x y
  | ty _=>cases m<;>cases hb
  | obj _=>cases m<;>cases hb
  | _=>rfl
 | n+1,m,.tup xs,b,ha,hb=>by
  cases b with
  | tup ys=>
   cases m with
   | zero=>cases hb
   | succ m=>simp only[toP,Py,eqD];exact mY n m xs ys ha hb
  | ty _=>cases m<;>cases hb
  | obj _=>cases m<;>cases hb
  | _=>rfl
 | n+1,m,.ls xs,b,ha,hb=>by
  cases b with
  | ls ys=>
   cases m with
   | zero=>cases hb
   | succ m=>simp only[toP,Py,eqD];exact mY n m xs ys ha hb
  | ty _=>cases m<;>cases hb
  | obj _=>cases m<;>cases hb
  | _=>rfl
 | 0,_,.tup ds,_,h,_=>by cases h
 | 0,_,.ls ds,_,h,_=>by cases h
 | n,_,.ty _,_,h,_=>by cases n<;>cases h
 | n,_,.obj _,_,h,_=>by cases n<;>cases h
theorem mY:∀ (n m:Nat) (a b:List D),bR n a=true->bR m b=true->RC (jJ a) (jJ b)=fY a b
 | _,_,[],[],_,_=>rfl
 | _,_,[],_::_,_,_=>by simp[jJ,RC,fY]
 | _,_,_::_,[],_,_=>by simp[jJ,RC,fY]
 | n,m,a::r,b::s,ha,hb=>by
  have ha':okD n a=true/\bR n r=true:=by simpa[bR] using ha
  have hb':okD m b=true/\bR m s=true:=by simpa[bR] using hb
  show (Py (toP a) (toP b)&&RC (jJ r) (jJ s))=(eqD a b&&fY r s)
  rw[mB n m a b ha'.1 hb'.1,mY n m r s ha'.2 hb'.2]
end
section
variable {X:Cx} {pins:List (Addr×Obj)} {σ:L2.St} {H:Hp} {s:ND}
mutual
theorem di (I:Inv X pins σ H s):∀ {n:Nat} {v:V} {d:D} {u:NC},Dp X.K H v d->okD n d=true->RelV v u->∃ as,Reads s.heap u (toP d) as
 | n,_,_,u,.non,_,r=>by cases (show u=Pe from r);exact ⟨_,.none⟩
 | n,_,_,u,.bl b,_,r=>by cases (show u=RV b from r);exact ⟨_,.bool b⟩
 | n,_,_,u,.int i,_,r=>by obtain ⟨t,e⟩:=(show ∃ t,u=SI i t from r);subst e;exact ⟨_,.int i t⟩
 | n,_,_,u,.str x,_,r=>by obtain ⟨t,e⟩:=(show ∃ t,u=QF x t from r);subst e;exact ⟨_,.str x t⟩
 | n,_,_,u,.ty _,h,_=>by cases n<;>cases h
 | n+1,_,_,u,@Dp.tup _ _ a xs ds q l,h,r=>by
  cases (show u=OX a from r)
  obtain ⟨its,rv,⟨o,e1,e2,k,e3⟩,_⟩:=I.tuple q
  obtain ⟨as,ra⟩:=iw I (n:=n) l h rv
  exact ⟨_,.tuple e1 e2 e3 (by simpa using ra)⟩
 | n+1,_,_,u,@Dp.ls _ _ a xs ds q l,h,r=>by
  cases (show u=OX a from r)
  obtain ⟨its,rv,⟨o,k,e1,e2,_,e3⟩,_⟩:=I.list q.sq
  obtain ⟨as,ra⟩:=iw I (n:=n) l h rv
  exact ⟨_,.list e1 e2 e3 (by simpa using ra)⟩
 | 0,_,_,u,@Dp.tup _ _ a xs ds q l,h,r=>by cases h
 | 0,_,_,u,@Dp.ls _ _ a xs ds q l,h,r=>by cases h
 | n,_,_,u,.obj _,h,_=>by cases n<;>cases h
theorem iw (I:Inv X pins σ H s):∀ {n:Nat} {vs:List V} {ds:List D} {us:List NC},DpL X.K H vs ds->bR n ds=true->Vals vs us->∃ as,ReadsAll s.heap us (jJ ds) as
 | n,_,_,_,.nil,_,.nil=>⟨_,.nil⟩
 | n,_,_,_,@DpL.cons _ _ v d vs ds h l,ho,.cons r rs=>by
  have ho':okD n d=true/\bR n ds=true:=by simpa[bR] using ho
  obtain ⟨as,ra⟩:=di I h ho'.1 r
  obtain ⟨bs,rb⟩:=iw I l ho'.2 rs
  exact ⟨_,.cons ra rb⟩
end
end
def Fz (K:NB)(f:Bool->Bool):R2:=λx y H Q=>∃ dx dy,Dp K H x dx/\Dp K H y dy/\okD 40 dx=true/\okD 40 dy=true/\Q (.bl (f (eqD dx dy))) H
section
variable {X:Cx} {a b c e:N1} {Ta Tb Tc:ETr} {pos:Pos}
theorem Bz (hu:X.A.units+64 < cLine):OpR X (OA .Eq) (Fz X.K id):=λpins s σ H x y v u Q I rx ry ⟨dx,dy,px,py,ox,oy,q⟩=>by
 obtain ⟨as,ra⟩:=di I px ox rx
 obtain ⟨bs,rb⟩:=di I py oy ry
 obtain ⟨l1,d1⟩:=gm 40 dx ox
 obtain ⟨l2,d2⟩:=gm 40 dy oy
 exact SeqAt.compareEq_reads ra rb l1 l2 (by have:=Se (toP dx).depth (toP dy).depth;omega) ⟨.bl _,H,I,rfl,by rw[mB 40 40 dx dy ox oy];exact q⟩
theorem Km (hu:X.A.units+64 < cLine):OpR X (OA .NotEq) (Fz X.K not):=λpins s σ H x y v u Q I rx ry ⟨dx,dy,px,py,ox,oy,q⟩=>by
 obtain ⟨as,ra⟩:=di I px ox rx
 obtain ⟨bs,rb⟩:=di I py oy ry
 obtain ⟨l1,d1⟩:=gm 40 dx ox
 obtain ⟨l2,d2⟩:=gm 40 dy oy
 exact SeqAt.compareNe_reads ra rb l1 l2 (by have:=Se (toP dx).depth (toP dy).depth;omega) ⟨.bl _,H,I,rfl,by rw[mB 40 40 dx dy ox oy];exact q⟩
theorem CM {K:NB}:cL K (Fz K id) rEq:=λH μ x y dx dy Q Q' m px py h k=>⟨dx,dy,px,py,h.1.1,h.1.2,k _ H _ μ (.refl H) m (.bl _) h.2⟩
theorem Ih {K:NB}:cL K (Fz K not) rNe:=λH μ x y dx dy Q Q' m px py h k=>⟨dx,dy,px,py,h.1.1,h.1.2,k _ H _ μ (.refl H) m (.bl _) h.2⟩
theorem le_eq (hu:X.A.units+64 < cLine)(ha:LE X a Ta)(hb:LE X b Tb):LE X (.Compare a [.Eq] [b] pos) (aq rEq Ta Tb):=gK (Bz hu) CM ha hb (gI _)
theorem lt_eq (hu:X.A.units+64 < cLine)(ha:LE X a Ta)(hb:LE X b Tb):LT X (.Compare a [.Eq] [b] pos) (TB (aq rEq Ta Tb)):=ky (Bz hu) CM ha hb (gI _)
theorem KZ (hu:X.A.units+64 < cLine)(ha:LE X a Ta)(hb:LE X b Tb):LT X (.Compare a [.NotEq] [b] pos) (TB (aq rNe Ta Tb)):=ky (Km hu) Ih ha hb (gI _)
theorem KA {K:NB}:cL K (λx y H Q=>y=.non/\Q (.bl (decide (x=.non))) H) rIs:=λH μ x y dx dy Q Q' m px py h k=>by
 cases py with
 | non=>
  refine ⟨rfl,?_⟩
  cases px with
  | non=>exact k _ H _ μ (.refl H) m (.bl _) h
  | _=>exact k _ H _ μ (.refl H) m (.bl _) h
 | _=>exact NG h
theorem L8 (ha:LE X a Ta)(hb:LE X b Tb):LE X (.Compare a [.Is] [b] pos) (aq rIs Ta Tb):=gK Ig KA ha hb (gI _)
theorem qr {K:NB}{r r':R2}{R R':DR2}{ta tb tc:TE}(hr:cL K r R)(hr':cL K r' R')(ha:Sim K ta Ta)(hb:Sim K tb Tb)(hc:Sim K tc Tc):Sim K (xM r r' ta tb tc) (fK R R' Ta Tb Tc):=λσ H ρ μ Q Q' rl h k=>
 ha σ H ρ μ _ _ rl h λx H1 dx μ1 t1 m1 p1 h1=>hb σ H1 ρ μ1 _ _ (rl.go t1 m1) h1 λy H2 dy μ2 t2 m2 p2 h2=>hr H2 μ2 x y dx dy _ _ m2 (p1.mono t2) p2 h2 λz H3 dz μ3 t3 m3 p3 h3=>by
  cases p3 with
  | bl q=>
   refine ⟨q,rfl,?_⟩
   have t13:=t1.trans (t2.trans t3)
   cases q with
   | true=>exact tf (hc σ H3 ρ μ3 _ _ (rl.go t13 m3) h3 λw H4 dw μ4 t4 m4 p4 h4=>hr' H4 μ4 y w dy dw Q Q' m4 (p2.mono (t3.trans t4)) p4 h4 (k.go (t13.trans t4)))
   | false=>exact sf (k _ H3 _ μ3 t13 m3 (.bl _) h3)
  | _=>exact NG h3
theorem D2 {op op':TF}{r r':R2}{R R':DR2}(ho:OpR X (OA op) r)(ho':OpR X (OA op') r')(hr:cL X.K r R)(hr':cL X.K r' R')(ha:LE X a Ta)(hb:LE X b Tb)(hc:LE X c Tc)
  (hm:SJ [op,op'] [b,c]=false:=by with_unfolding_all rfl):LE X (.Compare a [op,op'] [b,c] pos) (fK R R' Ta Tb Tc):=by
 obtain ⟨ta,pa,sa⟩:=ha.ex
 obtain ⟨tb,pb,sb⟩:=hb.ex
 obtain ⟨tc,pc,sc⟩:=hc.ex
 exact ⟨_,DG ho ho' pa pb pc hm,qr hr hr' sa sb sc⟩
theorem F6 {K:NB}:Lh K (rU λi=>.int (-i)) AJ:=λH μ x dx Q Q' m px h k=>by
 cases px with
 | int i=>exact ⟨i,rfl,k _ H _ μ (.refl H) m (.int _) h⟩
 | _=>exact NG h
theorem le_neg (ha:LE X a Ta):LE X (.UnaryOp .USub a pos) (TUn AJ Ta):=Ma JU F6 ha
theorem tQ {o:Option D}{f:D->Prop}(h:kO o f):∃ d,o=some d/\f d:=by
 cases o with
 | none=>exact NG h
 | some d=>exact ⟨d,rfl,h⟩
theorem cO {μ:Mu}{a:Addr}{f:List D->Prop}(h:kL μ a f):∃ ds,μ a=some (.lst ds)/\f ds:=by
 unfold kL at h
 cases e:μ a with
 | none=>rw[e] at h;exact NG h
 | some o=>cases o with
  | lst ds=>rw[e] at h;exact ⟨ds,rfl,h⟩
  | _=>rw[e] at h;exact NG h
theorem JD {μ:Mu}{a:Addr}{f:List (Key×D)->Prop}(h:kD μ a f):∃ ds,μ a=some (.dct ds)/\f ds:=by
 unfold kD at h
 cases e:μ a with
 | none=>rw[e] at h;exact NG h
 | some o=>cases o with
  | dct ds=>rw[e] at h;exact ⟨ds,rfl,h⟩
  | _=>rw[e] at h;exact NG h
theorem v5 {o:Option Nat}{f:Nat->Prop}(h:kN o f):∃ d,o=some d/\f d:=by
 cases o with
 | none=>exact NG h
 | some d=>exact ⟨d,rfl,h⟩
theorem HA {K:NB}:cL K (L2.rIx K) L3.rIx:=λH μ x y dx dy Q Q' m px py h k=>by
 cases px with
 | @tup a xs ds q l=>
  cases py with
  | int i=>
   obtain ⟨d,e,h'⟩:=tQ h
   obtain ⟨v,e1,p⟩:=l.at e
   exact .inr (.inl ⟨a,xs,i,v,rfl,rfl,q,e1,k _ H _ μ (.refl H) m p h'⟩)
  | _=>exact NG h
 | @ls a xs ds q l=>
  cases py with
  | int i=>
   obtain ⟨d,e,h'⟩:=tQ h
   obtain ⟨v,e1,p⟩:=l.at e
   exact .inl ⟨a,xs,i,v,rfl,rfl,q.sq,e1,k _ H _ μ (.refl H) m p h'⟩
  | _=>exact NG h
 | obj a=>
  cases py with
  | int i=>
   obtain ⟨ds,e0,h1⟩:=cO h
   obtain ⟨d,e,h'⟩:=tQ h1
   obtain ⟨xs,ex,l⟩:=m a _ e0
   obtain ⟨v,e1,p⟩:=l.at e
   exact .inl ⟨a,xs,i,v,rfl,rfl,SqL.of ex,e1,k _ H _ μ (.refl H) m p h'⟩
  | _=>exact NG h
 | _=>cases py<;>exact NG h
theorem aF (ha:LE X a Ta)(hb:LE X b Tb)(hs:mI b:=by intro _ _;rfl):LE X (.Subscript a b pos) (aq L3.rIx Ta Tb):=by
 obtain ⟨ta,pa,sa⟩:=ha.ex
 obtain ⟨tb,pb,sb⟩:=hb.ex
 exact ⟨_,CL IH pa pb hs,ke HA sa sb⟩
variable {es:List N1} {At:ATr} {x:Str} {p:Pos} {id T:String}
def rV (K:NB)(r:List V->Hp->VK->Prop)(R:FSp):Prop:=∀ H μ xs ds (Q:DK) (Q':VK),bV K H μ->DpL K H xs ds->R ds μ Q->iz K H Q Q'->r xs H Q'
theorem qB {K:NB}{r:List V->Hp->VK->Prop}{R:FSp}{ta:TA}(hr:rV K r R)(ha:MD K ta At):Sim K (tCB r ta) (au R At):=λσ H ρ μ Q Q' rl h k=>
 ha σ H ρ μ _ _ rl h λxs H1 ds μ1 t1 m1 p1 h1=>hr H1 μ1 xs ds Q Q' m1 p1 h1 (k.go t1)
theorem bf {r:List V->Hp->VK->Prop}{R:FSp}(hc:cm X (.builtin id) r)(hr:rV X.K r R)(hg:Gl X x)(hm:X.mg x=none)(hv:Of x=some (.builtin id))(ha:LA X (e::es) At)(hn:x ≠ "__name__" := by decide)(hdb:(x == ("__debug__" : Str))=false:=by decide)
  (h1:NL (e::es) X.env=(false,O4 e X.env)::NL es X.env:=by rfl) (h2:(OB pos (NL es X.env)).any (·.1)=false:=by rfl):LE X (.Call (.Name x p) (e::es) [] pos) (au R At):=by
 obtain ⟨ta,pa,sa⟩:=ha.ex
 exact ⟨_,nN hc hg hm hv pa hn hdb h1 h2,qB hr sa⟩
theorem cb {r:List V->Hp->VK->Prop}{R:FSp}(hc:cm X (.type T) r)(hr:rV X.K r R)(hg:Gl X x)(hm:X.mg x=none)(hv:Of x=some (.type T))(ha:LA X (e::es) At)(hn:x ≠ "__name__" := by decide)(hdb:(x == ("__debug__" : Str))=false:=by decide)
  (h1:NL (e::es) X.env=(false,O4 e X.env)::NL es X.env:=by rfl) (h2:(OB pos (NL es X.env)).any (·.1)=false:=by rfl):LE X (.Call (.Name x p) (e::es) [] pos) (au R At):=by
 obtain ⟨ta,pa,sa⟩:=ha.ex
 exact ⟨_,qR hc hg hm hv pa hn hdb h1 h2,qB hr sa⟩
theorem kb {K:NB}:rV K (λxs H Q=>∃ i,xs=[.int i]/\Q (.int (if i < 0 then -i else i)) H) sG:=λH μ xs ds Q Q' m p h k=>by
 unfold sG at h
 split at h
 ·cases p with | cons p1 p2=>cases p2;cases p1;exact ⟨_,rfl,k _ H _ μ (.refl H) m (.int _) h⟩
 ·exact NG h
theorem FW {K:NB}:rV K (λxs H Q=>(∃ i,xs=[.int i]/\Q (.int i) H)∨∃ k,xs=[.bl k]/\Q (.int (if k then 1 else 0)) H) Ay:=λH μ xs ds Q Q' m p h k=>by
 unfold Ay at h
 split at h
 ·cases p with | cons p1 p2=>cases p2;cases p1;exact .inl ⟨_,rfl,k _ H _ μ (.refl H) m (.int _) h⟩
 ·cases p with | cons p1 p2=>cases p2;cases p1;exact .inr ⟨_,rfl,k _ H _ μ (.refl H) m (.int _) h⟩
 ·exact NG h
theorem cm.or {f:NC}{r r':List V->Hp->VK->Prop}(h:cm X f r)(h':cm X f r'):cm X f (λxs H Q=>r xs H Q∨r' xs H Q):=λpins s σ H xs us Q I rx q=>by
 rcases q with q | q
 ·exact h pins s σ H xs us Q I rx q
 ·exact h' pins s σ H xs us Q I rx q
theorem cM {K:NB}:rV K (λxs H Q=>(∃ p ys,xs=[.ref p]/\(SqL K H p ys∨SqT K H p ys)/\Q (.int ys.length) H)∨∃ z,xs=[.str z]/\z.length<=sizeLine/\Q (.int z.length) H) e7:=λH μ xs ds Q Q' m p h k=>by
 unfold e7 at h
 split at h
 ·cases p with | cons p1 p2=>cases p2;cases p1 with | tup q l=>exact .inl ⟨_,_,rfl,.inr q,k _ H _ μ (.refl H) m (by rw[l.length];exact .int _) h⟩
 ·cases p with | cons p1 p2=>cases p2;cases p1 with | ls q l=>exact .inl ⟨_,_,rfl,.inl q.sq,k _ H _ μ (.refl H) m (by rw[l.length];exact .int _) h⟩
 ·cases p with | cons p1 p2=>cases p2;cases p1;exact .inr ⟨_,rfl,big h.1,k _ H _ μ (.refl H) m (.int _) h.2⟩
 ·rename_i a
  cases p with | cons p1 p2=>
  cases p2;cases p1
  obtain ⟨ys,e0,h⟩:=cO h
  obtain ⟨xs,ex,l⟩:=m a _ e0
  exact .inl ⟨_,_,rfl,.inl (SqL.of ex),k _ H _ μ (.refl H) m (by rw[l.length];exact .int _) h⟩
 ·exact NG h
theorem bP:cm X (.builtin "len") (λxs H Q=>(∃ p ys,xs=[.ref p]/\(SqL X.K H p ys∨SqT X.K H p ys)/\Q (.int ys.length) H)∨∃ z,xs=[.str z]/\z.length<=sizeLine/\Q (.int z.length) H):=cm.or rn sR
end
end
section
open PySem PySem.Spec PyProof.Rows L2
def tys:List String:=["NoneType", "bool", "int", "str", "tuple", "list"]
def vZ:List String:=["bool", "int", "str", "tuple", "list", "dict"]
theorem ze (K:NB):∀ t∈tys,∀ c∈vZ,UP K (.type t) (.type c)=some (br t c):=by
 intro t ht c hc
 simp only[tys,N9,OL,or_false] at ht
 simp only[vZ,N9,OL,or_false] at hc
 rcases ht with rfl | rfl | rfl | rfl | rfl | rfl<;>rcases hc with rfl | rfl | rfl | rfl | rfl | rfl<;>with_unfolding_all rfl
theorem IV {d:D}{t:String}(h:tyD d=some t):t∈tys:=by
 cases d<;>simp[tyD] at h<;>subst h<;>decide
def Hh (K:NB):List V->Hp->VK->Prop:=λxs H Q=>∃ x d t c,xs=[x,.ty c]/\Dp K H x d/\tyD d=some t/\c∈vZ/\Q (.bl (br t c)) H
theorem Dv {X:Cx}:cm X (.builtin "isinstance") (Hh X.K):=λpins s σ H xs us Q I rx ⟨x,d,t,c,ex,px,et,hc,q⟩=>by
 subst ex
 cases rx with | @cons _ u _ _ r1 r2=>cases r2 with | cons r2 r3=>
 cases r3
 cases (show _=RW c from r2)
 have e:=ze X.K t (IV et) c hc
 have fin:∀ tk,EP X pins σ Q (.bool (br t c)) { s with toks:=tk }:=λtk=>⟨.bl _,H,I.tok tk,rfl,q⟩
 cases px with
 | non=>cases et;cases (show u=Pe from r1);exact O5 PySem.W.kitx_none I.kIn PK e (λz=>nomatch z) fin
 | bl y=>cases et;cases (show u=RV y from r1);exact O5 PySem.W.kitx_bool I.kIn PK e (λz=>nomatch z) fin
 | int i=>cases et;obtain ⟨t,z⟩:=(show ∃ t,u=SI i t from r1);cases z;exact O5 PySem.W.kitx_int I.kIn PK e (λz=>nomatch z) fin
 | str y=>cases et;obtain ⟨t,z⟩:=(show ∃ t,u=QF y t from r1);cases z;exact O5 PySem.W.kitx_str I.kIn PK e (λz=>nomatch z) fin
 | ty _=>cases et
 | obj _=>cases et
 | @tup a xs ds sq l=>
  cases et
  cases (show u=OX a from r1)
  obtain ⟨its,_,⟨o,h1,h2,_⟩,_⟩:=I.tuple sq
  exact O5 PySem.W.kitx_tuple I.kIn ⟨o,h1,h2⟩ e (λz=>nomatch z) fin
 | @ls a xs ds sq l=>
  cases et
  cases (show u=OX a from r1)
  obtain ⟨its,_,⟨o,n,h1,h2,_⟩,_⟩:=I.list sq.sq
  exact O5 TR I.kIn ⟨o,h1,h2⟩ e (λz=>nomatch z) fin
section
variable {X:Cx} {a b c e tg o:N1} {Ta Tb Tc:ETr} {pos:Pos} {es:List N1} {At:ATr} {x:Str} {p:Pos} {id T:String} {st:Stmt} {rest:List Stmt} {T1 T2:STr} {tA:TTr}
theorem aO:LSs X [] aY:=⟨_,Em,λσ H ρ μ E E' rl h k=>k.nx _ _ _ _ (.refl H) rl h⟩
theorem ao (h1:LS X st T1)(h2:LSs X rest T2):LSs X (st::rest) (aE T1 T2):=by
 obtain ⟨t1,p1,s1⟩:=h1.ex
 obtain ⟨t2,p2,s2⟩:=h2.ex
 exact ⟨_,DU p1 p2,λσ H ρ μ E E' rl h k=>s1 σ H ρ μ _ _ rl h ⟨λσ' H' ρ' μ' t' r' q=>s2 σ' H' ρ' μ' E E' r' q (k.go t'),k.rt,k.bk,k.ct⟩⟩
theorem av (h1:LS X st T1):LSs X [st] T1:=by
 obtain ⟨t1,p1,s1⟩:=h1.ex
 exact ⟨_,Fc p1,s1⟩
theorem rC (he:LE X e Ta)(hs:Q7 e none pos.line X.env=pure false:=by rfl):LS X (.Expr e pos) (lD Ta):=by
 obtain ⟨ta,pa,sa⟩:=he.ex
 exact ⟨_,EK pa hs,λσ H ρ μ E E' rl h k=>sa σ H ρ μ _ _ rl h λv H' d μ' t' m' p' h'=>k.nx _ _ _ _ t' (rl.go t' m') h'⟩
theorem aB (he:LE X e Ta):LS X (.Return (some e) pos) (aR Ta):=by
 obtain ⟨ta,pa,sa⟩:=he.ex
 exact ⟨_,Jt pa,λσ H ρ μ E E' rl h k=>sa σ H ρ μ _ _ rl h k.rt⟩
theorem bu {sa sb:List Stmt}(hc:LT X c tA)(ha:LSs X sa T1)(hb:LSs X sb T2):LS X (.If c sa sb pos) (bI tA T1 T2):=by
 obtain ⟨tc,pc,sc⟩:=hc.ex
 obtain ⟨t1,p1,s1⟩:=ha.ex
 obtain ⟨t2,p2,s2⟩:=hb.ex
 refine ⟨_,LJ pc p1 p2,λσ H ρ μ E E' rl h k=>sc σ H ρ μ _ _ rl h λq H1 μ1 t1' m1 h1=>?_⟩
 cases q with
 | true=>exact tf (s1 σ H1 ρ μ1 E E' (rl.go t1' m1) h1 (k.go t1'))
 | false=>exact sf (s2 σ H1 ρ μ1 E E' (rl.go t1' m1) h1 (k.go t1'))
theorem kX {K:NB}(i:Nat):IC K (oa i) (az i):=λσ H ρ μ v d k k' rl p h q=>q _ _ _ _ (.refl H) (rl.set p i) h
theorem jH (i:Nat)(hN:X.N.Nodup)(hi:X.N[i]? = some x:=by rfl)(hx:Loc X.env.scope x:=by first | exact Sx rfl | exact RB rfl)(hf:X.fn x=true∨X.env.scope.names.lookup x=some .local:=by first | exact .inl rfl | exact .inr rfl | assumption):LG X (.Name x pos) (az i):=
 ⟨_,mG hN hi hx hf,kX i⟩
theorem aH (i:Nat){pos':Pos}(hN:X.N.Nodup)(he:LE X e Ta)(hi:X.N[i]? = some x:=by rfl)(hx:Loc X.env.scope x:=by first | exact Sx rfl | exact RB rfl)(hs:Q7 e (some (.Name x pos')) pos.line X.env=pure false:=by rfl)
  (hf:X.fn x=true∨X.env.scope.names.lookup x=some .local:=by first | exact .inl rfl | exact .inr rfl | assumption):LS X (.Assign [.Name x pos'] e pos) (aU Ta (az i)):=by
 obtain ⟨ta,pa,sa⟩:=he.ex
 exact ⟨_,Kq hN hi hx pa hs hf,λσ H ρ μ E E' rl h k=>sa σ H ρ μ _ _ rl h λv H' d μ' t' m' p' h'=>kX i σ H' ρ μ' v d _ _ (rl.go t' m') p' h' (k.go t').nx⟩
theorem Eb (i j:Nat){y:Str}{px py pt:Pos}{kt k2 pt2}(hc:X.calm=true)(hN:X.N.Nodup)(ha:LA X [a,b] At)(hi:X.N[i]? = some x:=by rfl)(hj:X.N[j]? = some y:=by rfl)(hij:i≠j:=by decide)
  (hx:X.env.scope.names.lookup x=some .local:=by rfl) (hy:X.env.scope.names.lookup y=some .local:=by rfl)
  (hw:QN [.Tuple [.Name x px,.Name y py] kt pt] (.Tuple [a,b] k2 pt2) X.env=pure (some [x,y]):=by rfl)
  (hs:QM [.Tuple [.Name x px,.Name y py] kt pt] (.Tuple [a,b] k2 pt2) pos.line X.env=pure false:=by rfl) :
  LS X (.Assign [.Tuple [.Name x px,.Name y py] kt pt] (.Tuple [a,b] k2 pt2) pos) (xx i j At):=by
 obtain ⟨ta,pa,sa⟩:=ha.ex
 refine ⟨_,Ho hc hN hi hj hij hx hy pa hw hs,λσ H ρ μ E E' rl h k=>sa σ H ρ μ _ _ rl h λvs H' ds μ' t' m' p' h'=>?_⟩
 unfold L3.k2 at h'
 split at h'
 ·rename_i dv dw
  cases p' with | cons p1 p2=>cases p2 with | cons p2 p3=>
  cases p3
  exact ⟨_,_,rfl,k.nx _ _ _ _ t' (((rl.go t' m').set p1 i).set p2 j) h'⟩
 ·exact NG h'
theorem nL {Tk':ETr}{tpos:Pos}(ho:LE X o Ta)(hi:LE X b Tk')(he:LE X e Tb)
  (ha:∀ v,Ry (.Subscript o b tpos) X.env v=(do
   let ov ← Rr [v] (O4 o X.env)
   let iv ← Rr [v,ov] (O4 b X.env)
   standAt tpos
   Rr [v,ov,iv] (setItem ov iv v)
   release [v,ov,iv] []):=by intro _;rfl)
  (hs:QM [.Subscript o b tpos] e pos.line X.env=pure false:=by rfl) (hw:QN [.Subscript o b tpos] e X.env=pure none:=by rfl)
  (h1:(Pf [.Subscript o b tpos] X.env).map (·.2)=[Ry (.Subscript o b tpos) X.env]:=by rfl):LS X (.Assign [.Subscript o b tpos] e pos) (ff Ta Tk' Tb):=by
 obtain ⟨to,po,so⟩:=ho.ex
 obtain ⟨ti,pi,si⟩:=hi.ex
 obtain ⟨te,pe,se⟩:=he.ex
 refine ⟨_,De pe (J9 po pi set_list ha) hs hw h1,λσ H ρ μ E E' rl h k=>se σ H ρ μ _ _ rl h λy H1 dy μ1 t1 m1 p1 h1=>so σ H1 ρ μ1 _ _ (rl.go t1 m1) h1 λov H2 dov μ2 t2 m2 p2 h2=>
  si σ H2 ρ μ2 _ _ (rl.go (t1.trans t2) m2) h2 λiv H3 div μ3 t3 m3 p3 h3=>?_⟩
 cases p2 with
 | obj q=>
  cases p3 with
  | int n=>
   obtain ⟨ds,e0,h3'⟩:=cO h3
   obtain ⟨j,e1,h4⟩:=v5 h3'
   obtain ⟨xs,ex,l⟩:=m3 q _ e0
   refine ⟨q,xs,n,j,rfl,rfl,ex,by rw[l.length];exact e1,?_⟩
   have t4:Tk H3 (L2.upd H3 q (.lst (xs.set j y))):=.upd (λys z=>by rw[ex] at z;cases z) λo' u z=>by rw[ex] at z;cases z
   have t14:=t1.trans (t2.trans (t3.trans t4))
   refine k.nx _ _ ρ _ t14 (rl.go t14 (λa' o' e'=>?_)) h4
   by_cases haq:a'=q
   ·subst haq
    rw[aX] at e';cases e'
    exact ⟨_,aQ,(l.set (p1.mono (t2.trans t3)) j).mono t4⟩
   ·rw[cJ haq] at e'
    exact (m3 a' _ e').ne t4 haq
  | _=>exact NG h3
 | _=>cases p3<;>exact NG h3
theorem tW {body:List Stmt}(hp:Ub (N3 X.prog X.w) X.A X.env X.xe)(hc:LT X c tA)(hb:LSs X body T1):LS X (.While c body [] pos) (xq tA T1):=by
 obtain ⟨tc,pc,sc⟩:=hc.ex
 obtain ⟨t1,p1,s1⟩:=hb.ex
 refine ⟨_,BZ hp pc p1,λσ H ρ μ E E' rl h k=>?_⟩
 obtain ⟨P,m,h0,hs⟩:=h
 refine ⟨λn σ' H'=>∃ ρ' μ',Tk H H'/\Rl X.K σ' H' ρ' μ'/\P ρ' μ'/\n=m ρ' μ',⟨_,ρ,μ,.refl H,rl,h0,rfl⟩,?_⟩
 rintro n σ1 H1 ⟨ρ1,μ1,t1',rl1,hP,rfl⟩
 refine sc σ1 H1 ρ1 μ1 _ _ rl1 (hs ρ1 μ1 hP) λq H2 μ2 t2 m2 h2=>?_
 have t12:=t1'.trans t2
 cases q with
 | true=>
  refine tf ⟨λσ' H'=>∃ ρ' μ',Tk H H'/\Rl X.K σ' H' ρ' μ'/\P ρ' μ'/\m ρ' μ' < m ρ1 μ1,λσ' H' ⟨ρ',μ',a1,a2,a3,a4⟩=>⟨_,a4,ρ',μ',a1,a2,a3,rfl⟩,?_⟩
  have h2':=h2
  refine s1 σ1 H2 ρ1 μ2 _ _ (rl1.go t2 m2) h2' ⟨λσ' H' ρ' μ' t' r' q=>⟨ρ',μ',t12.trans t',r',q.1,q.2⟩,(k.go t12).rt,(k.go t12).nx,λσ' H' ρ' μ' t' r' q=>⟨ρ',μ',t12.trans t',r',q.1,q.2⟩⟩
 | false=>exact sf (k.nx _ _ _ _ t12 (rl1.go t2 m2) h2)
theorem vL (lo:Int)(n:Nat):dm lo (n+1)=.int lo::dm (lo+1) n:=by
 unfold dm
 rw[List.range_succ_eq_map]
 rw[Ob,OG]
 congr 1
 ·simp
 ·refine SR λi _=>?_
  show D.int _=D.int _
  congr 1
  show lo+((i+1:Nat):Int)=lo+1+(i:Int)
  omega
end
def lift (K:NB)(sp:FSp):Sp:=λvs H Q _=>∃ ds μ QQ,DpL K H vs ds/\bV K H μ/\sp ds μ QQ/\iz K H QQ Q
def RT (Q:DK):DK:=λd μ'=>∃ μ,Sub μ μ'/\Q d μ
def ini (n:Nat)(ds:List D):ST:=ds.map some++N8 (n - ds.length) none
theorem Je:∀ (ds:List D) (n i:Nat) (d:D),lk (ini n ds) i=some d->ds[i]? = some d:=by
 intro ds
 have rep:∀ m i (d:D),lk (N8 m none) i=some d->False:=by
  intro m
  induction m with
  | zero=>intro i d h;cases i<;>cases h
  | succ m ih=>intro i d h;cases i with
   | zero=>cases h
   | succ i=>exact ih i d h
 have gen:∀ (ds:List D) m i d,lk (ds.map some++N8 m none) i=some d->ds[i]? = some d:=by
  intro ds
  induction ds with
  | nil=>intro m i d h;exact (rep m i d h).elim
  | cons x r ih=>intro m i d h;cases i with
   | zero=>simpa[lk] using h
   | succ i=>simpa using ih m i d h
 exact λn i d h=>gen ds _ i d h
section
variable {P:NR} {w:N6} {K:NB} {mg:Str->Option NC} {base:Heap}
theorem Hf {x qual:Str}{st:Stmt}{f:Addr}{fd:N0}{N ps:List Str}{k:Nat}{sp:FSp}{T:STr}(F:Fun K x qual st f fd)(S:aJ N ps (aw st))(len:∀ ds μ Q,sp ds μ Q->ds.length=ps.length)
  (hb:∀ (cdv:NC) (A:N7) (outer:List Env) (s:ND) (H:Hp) (E:XK),fu k (A.deeper (Rb qual (aw st) s.heap.objs.size f cdv))->
   LSs (vg CX0 P w K mg base N qual (aw st) f cdv A outer s H E).nox (fz st) T)
  (hr:∀ ds μ Q,sp ds μ Q->T { nx:=λ_ μ'=>RT Q .non μ',rt:=RT Q } (ini N.length ds) μ):jy P w K mg base CX0 (k+1) f fd ps (lift K sp):=by
 refine F.ok S (λvs H Q E h=>?_) (λcdv A outer s H vs Q E hroom h=>?_)
 ·obtain ⟨ds,μ,QQ,l,m,h1,k⟩:=h
  rw[l.length];exact len ds μ QQ h1
 ·obtain ⟨ds,μ,QQ,l,m,h1,k⟩:=h
  obtain ⟨t,pt,stt⟩:=(hb cdv A outer s H E hroom).ex
  have hl:vs.length=ds.length:=l.length
  refine ⟨t,pt,stt (L2.start N vs) H (ini N.length ds) μ _ _ ⟨?_,λi d e=>?_,m⟩ (hr ds μ QQ h1) ⟨λσ' H' ρ' μ' t' r' q=>?_,λv H' d μ' t' m' p' q=>?_,λ_ _ _ _ _ _ q=>q,λ_ _ _ _ _ _ q=>q⟩⟩
  ·unfold ini L2.start;simp[hl]
  ·have e':=Je ds _ i d e
   obtain ⟨v,e1,p⟩:=l.get e'
   refine ⟨v,?_,p⟩
   unfold L2.start
   have hi:i < vs.length:=(Oz.mp e1).1
   rw[P7 (by simpa using hi),OF,e1]
   rfl
  ·obtain ⟨μ2,s2,q2⟩:=q
   exact k _ _ _ μ2 t' (r'.mu.sub s2) .non q2
  ·obtain ⟨μ2,s2,q2⟩:=q
   exact k _ _ _ μ2 t' (m'.sub s2) p' q2
end
section
variable {X:Cx} {k:Nat} {f:Addr} {fd:N0} {ps:List Str} {sp:FSp} {x:Str} {p pos:Pos} {e:N1} {es:List N1} {At:ATr}
theorem FA (F:jy X.prog X.w X.K X.mg X.base CX0 k f fd ps (lift X.K sp))(hr:fu k X.A)(hg:Gl X x)(hm:X.mg x=some (.ref f))(hk:Qw X.K (.ref f)=true)(hb:Binds X.K fd ps [])
  (ha:LA X (e::es) At) (hdb:(x == ("__debug__" : Str))=false:=by decide) (he:NL (e::es) X.env=(false,O4 e X.env)::NL es X.env:=by rfl) (hpl:(OB pos (NL es X.env)).any (·.1)=false:=by rfl) :
  LE X (.Call (.Name x p) (e::es) [] pos) (au sp At):=by
 obtain ⟨ta,pa,sa⟩:=ha.ex
 refine ⟨_,E7 F hr hg hm hk hb .nil KU pa hdb he hpl,λσ H ρ μ Q Q' rl h k=>sa σ H ρ μ _ _ rl h λxs H1 ds μ1 t1 m1 p1 h1=>?_⟩
 rw[OI]
 exact ⟨ds,μ1,Q,p1,m1,h1,k.go t1⟩
end
end
section
open PySem PySem.Spec PyProof.Rows L2
theorem DpL.ints {K:NB}{H:Hp}:∀ ns:List Int,DpL K H (ns.map V.int) (ns.map D.int)
 | []=>.nil
 | n::r=>.cons (.int n) (DpL.ints r)
theorem SqF.only {K:NB}{H:Hp}{a:Addr}{xs:List V}(hO:FT H)(h:SqL K H a xs):SqF K H a xs:=by
 rcases h with (h | h) | h
 ·rcases hO a with z | ⟨o,ys,z⟩
  ·rw[h] at z;cases z
  ·rw[h] at z;cases z
 ·exact .inl h
 ·exact .inr h
theorem K7 {l:Sd}{k:Nat}{q:NR}{loose:List Str}{XP:(Str->Option NC)->Heap->Prop}{YP:N6->Heap->Prop}{d:DefRec}{K:UM->NB}{sp:FSp}{x:Str}
  (hn:l.most=some 63) (hdf:d.params.defaults=[]) (hr:fu k R5) (hY:∀ (w:N6) (h:Heap),YP w h->(K w.params).In h)
  (hl:∀ ns:List Int,ns.length<=63->∀ μ,sp [.ls (ns.map .int)] μ (λd _=>d=.bl true))
  (F:∀ (w:N6) (mg:Str->Option NC) (fa:Addr) (h:Heap),(K w.params).In h->h.Ns Oy mg->mg d.name=some (.ref fa)->
   ∃ fd:N0,(∀ (s:ND) (u:NC),TH s fd ⟨[u],[]⟩ [(x,u)])/\∀ base:Heap,(K w.params).In base->base.Ns Oy mg->jy l.prog w (K w.params) mg base CX0 k fa fd [x] (lift (K w.params) sp)) :
  U2 q loose XP YP l.row.toRowW d [] (λf vs=>Rg f vs):=
 L2.FC (n:=63) (k:=k) (x:=x) (CX:=λ_=>CX0) (sp:=λw=>lift (K w.params) sp) hn (by decide) hdf hr hY F
  (λw H a ns hl' hO hS=>⟨[.ls (ns.map .int)],λ_=>none,_,.cons (.ls (.only hO hS) (.ints ns)) .nil,(λa o e=>by cases e),hl ns hl' _,λv H' d μ' _ _ p e=>by
   have e':d=.bl true:=e
   subst e'
   cases p;rfl⟩) λ_ _ _ _ _ z=>z
end
section
open PySem PySem.Spec PyProof.Rows L2
def scB (N P:List Str)(sc:Scope):Bool:=decide N.Nodup&&decide (∀ x∈P,sc.names.lookup x=some .local∨sc.names.lookup x=some .cell)&&decide (∀ y∈sc.names,y.2≠.free)
theorem Lr {N P:List Str}{sc:Scope}(h1:sc.kind=.function)(h2:sc.isCoroutine=false)(h3:sc.isGenerator=false)(h4:N.take P.length=P)(h:scB N P sc=true):aJ N P sc:=by
 unfold scB at h
 rw[NO,NO] at h
 exact ⟨h1,h2,h3,of_decide_eq_true h.1.1,h4,of_decide_eq_true h.1.2,of_decide_eq_true h.2⟩
structure aV (P:NR) (w:N6) (K:NB) (mg:Str->Option NC) (base:Heap) (k:Nat) (x:Str) (ps:List Str) (sp:FSp):Prop where
 ex:∃ f fd,jy P w K mg base CX0 k f fd ps (lift K sp)/\mg x=some (.ref f)/\Qw K (.ref f)=true/\Binds K fd ps []
section
variable {P:NR} {w:N6} {K:NB} {mg:Str->Option NC} {base:Heap}
theorem aN {x qual:Str}{st:Stmt}{f:Addr}{fd:N0}{N ps:List Str}{k:Nat}{sp:FSp}{T:STr}(m:mg x=some (.ref f))(F:Fun K x qual st f fd)(S:aJ N ps (aw st))(len:∀ ds μ Q,sp ds μ Q->ds.length=ps.length)
  (hr:∀ ds μ Q,sp ds μ Q->T { nx:=λ_ μ'=>RT Q .non μ',rt:=RT Q } (ini N.length ds) μ)
  (b:∀ (kV doc pm:NC) (an:Option Addr) (cdv ct:NC) (us:List NC),us.length=ps.length->bindArgs (P5 x qual (jT st) (fz st) (aw st) .none kV doc pm an cdv ct) ⟨us,[]⟩=pure (ps.zip us))
  (hb:∀ (cdv:NC) (A:N7) (outer:List Env) (s:ND) (H:Hp) (E:XK),fu k (A.deeper (Rb qual (aw st) s.heap.objs.size f cdv))->(A.deeper (Rb qual (aw st) s.heap.objs.size f cdv)).units+64 < cLine->
   LSs (vg CX0 P w K mg base N qual (aw st) f cdv A outer s H E).nox (fz st) T):aV P w K mg base (k+1) x ps sp:=
 ⟨f,fd,Hf F S len (λcdv A outer s H E h=>hb cdv A outer s H E h h.units) hr,m,F.kp,F.binds b⟩
end
theorem ak {X:Cx}{k n:Nat}{x:Str}{ps:List Str}{sp:FSp}{e:N1}{es:List N1}{At:ATr}{p pos:Pos}(C:aV X.prog X.w X.K X.mg X.base k x ps sp)(hr:fu n X.A)(hg:Gl X x)
  (ha:LA X (e::es) At) (hle:k<=n:=by decide) (hdb:(x == ("__debug__" : Str))=false:=by decide) (he:NL (e::es) X.env=(false,O4 e X.env)::NL es X.env:=by rfl) (hpl:(OB pos (NL es X.env)).any (·.1)=false:=by rfl) :
  LE X (.Call (.Name x p) (e::es) [] pos) (au sp At):=by
 obtain ⟨f,fd,F,m,kp,b⟩:=C.ex
 exact FA F (hr.mono hle) hg m kp b ha hdb he hpl
end
section
open PySem PySem.Spec PyProof.Rows L2
def bH (X:Cx)(scope:Scope)(Nc:List Str)(cl:List (Str×Addr))(C:Addr)(s₀:ND)(H₀:Hp)(ex:List Addr):Cx:=
 { X with env:=UQ scope cl C X.env,N:=Nc,s₀:=s₀,H₀:=H₀,outer:=X.stack,ex:=ex,fn:=λ_=>false,pn:=[] }
theorem w8 {scope:Scope}{env:Env}(h:∀ y∈scope.names,y.2=.free->∃ c,env.cells.lookup y.1=some c) :
  ∃ cl,closureFor scope env=pure cl/\(∀ x c,cl.lookup x=some c->env.cells.lookup x=some c)/\∀ y∈scope.names,y.2=.free->∃ c,cl.lookup y.1=some c:=by
 have gen:∀ (ns:List (Str×QT)) (cs:List (Str×Addr)),(∀ y∈ns,y.2=.free->∃ c,env.cells.lookup y.1=some c)->(∀ x c,cs.lookup x=some c->env.cells.lookup x=some c)->
   ∃ cl,(forIn ns cs λx r=>if (x.2 == O3)=true then do let c ← cellOf env x.1;pure (O6 ((x.1,c)::r)) else pure (O6 r):Sem _)=pure cl/\(∀ x c,cl.lookup x=some c->env.cells.lookup x=some c)/\
    (∀ x,(cs.lookup x).isSome=true->(cl.lookup x).isSome=true)/\∀ y∈ns,y.2=.free->∃ c,cl.lookup y.1=some c:=by
  intro ns
  induction ns with
  | nil=>intro cs _ h2;exact ⟨cs,rfl,h2,λ_ z=>z,λ_ z=>nomatch z⟩
  | cons y r ih=>
   intro cs h1 h2
   obtain ⟨n,k⟩:=y
   by_cases hk:k=.free
   ·subst hk
    obtain ⟨c,hc⟩:=h1 (n,.free) NJ rfl
    have h2':∀ x c',((n,c)::cs).lookup x=some c'->env.cells.lookup x=some c':=λx c' e=>by
     rw[O2] at e
     split at e
     ·rename_i hx
      cases e
      have:x=n:=by simpa using hx
      subst this;exact hc
     ·exact h2 x c' e
    obtain ⟨cl,e1,e2,e3,e4⟩:=ih ((n,c)::cs) (λy hy=>h1 y (NM _ hy)) h2'
    refine ⟨cl,?_,e2,λx hx=>e3 x ?_,λy hy hf=>?_⟩
    ·rw[Us]
     have:cellOf env n=pure c:=by unfold cellOf;rw[hc]
     simp only[beq_self_eq_true,if_true,this,pure_bind]
     exact e1
    ·rw[O2];split
     ·rfl
     ·exact hx
    ·obtain rfl | hy:=N9.mp hy
     ·have:(cl.lookup n).isSome=true:=e3 n (by simp[O2])
      exact Qd.mp this
     ·exact e4 y hy hf
   ·obtain ⟨cl,e1,e2,e3,e4⟩:=ih cs (λy hy=>h1 y (NM _ hy)) h2
    refine ⟨cl,?_,e2,e3,λy hy hf=>?_⟩
    ·rw[Us]
     have:(k == O3)=false:=by simpa using hk
     simp only[this,PL,if_false,pure_bind]
     exact e1
    ·obtain rfl | hy:=N9.mp hy
     ·exact absurd hf hk
     ·exact e4 y hy hf
 obtain ⟨cl,e1,e2,_,e4⟩:=gen scope.names [] h λx c e=>by cases e
 refine ⟨cl,?_,e2,e4⟩
 show ((forIn scope.names ([]:List (Str×Addr)) λx r=>if (x.2 == O3)=true then do let c ← cellOf env x.1;pure (O6 ((x.1,c)::r)) else pure (O6 r):Sem _) >>= λs=>pure s)=pure cl
 rw[e1]
 rfl
def yi (Y:Cx)(ifs:List N1)(t:TT):Prop:=
 ∀ (pins:List (Addr×Obj)) (s:ND) (σ:L2.St) (H:Hp) (Q:Bool->Hp->Prop),Inv Y pins σ H s->t σ H Q->
  NU (N3 Y.prog Y.w) Y.A (forIn ifs true λc r=>if r=true then do let ok ← isTrue c Y.env (O4 c Y.env);pure (O6 ok) else pure (O6 r)) (TP Y pins σ Q) Y.xe s
def Nq:TT:=λ_ H Q=>Q true H
theorem FR {Y:Cx}:yi Y [] Nq:=λpins s σ H Q I h=>wpAny_tests_nil ⟨H,I,h⟩
theorem Fn {Y:Cx}{c:N1}{t:TT}(h:PT Y c t):yi Y [c] t:=λpins s σ H Q I hh=>wpAny_tests_one (h pins s σ H Q I hh)
def j9 (σ:L2.St)(n:Nat)(caps:List Nat):L2.St:=N8 n none++caps.map λi=>(σ[i]?).join
def Wk (σ' σ:L2.St):Prop:=σ'.length=σ.length/\∀ (i:Nat) v,σ'[i]? = some (some v)->σ[i]? = some (some v)
def nB (wi:TI)(g:TG)(tt:TT)(te:TE)(n:Nat)(caps:List Nat):TE:=λσ H Q=>wi σ H λJ H1=>∀ D,H1 D=none->
 ∃ W:Nat->Nat->List V->Hp->Prop,(∃ m,W 0 m [] (L2.upd H1 D (.lst [])))/\∀ i m ys H2,W i m ys H2->
  (J.stop i H2/\Q (.ref D) H2)∨(J.go i H2/\∃ N:List V->Hp->Prop,(∀ ys' H',N ys' H'->∃ m',m' < m/\W (i+1) m' ys' H')/\
   ∀ x H3,J.yld i H2 x H3->g x (j9 σ n caps) H3 λσ4 H4=>Wk (j9 σ n caps) σ4/\tt σ4 H4 λb H5=>if b=true then te σ4 H5 λy H6=>∃ zs,H6 D=some (.lst zs)/\zs.length < sizeLine/\N (zs++[y]) (L2.upd H6 D (.lst (zs++[y]))) else N ys H5)
theorem AD {prog:NR}{w:N6}{A:N7}{R:UJ->ND->Prop}{s:ND}{elt target iter:N1}{ifs:List N1}{scope:Scope}{pos:Pos}{it acc:NC}{env:Env}(J:Nat->ND->Prop)
  (turn:∀ n s,J n s->NU (N3 prog w) A (Qt it) (λo t₁=>match o with
   | none=>R (.ok .next) t₁
   | some v=>NU (N3 prog w) A (QX target it v) (λ_ t₁=>NU (N3 prog w) A (Ry target env v) (λ_ t₂=>
     NU (N3 prog w) A (forIn ifs true λc r=>
      if r=true then do let ok ← isTrue c env (O4 c env);pure (O6 ok) else pure (O6 r)) (λok t₃=>
      if ok=true then NU (N3 prog w) A (O4 elt env) (λx t₄=>
       NU (N3 prog w) A (call (.builtin "list.append") [acc,x]) (λ_ t₅=>∃ m,m < n/\J m t₅) (λ_ _=>False) t₄) (λ_ _=>False) t₃
      else ∃ m,m < n/\J m t₃) (λ_ _=>False) t₂) (λ_ _=>False) t₁) (λ_ _=>False) t₁) (λ_ _=>False) s)
  (n:Nat) (h:J n s):PR (N3 prog w) A (.compLoop (.ListComp elt [⟨target,iter,ifs,0⟩] scope pos) 0 it acc env) R s:=by
 refine codeAny_loop rfl J (λn s hJ=>?_) n h
 show NU _ A ((compTurn (.ListComp elt [⟨target,iter,ifs,0⟩] scope pos) 0 it acc env).onRaise
  (λx=>do noteFrame x env;theTreesLotGoes x)) _ _ s
 refine wpAny_noted ?_
 rw[compTurn_list]
 refine wpAny_bind (Rz (wpAny_bind (O1 (turn n s hJ) (λr t₁ g₁=>?_) λ_ _ h'=>h'.elim)))
 cases r with
 | none=>exact wpAny_pure g₁
 | some v=>
  refine wpAny_bind (O1 g₁ (λ_ t₁' g₁'=>?_) λ_ _ h'=>h'.elim)
  refine wpAny_bind (O1 g₁' (λ_ t₂ g₂=>wpAny_bind (O1 g₂ (λok t₃ g₃=>?_) λ_ _ h'=>h'.elim)) λ_ _ h'=>h'.elim)
  cases ok with
  | false=>exact wpAny_pure ⟨rfl,g₃⟩
  | true=>
   exact wpAny_bind (wpAny_bind (O1 g₃ (λx t₄ g₄=>wpAny_bind (O1 g₄ (λ_ t₅ g₅=>wpAny_pure (wpAny_pure ⟨rfl,g₅⟩)) λ_ _ h'=>h'.elim)) λ_ _ h'=>h'.elim))
theorem ow {σ:L2.St}{n:Nat}{caps:List Nat}{i:Nat}{v:V}(h:(j9 σ n caps)[i]? = some (some v)):∃ j k,i=n+j/\caps[j]? = some k/\σ[k]? = some (some v):=by
 unfold j9 at h
 by_cases hi:i < n
 ·rw[P7 (by simpa using hi),RH,if_pos hi] at h
  cases h
 ·rw[PZ (by simpa using hi)] at h
  rw[OY,OF] at h
  cases e:caps[i - n]? with
  | none=>rw[e] at h;cases h
  | some k=>
   rw[e] at h
   have h':(σ[k]?).join=some v:=Oq h
   cases e2:σ[k]? with
   | none=>rw[e2] at h';cases h'
   | some o=>
    rw[e2] at h'
    have h'':o=some v:=h'
    subst h''
    exact ⟨i - n,k,by omega,e,e2⟩
theorem eJ {env:Env}(hk:env.scope.kind=.function):∀ {names:List (Str×QT)} {x:Str},env.kindOf x=some .cell->names.lookup x=some .free->
  (names.map λ(n,k)=>if (k == O3&&env.scope.kind == .function&&env.kindOf n == some .cell) then (n,S1) else (n,k)).lookup x=some .cell
 | [],_,_,h=>by simp at h
 | (n,k)::r,x,hc,h=>by
  have ih:=@eJ env hk r x hc
  show List.lookup x ((if (k == O3&&env.scope.kind == .function&&env.kindOf n == some .cell)=true
   then (n,S1) else (n,k))::_)=_
  cases hx:x == n with
  | true=>
   simp only[hx,O2] at h
   cases h
   have e:x=n:=by simpa using hx
   subst e
   simp[O2,hk,hc]
  | false=>
   simp only[hx,O2] at h
   by_cases hcc:(k == O3&&env.scope.kind == .function&&env.kindOf n == some .cell)=true
   ·rw[if_pos hcc];simp only[O2,hx];exact ih h
   ·rw[if_neg hcc];simp only[O2,hx];exact ih h
theorem lC {env:Env}:∀ {names:List (Str×QT)} {x:Str} {k':QT},(∀ y∈names,y.2≠.cell)->(k'=.cell∨k'=.free)->
  (x,k')∈(names.map λ(n,k)=>if (k == O3&&env.scope.kind == .function&&env.kindOf n == some .cell) then (n,S1) else (n,k))->(x,O3)∈names:=by
 intro names x k' hn hk h
 obtain ⟨⟨n,k⟩,hm,e⟩:=Od.mp h
 dsimp only at e
 split at e
 ·rename_i hc
  cases e
  have:k=.free:=by simp at hc;exact hc.1.1
  subst this;exact hm
 ·cases e
  rcases hk with rfl | rfl
  ·exact absurd rfl (hn _ hm)
  ·exact hm
theorem Cq {X:Cx}{pins:List (Addr×Obj)}{σ:L2.St}{H H5:Hp}{s:ND}{C:Addr}{h':Heap}(I:Inv X pins σ H s)(f0:H C=none)(fC:oQ X pins H5 C)(hs:Pr C s.heap h'):Inv X pins σ H { s with heap:=h' }:=by
 have keep:∀ b o',b≠C->s.heap.get? b=some o'->h'.get? b=some o':=λb o' hb e'=>(hs.2 b hb).trans e'
 refine I.G0 (ch:=[C]) (s':={ s with heap:=h' }) rfl ⟨λb o' e' _ _ nx=>keep b o' (λz=>nx (by rw[z];exact NJ)) e',λb o' e' _ _ nx=>⟨o'.slots,keep b o' (λz=>nx (by rw[z];exact NJ)) e'⟩,λb o' _ w _=>w,λb o' e' nx=>⟨o',keep b o' (λz=>nx (by rw[z];exact NJ)) e'⟩,λb ys e'=>e',λb o' u e'=>e',λb ps e'=>⟨#[],by simpa using e'⟩⟩ (λb u e'=>?_) I.bare λb hb=>?_
 ·refine (I.hok b u e').rT (λc w' hc q=>keep c w' ?_ q) (λ_ q=>q) λ_ _ q=>q
  rintro rfl
  rcases hc with z | z
  ·rw[← z,f0] at e';cases e'
  ·rw[f0] at z;cases z
 ·cases NZ.mp hb
  exact ⟨fC.2.2.2.1,fC.2.1,fC.2.2.2.2.1,fC.2.2.2.2.2⟩
theorem vn {X:Cx}{tg iter elt:N1}{ifs:List N1}{scope:Scope}{pos:Pos}{wi:TI}{g:TG}{tt:TT}{te:TE}{Nc:List Str}{n:Nat}{caps:List Nat}
  (hxe:X.xe=λ_ _=>False) (hcalm:X.calm=true) (hi:PI X tg iter wi)
  (hbody:∀ (cl:List (Str×Addr)) (C:Addr) (s₀:ND) (H₀:Hp) (ex:List Addr),PG (bH X scope Nc cl C s₀ H₀ ex) tg g/\yi (bH X scope Nc cl C s₀ H₀ ex) ifs tt/\PE (bH X scope Nc cl C s₀ H₀ ex) elt te)
  (hfree:∀ y∈scope.names,y.2=.free->X.env.kindOf y.1=some .cell) (hcell:∀ y∈scope.names,y.2≠.cell) (gi:scope.kind=.function)
  (hnames:∀ y∈scope.names,y.2=.local->scope.names.lookup y.1=some .local) (hlen:Nc.length=n+caps.length)
  (hcap:∀ (j k:Nat),caps[j]? = some k->∃ x,Nc[n+j]? = some x/\X.N[k]? = some x/\scope.names.lookup x=some .free)
  {use:Option (NC->Sem Unit)} {Qv:NC->ND->Prop} {pins:List (Addr×Obj)} {s:ND} {σ:L2.St} {H:Hp} {Q:VK} {ps:Pos} (I:Inv X pins σ H s) (h:nB wi g tt te n caps σ H Q)
  (hfin:∀ (D C:Addr) (s5:ND) (H5:Hp) (m:Str->Option NC),Inv X pins σ H5 s5->oQ X pins H5 C->s5.heap.Ns C m->Q (.ref D) H5->UR (N3 X.prog X.w) X.A (λ_ _=>False) use Qv (.ref D) C (.ok .next) s5)
  (hs:∀ x,OQ iter X.env x=pure x:=by intro _;rfl) :
  NU (N3 X.prog X.w) X.A (comprehension (.ListComp elt [⟨tg,iter,ifs,0⟩] scope pos) scope X.env ps (newList []) false (O4 iter X.env) use) Qv (λ_ _=>False) s:=by
 obtain ⟨cl,hclos,clin,clfree⟩:=w8 (scope:=scope) (env:=X.env) λy hy hf=>I.ok.has y.1 (.inl (hfree y hy hf))
 refine wpAny_comprehension_free (use:=use) rfl hs hclos gi hnames ?_
 have hi':=hi pins s σ H _ I h
 rw[hxe] at hi'
 refine O1 hi' (λxv s1 h1=>O1 h1 (λitv s2 h2=>?_) λ_ _ z=>z) λ_ _ z=>z
 obtain ⟨it,fp,tn,J,H1,rfl,I2,T,st2,f2,hh⟩:=h2
 -- the new list
 refine OS ?_
 have hD:H1 s2.heap.objs.size=none:=I2.hok.fresh (NV _)
 obtain ⟨W,⟨m0,w0⟩,turn⟩:=hh _ hD
 have I3:Inv X pins σ (L2.upd H1 s2.heap.objs.size (.lst [])) { s2 with heap:=s2.heap.push { cls:=.type "list", dict:=none,data:=.seq ([]:List NC).toArray } }:=
  I2.laid (t':=s2.toks) (λb u e=>NF _ e) (NV _) ⟨Pb _,[],0,.nil,NT _ rfl⟩
 have k3:∀ b u,s2.heap.get? b=some u->(s2.heap.push { cls:=.type "list", dict:=none,data:=.seq ([]:List NC).toArray }).get? b=some u:=λb u e=>NF _ e
 have fne:∀ b∈fp,b≠s2.heap.objs.size:=λb hb=>by
  obtain ⟨o,ho,_⟩:=T.obj 0 _ st2 b hb
  exact NY (NP ho)
 generalize eD:s2.heap.objs.size=D at *
 generalize eh3:s2.heap.push { cls:=.type "list", dict:=none,data:=.seq ([]:List NC).toArray }=h3 at *
 generalize eH3:L2.upd H1 D (.lst [])=H3 at *
 have st3:tn 0 h3:=T.keep 0 _ _ st2 λb hb o e=>k3 b o e
 have f3:∀ b∈fp,oQ X pins H3 b:=λb hb=>⟨by rw[← eH3,aT (fne b hb)];exact (f2 b hb).1,(f2 b hb).2⟩
 have lt3:∀ b∈fp,b < h3.objs.size:=λb hb=>by
  obtain ⟨o,ho,_⟩:=T.obj 0 _ st3 b hb
  exact NP ho
 generalize es3:({ s2 with heap:=h3 }:ND)=s3 at *
 have hs3:s3.heap=h3:=by rw[← es3]
 refine wpAny_newFunctionEnv hcell (λy hy=>(by cases hy)) (λh4 hns hsb=>?_) gi
 show PR _ _ (.compStart _ 0 (.ref it) (.ref D) (UQ scope cl s3.heap.objs.size X.env)) (UR _ _ _ _ _ (.ref D) s3.heap.objs.size) _
 have k4:∀ b u,s3.heap.get? b=some u->h4.get? b=some u:=λb u e=>hsb.extBut b u (NY (NP e)) (NF _ e)
 have okY:(bH X scope Nc cl s3.heap.objs.size s3 H3 fp).Ok:=by
  refine ⟨I3.ok.mod,gi,I3.ok.glob,I3.ok.blt,NV _,λx y c e1 e2=>I3.ok.inj x y c (clin _ _ e1) (clin _ _ e2),λx hx=>?_,λx c hf=>(by cases hf),I3.ok.hd,I3.ok.frames,.inl rfl,λb hb=>⟨?_,λx c e z=>?_⟩,I3.bs,OJ I3.ok.bsz I3.sz,λb o e hb=>?_,λb hb hz=>?_,I3.stack,I3.yy⟩
  ·have hx':(relabel scope X.env).names.lookup x=some .cell∨(relabel scope X.env).names.lookup x=some .free:=hx
   have hm:(x,O3)∈scope.names:=by
    rcases hx' with q | q
    ·exact lC hcell (.inl rfl) (ON q)
    ·exact lC hcell (.inr rfl) (ON q)
   exact clfree _ hm rfl
  ·show b≠s3.heap.objs.size
   rw[hs3];exact NY (lt3 b hb)
  ·exact (f3 b hb).2.2.2.2.1 x c (clin _ _ e) z
  ·rcases (f3 b hb).2.2.2.1 with z | z
   ·exact I3.ok.CH b o e z
   ·exact absurd (N4 (NP e) (OJ I3.ok.bsz z)) (PM _)
  ·rcases N9.mp (I3.xZ b hz) with z | z
   ·exact (f3 b hb).2.1 z
   ·exact (f3 b hb).2.2.1 z
 have Mr:∀ c v,s3.heap.IsCell c v->h4.IsCell c v:=λc v ⟨o,ho,hd⟩=>⟨o,k4 c o ho,hd⟩
 have J0:Inv (bH X scope Nc cl s3.heap.objs.size s3 H3 fp) [] (j9 σ n caps) H3 { s3 with heap:=h4,toks:=s3.toks+([]:List (Str×NC)).length }:=by
  refine ⟨okY,rfl,I3.bare,Un.kept k4,⟨_,hns,λi x v e1 e2 e3=>?_⟩,λx c e=>?_,I3.hok.fresh (NV _),λx c e=>I3.g6 x c (clin _ _ e),(λp hp=>(by cases hp)),I3.hok.kept k4,?_⟩
  ·obtain ⟨j,k,rfl,ej,ek⟩:=ow e2
   obtain ⟨x',n1,n2,n3⟩:=hcap j k ej
   have e1':Nc[n+j]? = some x:=e1
   rw[n1] at e1';cases e1'
   have hmem:(x,O3)∈scope.names:=ON n3
   have hcellx:X.env.kindOf x=some .cell:=hfree _ hmem rfl
   obtain ⟨m,hn,hl⟩:=I3.loc
   obtain ⟨u,ru,lk⟩:=hl k x v n2 ek (.inr (.inl hcellx))
   refine ⟨u,ru,.inr ⟨.inl (eJ I3.ok.kind hcellx n3),?_⟩⟩
   rcases lk with ⟨q,_⟩ | ⟨_,c,ec,ic⟩
   ·rw[hcellx] at q;cases q
   ·obtain ⟨c',ec'⟩:=clfree _ hmem rfl
    have:=clin _ _ ec'
    rw[ec] at this;cases this
    exact ⟨c,ec',Mr _ _ ic⟩
  ·obtain ⟨v,q⟩:=I3.cell x c (clin _ _ e)
   exact ⟨v,Mr _ _ q⟩
  ·unfold j9
   show _=Nc.length
   rw[NW,OY,NK,hlen]
 obtain ⟨pg,pifs,pelt⟩:=hbody cl s3.heap.objs.size s3 H3 fp
 generalize eY:bH X scope Nc cl s3.heap.objs.size s3 H3 fp=Y at *
 have yP:Y.prog=X.prog:=by rw[← eY];rfl
 have yw:Y.w=X.w:=by rw[← eY];rfl
 have yK:Y.K=X.K:=by rw[← eY];rfl
 have yA:Y.A=X.A:=by rw[← eY];rfl
 have yx:Y.xe=λ_ _=>False:=by rw[← eY];exact hxe
 have yc:Y.calm=true:=by rw[← eY];exact hcalm
 have ye:Y.env=UQ scope cl s3.heap.objs.size X.env:=by rw[← eY];rfl
 have yfs:Y.fs=frs X.stack:=by rw[← eY];rfl
 have yex:Y.ex=fp:=by rw[← eY];rfl
 have ys0:Y.s₀=s3:=by rw[← eY];rfl
 have yH0:Y.H₀=H3:=by rw[← eY];rfl
 have ypn:Y.pn=[]:=by rw[← eY];rfl
 have wz:∀ {H':Hp},(∀ b∈fp,H' b=none)->∀ b∈fp,oQ Y [] H' b:=λhn b hb=>⟨hn b hb,by rw[ye];show b≠s3.heap.objs.size;rw[hs3];exact NY (lt3 b hb),okY.C2 b (by rw[yex];exact hb),.inl (by rw[yex];exact hb),
  λx c e=>by rw[ye] at e;exact (f3 b hb).2.2.2.2.1 x c (clin _ _ e),λp hp=>by rw[ypn] at hp;exact nomatch hp⟩
 have tn4:∀ t,tn 0 ({ s3 with heap:=h4,toks:=t }:ND).heap:=λt=>T.keep 0 _ _ st3 λb hb o e=>k4 b o (by rw[hs3];exact e)
 -- the end
 have fin:∀ (s5:ND) (H5:Hp),Inv Y [] (j9 σ n caps) H5 s5->Q (.ref D) H5->UR (N3 X.prog X.w) X.A (λ_ _=>False) use Qv (.ref D) s3.heap.objs.size (.ok .next) s5:=λs5 H5 I5 q5=>by
  obtain ⟨m,hn,_⟩:=I5.loc
  rw[ye] at hn
  have un:=I5.base
  rw[yfs,yex,yH0,ys0] at un
  have hfreeC0:=I5.free
  rw[ye] at hfreeC0
  have hfreeC:H5 s3.heap.objs.size=none:=hfreeC0
  have hok5:=I5.hok
  rw[yP,yw] at hok5
  have I5X:Inv X pins σ H5 s5:=I3.G0 (ch:=fp) (s':=s5) (by have:=I5.os;rw[ys0] at this;exact this) un hok5 I5.bare λb hb=>⟨(f3 b hb).2.2.2.1,(f3 b hb).2.1,(f3 b hb).2.2.2.2.1,(f3 b hb).2.2.2.2.2⟩
  exact hfin _ _ s5 H5 m I5X (I3.Gv (NV _) hfreeC) hn q5
 have loop:PR (N3 X.prog X.w) X.A (.compLoop (.ListComp elt [⟨tg,iter,ifs,0⟩] scope pos) 0 (.ref it) (.ref D) (UQ scope cl s3.heap.objs.size X.env)) (UR (N3 X.prog X.w) X.A (λ_ _=>False) use Qv (.ref D) s3.heap.objs.size)
   { s3 with heap:=h4,toks:=s3.toks+([]:List (Str×NC)).length }:=by
  refine AD (λk s'=>∃ i ys H',Inv Y [] (j9 σ n caps) H' s'/\tn i s'.heap/\(∀ b∈fp,H' b=none)/\W i k ys H') ?_ m0 ⟨0,[],H3,J0,tn4 _,λb hb=>(f3 b hb).1,w0⟩
  rintro k s5 ⟨i,ys,H5,I5,st5,fr5,w5⟩
  rcases turn i k ys H5 w5 with ⟨stop,q⟩ | ⟨go,N,hN,step⟩
  ·have d:=T.done Y yP yw yK yc i [] s5 _ H5 (λ_ _=>False) I5 (wz fr5) st5 stop
   rw[yA] at d
   refine thn d λr s6 ⟨hr,I6⟩=>?_
   subst hr
   exact fin s6 H5 I6 q
  ·have d:=T.item Y yP yw yK yc i [] s5 _ H5 (λ_ _=>False) I5 (wz fr5) st5 go
   rw[yA] at d
   refine thn d λr s6 ⟨u,hr,h6⟩=>?_
   subst hr
   refine thn h6 λ_ s7 ⟨x,H7,I7,r7,y7,st7,fr7⟩=>?_
   have I7':=I7.pinned (wz fr7) (T.obj _ _ st7)
   have a:=pg _ s7 _ H7 x u _ I7' r7 (step x H7 y7)
   rw[yP,yw,yA,yx,ye] at a
   refine thn a λ_ s8 ⟨σ8,H8,I8,wk,q8⟩=>?_
   have b:=pifs _ s8 σ8 H8 _ I8 q8
   rw[yP,yw,yA,yx,ye] at b
   have again:∀ {s9:ND} {ys9:List V} {H9:Hp},Inv Y ([]++oq fp s7.heap) σ8 H9 s9->N ys9 H9->∃ m,m < k/\∃ i ys H',Inv Y [] (j9 σ n caps) H' s9/\tn i s9.heap/\(∀ b∈fp,H' b=none)/\W i m ys H':=λ{s9 ys9 H9} I9 n9=>by
    obtain ⟨m',hm,w9⟩:=hN ys9 H9 n9
    have hp:∀ b∈fp,∀ o,s7.heap.get? b=some o->s9.heap.get? b=some o/\H9 b=none:=λb hb o e=>
     ⟨(I9.pin (b,o) (NX _ (NX _ (fg hb e)))).1,(I9.pin (b,o) (NX _ (NX _ (fg hb e)))).2.1⟩
    refine ⟨m',hm,i+1,ys9,H9,I9.hU.weak wk.1 wk.2,T.keep _ _ _ st7 λb hb o e=>(hp b hb o e).1,λb hb=>?_,w9⟩
    obtain ⟨o,e,_⟩:=T.obj _ _ st7 b hb
    exact (hp b hb o e).2
   refine thn b λok s9 ⟨H9,I9,q9⟩=>?_
   cases ok with
   | false=>
    rw[if_neg Ra] at q9 ⊢
    exact again I9 q9
   | true=>
    rw[if_pos rfl] at q9 ⊢
    have c:=pelt _ s9 σ8 H9 _ I9 q9
    rw[yP,yw,yA,yx,ye] at c
    refine thn c λv s10 ⟨y,H10,I10,r10,zs,ez,lz,n10⟩=>?_
    have d:=qi (X:=Y) _ s10 σ8 H10 (.ref D) [y] (.ref D) [v] (λ_ H'=>N (zs++[y]) H') I10 rfl (.cons r10 .nil) ⟨D,zs,y,rfl,rfl,ez,lz,n10⟩
    rw[yP,yw,yA,yx] at d
    exact thn d λ_ s11 ⟨_,H11,I11,_,q11⟩=>again I11 q11
 refine codeAny_compStart_list loop ?_
 exact T.self X.A 0 _ _ _ (tn4 _) loop
theorem Fh {X:Cx}{tg iter elt:N1}{ifs:List N1}{scope:Scope}{pos:Pos}{wi:TI}{g:TG}{tt:TT}{te:TE}{Nc:List Str}{n:Nat}{caps:List Nat}
  (hxe:X.xe=λ_ _=>False) (hcalm:X.calm=true) (hi:PI X tg iter wi)
  (hbody:∀ (cl:List (Str×Addr)) (C:Addr) (s₀:ND) (H₀:Hp) (ex:List Addr),PG (bH X scope Nc cl C s₀ H₀ ex) tg g/\yi (bH X scope Nc cl C s₀ H₀ ex) ifs tt/\PE (bH X scope Nc cl C s₀ H₀ ex) elt te)
  (hfree:∀ y∈scope.names,y.2=.free->X.env.kindOf y.1=some .cell) (hcell:∀ y∈scope.names,y.2≠.cell) (gi:scope.kind=.function)
  (hnames:∀ y∈scope.names,y.2=.local->scope.names.lookup y.1=some .local) (hlen:Nc.length=n+caps.length)
  (hcap:∀ (j k:Nat),caps[j]? = some k->∃ x,Nc[n+j]? = some x/\X.N[k]? = some x/\scope.names.lookup x=some .free)
  (hs:∀ x,OQ iter X.env x=pure x:=by intro _;rfl) :
  PE X (.ListComp elt [⟨tg,iter,ifs,0⟩] scope pos) (nB wi g tt te n caps):=by
 intro pins s σ H Q I h
 rw[hxe,eval_ListComp]
 exact vn hxe hcalm hi hbody hfree hcell gi hnames hlen hcap (use:=none) I h (λD C s5 H5 m I5 fC hn q=>⟨m,hn,λh6 hs6=>⟨.ref D,H5,Cq I5 fC.1 fC hs6,rfl,q⟩⟩) hs
theorem CN {X:Cx}{tg iter elt:N1}{ifs:List N1}{scope:Scope}{pos spos py:Pos}{y:Str}{iy:Nat}{wi:TI}{g:TG}{tt:TT}{te:TE}{Nc:List Str}{n:Nat}{caps:List Nat}{Z:TE->TE}
  (hxe:X.xe=λ_ _=>False) (hcalm:X.calm=true) (hi:PI X tg iter wi)
  (hbody:∀ (cl:List (Str×Addr)) (C:Addr) (s₀:ND) (H₀:Hp) (ex:List Addr),PG (bH X scope Nc cl C s₀ H₀ ex) tg g/\yi (bH X scope Nc cl C s₀ H₀ ex) ifs tt/\PE (bH X scope Nc cl C s₀ H₀ ex) elt te)
  (hfree:∀ y∈scope.names,y.2=.free->X.env.kindOf y.1=some .cell) (hcell:∀ y∈scope.names,y.2≠.cell) (gi:scope.kind=.function)
  (hnames:∀ y∈scope.names,y.2=.local->scope.names.lookup y.1=some .local) (hlen:Nc.length=n+caps.length)
  (hcap:∀ (j k:Nat),caps[j]? = some k->∃ x,Nc[n+j]? = some x/\X.N[k]? = some x/\scope.names.lookup x=some .free)
  (pgy:PG X (.Name y py) (oa iy))
  (hsw:Q7 (.ListComp elt [⟨tg,iter,ifs,0⟩] scope pos) (some (.Name y py)) spos.line X.env=pure true)
  (hz:∀ (σ:L2.St) (H:Hp) (Q:VK),Z (nB wi g tt te n caps) σ H Q->∃ Q',nB wi g tt te n caps σ H Q'/\∀ pins D H5 s5,Inv X pins σ H5 s5->Q' (.ref D) H5->∃ H6,(∀ b,H5 b=none->H6 b=none)/\Inv X pins σ H6 s5/\Q (.ref D) H6)
  (hs:∀ x,OQ iter X.env x=pure x:=by intro _;rfl) :
  PS X (.Assign [.Name y py] (.ListComp elt [⟨tg,iter,ifs,0⟩] scope pos) spos) (Et (Z (nB wi g tt te n caps)) (oa iy)):=by
 intro pins s σ H E' I h
 rw[hxe]
 rewrite [exec_Assign_Name_used _ _ _ _ hsw]
 refine wpAny_bind (Rz ?_)
 refine wpAny_bind ?_
 refine (show NU _ X.A (do let _ ← comprehension (.ListComp elt [⟨tg,iter,ifs,0⟩] scope pos) scope X.env _ (newList []) false (O4 iter X.env) (some (Ry (.Name y py) X.env))) _ _ s from ?_)
 obtain ⟨Q',h',hq⟩:=hz σ H _ h
 refine wpAny_bind (O1 (vn hxe hcalm hi hbody hfree hcell gi hnames hlen hcap (use:=some (Ry (.Name y py) X.env)) (Qv:=λ_ s'=>SP X pins E' .next s') I h' (λD C s5 H5 m I5 fC hn q=>?_) hs) (λ_ s' hq=>wpAny_pure (wpAny_pure hq)) λ_ _ e=>e)
 obtain ⟨H6,fr,I6,q6⟩:=hq pins D H5 s5 I5 q
 have f0:=fr C fC.1
 have fC6:oQ X pins H6 C:=⟨f0,fC.2⟩
 obtain ⟨oC,gC,dC⟩:∃ oC,s5.heap.get? C=some oC/\∀ v,oC.data≠.cell v:=by
  obtain ⟨oC,es,ep,ho,hd,_⟩:=hn
  exact ⟨oC,ho,λv z=>by rw[hd] at z;cases z⟩
 have I5P:=I6.pinned (fp:=[C]) (λb hb=>by cases NZ.mp hb;exact fC6) (λb hb=>by cases NZ.mp hb;exact ⟨oC,gC,dC⟩)
 have as:=pgy _ s5 σ _ (.ref D) (.ref D) E'.nx I5P rfl q6
 rw[hxe] at as
 refine thn as λ_ s6 ⟨σ6,H7,I7,n7⟩=>?_
 obtain ⟨g7,f7,_⟩:=I7.pin (C,oC) (NX _ (NX _ (fg NJ gC)))
 exact ⟨m,hn.at' (λo' e'=>by have e'':s5.heap.get? C=some o':=e';rw[gC] at e'';cases e'';exact g7),λh8 hs8=>⟨σ6,H7,Cq I7.hU f7 fC6 hs8,n7⟩⟩
end
section
open PySem PySem.Spec PyProof.Rows L2
structure zX (K:NB) (J:It) (H1:Hp) (ds:List D):Prop where
 go:∀ i H',Tk H1 H'->i < ds.length->J.go i H'
 yld:∀ i H' x H'',Tk H1 H'->i < ds.length->J.yld i H' x H''->Tk H' H''/\(∃ d,ds[i]? = some d/\Dp K H'' x d)/\∀ μ,bV K H' μ->bV K H'' μ
 stop:∀ i H',Tk H1 H'->ds.length<=i->J.stop i H'
def KR (K:NB)(wi:TI)(It':ATr):Prop:=∀ σ H ρ μ (Q:List D->Mu->Prop) (R:It->Hp->Prop),Rl K σ H ρ μ->It' ρ μ Q->(∀ J H1 ds μ1,Tk H H1->bV K H1 μ1->zX K J H1 ds->Q ds μ1->R J H1)->wi σ H R
structure LI (X:Cx) (tg iter:N1) (It':ATr):Prop where
 ex:∃ wi,PI X tg iter wi/\KR X.K wi It'
section
variable {X:Cx} {tg a b c e elt iter:N1} {Ta Tb Te:ETr} {Tt:TTr} {pos:Pos} {It':ATr} {G:GTr}
theorem CG {K:NB}{H:Hp}{p:Addr}{xs:List V}{ds:List D}(q:SqT K H p xs)(l:DpL K H xs ds):zX K (Itt K p) H ds where
 go:=λi H' t hi=>by
  have hl:=l.length
  exact ⟨xs,xs[i],t.sqT q,by simp[show i < xs.length by omega]⟩
 yld:=λi H' x H'' t hi ⟨e,y⟩=>by
  subst e
  have ex:=y xs (t.sqT q)
  obtain ⟨d,ed,p⟩:=l.get' ex
  exact ⟨.refl _,⟨d,ed,p.mono t⟩,λ_ m=>m⟩
 stop:=λi H' t hi=>⟨xs,t.sqT q,by rw[l.length];exact hi⟩
theorem ES {K:NB}{H:Hp}{p:Addr}{xs:List V}{ds:List D}(q:SqF K H p xs)(l:DpL K H xs ds):zX K (Itl K p) H ds where
 go:=λi H' t hi=>by
  have hl:=l.length
  exact ⟨xs,xs[i],(t.sqF q).sq,by simp[show i < xs.length by omega]⟩
 yld:=λi H' x H'' t hi ⟨e,y⟩=>by
  subst e
  have ex:=y xs (t.sqF q).sq
  obtain ⟨d,ed,p⟩:=l.get' ex
  exact ⟨.refl _,⟨d,ed,p.mono t⟩,λ_ m=>m⟩
 stop:=λi H' t hi=>⟨xs,(t.sqF q).sq,by rw[l.length];exact hi⟩
theorem bE (lo:Int)(n:Nat):(dm lo n).length=n:=by unfold dm;simp
theorem D8 {K:NB}{H:Hp}(lo:Int)(n:Nat):zX K (Itr lo n) H (dm lo n) where
 go:=λi H' t hi=>by rw[bE] at hi;exact hi
 yld:=λi H' x H'' t hi ⟨e,y⟩=>by
  rw[bE] at hi
  subst e y
  exact ⟨.refl _,⟨.int (lo+i),by unfold dm;simp[hi],.int _⟩,λ_ m=>m⟩
 stop:=λi H' t hi=>by rw[bE] at hi;exact hi
def LH (a:ETr):ATr:=λρ μ Q=>a ρ μ λx μ1=>match x with
 | .tup ds=>Q ds μ1
 | _=>False
def ILs (a:ETr):ATr:=λρ μ Q=>a ρ μ λx μ1=>match x with
 | .ls ds=>Q ds μ1
 | _=>False
theorem cT {rp rpos:Pos}(hg:Gl X "range")(hm:X.mg "range" = none)(ha:LE X a Ta)(hs:NL [a] X.env=[(false,O4 a X.env)]:=by rfl):LI X tg (.Call (.Name "range" rp) [a] [] rpos) (cz Ta):=by
 obtain ⟨ta,pa,sa⟩:=ha.ex
 refine ⟨_,zY hg hm (iV pa oN hs) hs,λσ H ρ μ Q R rl h k=>sa σ H ρ μ _ _ rl h λx H1 d μ1 t1 m1 p1 h1=>?_⟩
 cases p1 with
 | int j=>
  obtain ⟨⟨h2,h3⟩,h4⟩:=h1
  exact ⟨j,rfl,by simpa using h2,by simpa using h3,k _ H1 _ μ1 t1 m1 (D8 0 _) h4⟩
 | _=>exact NG h1
theorem Mb {t1:TS}{T1:STr}{g:TG}{E:En}{E':Ends}{K:NB}{H0 H1:Hp}{J:It}{ds:List D}(sg:IC K g G)(s1:Kd K t1 T1)(k:D0 K H0 E E')(Y:zX K J H1 ds){σ:L2.St}{ρ:ST}{μ:Mu}(t0:Tk H0 H1)(rl:Rl K σ H1 ρ μ)(h:forR G T1 E ds ρ μ) :
  ∃ W:Nat->Nat->L2.St->Hp->Prop,(∃ m,W 0 m σ H1)/\∀ i m σ H,W i m σ H->
   (J.stop i H/\E'.nx σ H)∨(J.go i H/\∃ N:L2.St->Hp->Prop,(∀ σ' H',N σ' H'->∃ m',m' < m/\W (i+1) m' σ' H')/\∀ x H',J.yld i H x H'->g x σ H' λσ2 H2=>t1 { E' with nx:=N,ct:=N,bk:=E'.nx } σ2 H2):=by
 refine ⟨λi m σ' H'=>m=ds.length - i/\i<=ds.length/\Tk H1 H'/\∃ ρ' μ',Rl K σ' H' ρ' μ'/\forR G T1 E (ds.drop i) ρ' μ',⟨ds.length,by simp,Pb _,.refl _,ρ,μ,rl,by simpa using h⟩,?_⟩
 rintro i m σ1 H2 ⟨rfl,hi,t12,ρ1,μ1,r1,h1⟩
 by_cases hlt:i < ds.length
 ·refine .inr ⟨Y.go i H2 t12 hlt,λσ' H'=>Tk H1 H'/\∃ ρ' μ',Rl K σ' H' ρ' μ'/\forR G T1 E (ds.drop (i+1)) ρ' μ',λσ' H' ⟨t',ρ',μ',r',h'⟩=>⟨ds.length - (i+1),by omega,rfl,hlt,t',ρ',μ',r',h'⟩,λx H3 y=>?_⟩
  obtain ⟨t23,⟨d,ed,pd⟩,mk⟩:=Y.yld i H2 x H3 t12 hlt y
  have e:ds.drop i=d::ds.drop (i+1):=by
   refine (P9 hlt).trans ?_
   congr 1
   rw[Oc hlt] at ed
   exact Oq ed
  rw[e] at h1
  have t13:=t12.trans t23
  refine sg σ1 H3 ρ1 μ1 _ _ _ _ (r1.go t23 (mk _ r1.mu)) pd h1 λσ4 H4 ρ4 μ4 t4 r4 h4=>?_
  have t14:=t13.trans t4
  have t04:=t0.trans t14
  exact s1 σ4 H4 ρ4 μ4 _ _ r4 h4 ⟨λσ' H' ρ' μ' t' r' q=>⟨t14.trans t',ρ',μ',r',q⟩,(k.go t04).rt,(k.go t04).nx,λσ' H' ρ' μ' t' r' q=>⟨t14.trans t',ρ',μ',r',q⟩⟩
 ·have e:i=ds.length:=by omega
  subst e
  rw[QJ] at h1
  exact .inl ⟨Y.stop _ H2 t12 (NV _),k.nx _ _ _ _ (t0.trans t12) r1 h1⟩
theorem oI {body:List Stmt}{T1:STr}(hp:Ub (N3 X.prog X.w) X.A X.env X.xe)(hc:X.calm=true)(hi:LI X tg iter It')(hG:LG X tg G)(hb:LSs X body T1)(hf:∀ x,OQ iter X.env x=pure x:=by intro _;rfl) :
  LS X (.For tg iter body [] pos) (qa It' G T1):=by
 obtain ⟨wi,pi,si⟩:=hi.ex
 obtain ⟨g,pg,sg⟩:=hG.ex
 obtain ⟨t1,p1,s1⟩:=hb.ex
 exact ⟨_,IP hp hc pi pg p1 hf,λσ H ρ μ E E' rl h k=>si σ H ρ μ _ _ rl h λJ H1 ds μ1 t1' m1 Y h1=>Mb sg s1 k Y t1' (rl.go t1' m1) h1⟩
def yX (K:NB)(T:ETr):TE:=λσ H Q'=>∃ ρ μ Q,Rl K σ H ρ μ/\T ρ μ Q/\iz K H Q Q'
def liftT (K:NB)(T:TTr):TT:=λσ H Q'=>∃ ρ μ Q,Rl K σ H ρ μ/\T ρ μ Q/\∀ b H' μ',Tk H H'->bV K H' μ'->Q b μ'->Q' b H'
abbrev Mk (K:NB)(n:Nat)(σ:L2.St)(H:Hp)(k:ST->Mu->Prop)(k':L2.St->Hp->Prop):Prop:=∀ σ' H' ρ' μ',Tk H H'->Rl K σ' H' ρ' μ'->(σ'.length=σ.length/\∀ j,n<=j->σ'[j]? = σ[j]?)->k ρ' μ'->k' σ' H'
def yR (K:NB)(n:Nat)(G:GTr):TG:=λv σ H k'=>∃ ρ μ d k,Rl K σ H ρ μ/\Dp K H v d/\G d ρ μ k/\Mk K n σ H k k'
theorem LE.pe (h:LE X e Te):PE X e (yX X.K Te):=by
 obtain ⟨t,p,s⟩:=h.ex
 exact λpins st σ H Q I ⟨ρ,μ,Q0,rl,hT,k⟩=>p pins st σ H Q I (s σ H ρ μ Q0 Q rl hT k)
structure BS (X:Cx) (ifs:List N1) (Tt:TTr):Prop where
 pe:yi X ifs (liftT X.K Tt)
theorem cj:BS X [] gh:=⟨λpins s σ H Q I ⟨ρ,μ,Q0,rl,hT,k⟩=>FR pins s σ H Q I (k true H μ (.refl H) rl.mu hT)⟩
theorem FD (h:LT X c Tt):BS X [c] Tt:=by
 obtain ⟨t,p,s⟩:=h.ex
 exact ⟨λpins st σ H Q I ⟨ρ,μ,Q0,rl,hT,k⟩=>Fn p pins st σ H Q I (s σ H ρ μ Q0 Q rl hT k)⟩
structure LGc (X:Cx) (n:Nat) (tg:N1) (G:GTr):Prop where
 pe:PG X tg (yR X.K n G)
theorem bO {x:Str}{n:Nat}(i:Nat)(hN:X.N.Nodup)(hin:i < n:=by decide)(hi:X.N[i]? = some x:=by rfl)(hx:Loc X.env.scope x:=by first | exact Sx rfl | exact RB rfl)(hf:X.fn x=true∨X.env.scope.names.lookup x=some .local:=by first | exact .inr rfl | exact .inl rfl | assumption):LGc X n (.Name x pos) (az i):=
 ⟨λpins s σ H v u k' I r ⟨ρ,μ,d,k,rl,p,h,post⟩=>mG hN hi hx hf pins s σ H v u k' I r (post _ H _ μ (.refl H) (rl.set p i) ⟨by simp,λj hj=>by rw[PX (by omega)]⟩ h)⟩
theorem y4 {K:NB}{σ:L2.St}{H:Hp}{ρ:ST}{μ:Mu}(rl:Rl K σ H ρ μ)(n:Nat)(caps:List Nat):Rl K (j9 σ n caps) H (jY ρ n caps) μ:=by
 refine ⟨by unfold j9 jY;simp,λi d e=>?_,rl.mu⟩
 have gen:∀ (n i:Nat),lk (N8 n none++caps.map (lk ρ)) i=some d->∃ j,i=n+j/\∃ k,caps[j]? = some k/\lk ρ k=some d:=by
  intro n
  induction n with
  | zero=>
   intro i h
   have h':lk (caps.map (lk ρ)) i=some d:=by simpa using h
   have g2:∀ (cs:List Nat) (i:Nat),lk (cs.map (lk ρ)) i=some d->∃ k,cs[i]? = some k/\lk ρ k=some d:=by
    intro cs
    induction cs with
    | nil=>intro i h;cases i<;>cases h
    | cons c r ih=>intro i h;cases i with
     | zero=>exact ⟨c,rfl,h⟩
     | succ i=>simpa using ih i h
   exact ⟨i,by omega,g2 caps i h'⟩
  | succ n ih=>
   intro i h
   cases i with
   | zero=>cases h
   | succ i=>
    obtain ⟨j,rfl,k,h1,h2⟩:=ih i h
    exact ⟨j,by omega,k,h1,h2⟩
 obtain ⟨j,rfl,k,h1,h2⟩:=gen n i e
 obtain ⟨v,h3,h4⟩:=rl.loc k d h2
 refine ⟨v,?_,h4⟩
 unfold j9
 rw[PZ (by simp)]
 simp[h1,h3]
theorem F9 {ifs:List N1}{scope:Scope}{Nc:List Str}{n:Nat}{caps:List Nat}(hxe:X.xe=λ_ _=>False)(hcalm:X.calm=true)(hi:LI X tg iter It')
  (hbody:∀ (cl:List (Str×Addr)) (C:Addr) (s₀:ND) (H₀:Hp) (ex:List Addr),LGc (bH X scope Nc cl C s₀ H₀ ex) n tg G/\BS (bH X scope Nc cl C s₀ H₀ ex) ifs Tt/\LE (bH X scope Nc cl C s₀ H₀ ex) elt Te)
  (hfree:∀ y∈scope.names,y.2=.free->X.env.kindOf y.1=some .cell) (hcell:∀ y∈scope.names,y.2≠.cell) (gi:scope.kind=.function)
  (hnames:∀ y∈scope.names,y.2=.local->scope.names.lookup y.1=some .local) (hlen:Nc.length=n+caps.length)
  (hcap:∀ (j k:Nat),caps[j]? = some k->∃ x,Nc[n+j]? = some x/\X.N[k]? = some x/\scope.names.lookup x=some .free)
  (hs:∀ x,OQ iter X.env x=pure x:=by intro _;rfl) :
  LE X (.ListComp elt [⟨tg,iter,ifs,0⟩] scope pos) (cu It' G Tt Te n caps):=by
 obtain ⟨wi,pi,si⟩:=hi.ex
 refine ⟨_,jC (Fh (g:=yR X.K n G) (tt:=liftT X.K Tt) (te:=yX X.K Te) hxe hcalm pi (λcl C s₀ H₀ ex=>let ⟨h1,h2,h3⟩:=hbody cl C s₀ H₀ ex;⟨h1.pe,h2.pe,h3.pe⟩) hfree hcell gi hnames hlen hcap hs),?_⟩
 intro σ H ρ μ Q Q' rl h k
 refine si σ H ρ μ _ _ rl h λJ H1 ds μ1 t1 m1 Y h1 D hD=>?_
 have hp:=h1 D (m1.free hD)
 have tD:Tk H1 (L2.upd H1 D (.lst [])):=.new hD
 have mD:bV X.K (L2.upd H1 D (.lst [])) (up μ1 D (.lst [])):=λa o e=>by
  by_cases ha:a=D
  ·subst ha
   rw[aX] at e;cases e
   exact ⟨[],aQ,.nil⟩
  ·rw[cJ ha] at e
   exact eI m1 hD a o e
 refine ⟨λi m ys H2=>m=ds.length - i/\i<=ds.length/\Tk H1 H2/\∃ μ2,bV X.K H2 μ2/\ik D G Tt Te (jY ρ n caps) (λμ'=>kL μ' D λzs=>Q (.ls zs) (dn μ' D)) (ds.drop i) μ2,
  ⟨ds.length,by simp,Pb _,tD,_,mD,by simpa using hp⟩,?_⟩
 rintro i m ys H2 ⟨rfl,hi,t12,μ2,m2,h2⟩
 by_cases hlt:i < ds.length
 ·refine .inr ⟨Y.go i H2 t12 hlt,λys' H'=>Tk H1 H'/\∃ μ',bV X.K H' μ'/\ik D G Tt Te (jY ρ n caps) (λμ'=>kL μ' D λzs=>Q (.ls zs) (dn μ' D)) (ds.drop (i+1)) μ',λys' H' ⟨t',μ',m',h'⟩=>⟨ds.length - (i+1),by omega,rfl,hlt,t',μ',m',h'⟩,λx H3 y=>?_⟩
  obtain ⟨t23,⟨d,ed,pd⟩,mk⟩:=Y.yld i H2 x H3 t12 hlt y
  have e:ds.drop i=d::ds.drop (i+1):=by
   refine (P9 hlt).trans ?_
   congr 1
   rw[Oc hlt] at ed
   exact Oq ed
  rw[e] at h2
  have t13:=t12.trans t23
  have r3:Rl X.K (j9 σ n caps) H3 (jY ρ n caps) μ2:=y4 (rl.go (t1.trans t13) (mk _ m2)) n caps
  refine ⟨_,_,d,_,r3,pd,h2,λσ4 H4 ρ4 μ4 t4 r4 kp h4=>⟨⟨kp.1.symm,λj v ej=>?_⟩,_,_,_,r4,h4,λb H5 μ5 t5 m5 h5=>?_⟩⟩
  ·by_cases hj:n<=j
   ·rw[kp.2 j hj];exact ej
   ·obtain ⟨j',k',e1,_⟩:=ow ej
    omega
  ·have t15:=t13.trans (t4.trans t5)
   cases b with
   | false=>exact sf ⟨t15,μ5,m5,h5⟩
   | true=>
    refine tf ⟨_,_,_,r4.go t5 m5,h5,λv H6 d6 μ6 t6 m6 p6 h6=>?_⟩
    obtain ⟨zs,ez,lz,h7⟩:=cO h6
    obtain ⟨xs,ex,lx⟩:=m6 D _ ez
    have t67:Tk H6 (L2.upd H6 D (.lst (xs++[v]))):=.upd (λys z=>by rw[ex] at z;cases z) λo' u z=>by rw[ex] at z;cases z
    refine ⟨xs,ex,by rw[lx.length];exact N4 lz (by decide),(t15.trans t6).trans t67,up μ6 D (.lst (zs++[d6])),λa o ea=>?_,h7⟩
    by_cases ha:a=D
    ·subst ha
     rw[aX] at ea;cases ea
     exact ⟨_,aQ,(lx.append (.cons p6 .nil)).mono t67⟩
    ·rw[cJ ha] at ea
     exact (m6 a _ ea).ne t67 ha
 ·have e:i=ds.length:=by omega
  subst e
  rw[QJ] at h2
  obtain ⟨zs,ez,hq⟩:=cO (show kL μ2 D λzs=>Q (.ls zs) (dn μ2 D) from h2)
  obtain ⟨xs,ex,lx⟩:=m2 D _ ez
  refine .inl ⟨Y.stop _ H2 t12 (NV _),D,xs,rfl,ex,λo=>?_⟩
  have t2f:Tk H2 (L2.upd H2 D (.frz o (.lst xs))):=.upd (λys z=>by rw[ex] at z;cases z) λo' u z=>by rw[ex] at z;cases z
  refine k _ _ _ (dn μ2 D) ((t1.trans t12).trans t2f) (λa o' ea=>?_) (.ls (.inl ⟨o,aQ⟩) (lx.mono t2f)) hq
  have ha:a≠D:=λz=>by subst z;unfold dn at ea;rw[if_pos rfl] at ea;cases ea
  have ea':μ2 a=some o':=by unfold dn at ea;rw[if_neg ha] at ea;exact ea
  exact (m2 a _ ea').ne t2f ha
end
end
section
open PySem PySem.Spec PyProof.Rows L2
def sx (fn:List (Str×QT))(XN:List Str)(sc:Scope)(Nc:List Str)(n:Nat)(caps:List Nat):Bool:=
 sc.names.all (λy=>(y.2 != .free || fn.lookup y.1 == some .cell)&&y.2 != .cell&&(y.2 != .local || sc.names.lookup y.1 == some .local))&&sc.kind == .function&&Nc.length == n+caps.length &&
 (OR caps.length).all λj=>match caps[j]? with
  | some k=>(match XN[k]? with
   | some x=>Nc[n+j]? == some x&&sc.names.lookup x == some .free
   | none=>false)
  | none=>false
section
variable {X:Cx} {tg a b c e elt iter:N1} {Ta Tb Te:ETr} {Tt:TTr} {pos:Pos} {It':ATr} {G:GTr}
theorem b8 {ifs:List N1}{scope fsc:Scope}(XN Nc:List Str)(n:Nat)(caps:List Nat)(hxe:X.xe=λ_ _=>False)(hcalm:X.calm=true)(hi:LI X tg iter It')
  (hbody:∀ (cl:List (Str×Addr)) (C:Addr) (s₀:ND) (H₀:Hp) (ex:List Addr),LGc (bH X scope Nc cl C s₀ H₀ ex) n tg G/\BS (bH X scope Nc cl C s₀ H₀ ex) ifs Tt/\LE (bH X scope Nc cl C s₀ H₀ ex) elt Te)
  (hsc:X.env.scope=fsc) (hXN:X.N=XN) (hok:sx fsc.names XN scope Nc n caps=true)
  (hs:∀ x,OQ iter X.env x=pure x:=by intro _;rfl) :
  LE X (.ListComp elt [⟨tg,iter,ifs,0⟩] scope pos) (cu It' G Tt Te n caps):=by
 unfold sx at hok
 simp only[NO,Ot] at hok
 obtain ⟨⟨⟨h1,h2⟩,h3⟩,h4⟩:=hok
 refine F9 hxe hcalm hi hbody (λy hy hf=>?_) (λy hy hf=>?_) (by simpa using h2) (λy hy hf=>?_) (by simpa using h3) (λj k hj=>?_) hs
 ·have:=(h1 y hy).1.1
  show X.env.scope.names.lookup y.1=_
  rw[hsc]
  simpa[hf] using this
 ·have:=(h1 y hy).1.2
  simp[hf] at this
 ·have:=(h1 y hy).2
  simpa[hf] using this
 ·have hl:j < caps.length:=(Oz.mp hj).1
  have:=h4 j (PB.mpr hl)
  rw[hj] at this
  dsimp only at this
  rw[hXN]
  cases e:XN[k]? with
  | none=>rw[e] at this;cases this
  | some x=>
   rw[e] at this
   dsimp only at this
   rw[NO] at this
   exact ⟨x,by simpa using this.1,rfl,by simpa using this.2⟩
end
theorem lb:∀ {bs:List Bool} {us:List NC},Vals (bs.map V.bl) us->LSm.BoolsAre us bs
 | [],_,.nil=>.nil
 | b::r,_,.cons h t=>by
  cases (show _=RV b from h)
  exact .cons b (lb t)
theorem kW {X:Cx}(hc:X.calm=true):cm X (.builtin "all") (λxs H Q=>∃ (p:Addr) (ys:List V) (bs:List Bool),xs=[.ref p]/\SqL X.K H p ys/\ys=bs.map V.bl/\Q (.bl (bs.all id)) H):=λpins s σ H xs us Q I rx ⟨p,ys,bs,e1,sq,e2,q⟩=>by
 subst e1 e2
 cases rx with | cons r1 r2=>
 cases r2
 cases (show _=OX p from r1)
 obtain ⟨its,rv,pl,_⟩:=I.list sq
 have ils:s.heap.IsList p its.toArray:=by
  obtain ⟨o,n,h1,h2,_,h3⟩:=pl
  exact ⟨o,h1,h2,n,h3⟩
 have bls:=lb rv
 have hlt:p < s.heap.objs.size:=by obtain ⟨_,e,_⟩:=ils;exact NP e
 refine call_all_walk (Rt ils ?_)
 refine ⟨s.heap.objs.size,[s.heap.objs.size,p],[s.heap.objs.size],its.toArray.size,_,_,λi=>(bs[i]?).getD true,rfl,Walks.list (A:=X.A.in1) (I.ok.hd hc) _ p (NY hlt) its.toArray,
  ⟨⟨_,NT _ rfl,rfl,rfl⟩,ils.push _⟩,λi v s' Q' E' gP gQ=>?_,λh' tk hk=>?_⟩
 ·obtain ⟨b,e,rfl⟩:=bls.get i v (by simpa using gP)
  simp only[e,RK] at gQ
  exact OP gQ
 ·have e:((OR its.toArray.size).all λi=>(bs[i]?).getD true)=bs.all id:=by
   rw[NS,bls.length];exact LSm.range_all bs
  rw[e]
  exact ⟨.bl _,H,I.kept (LSm.kept_iter hk),rfl,q⟩
theorem DpL.bools {K:NB}{H:Hp}:∀ {xs:List V} {bs:List Bool},DpL K H xs (bs.map .bl)->xs=bs.map V.bl
 | _,[],.nil=>rfl
 | _,b::r,.cons h l=>by cases h;rw[DpL.bools l];rfl
theorem sL {K:NB}:rV K (λxs H Q=>∃ (p:Addr) (ys:List V) (bs:List Bool),xs=[.ref p]/\SqL K H p ys/\ys=bs.map V.bl/\Q (.bl (bs.all id)) H) BI:=λH μ xs ds Q Q' m p h k=>by
 unfold BI at h
 split at h
 ·obtain ⟨bs,rfl,h⟩:=h
  cases p with | cons p1 p2=>cases p2;cases p1 with | ls q l=>exact ⟨_,_,bs,rfl,q.sq,l.bools,k _ H _ μ (.refl H) m (.bl _) h⟩
 ·exact h.elim
end
section
open PySem PySem.Spec PyProof.Rows L2
def GV (K:NB)(mg:Str->Option NC)(x:Str)(d:D):Prop:=∃ u v,mg x=some u/\RelV v u/\∀ H,Dp K H v d
theorem bc {X:Cx}{x:Str}{pos:Pos}{d:D}(hg:Gl X x)(h:GV X.K X.mg x d)(hd:(x == ("__debug__" : Str))=false:=by decide):LE X (.Name x pos) (TC d):=by
 obtain ⟨u,v,hm,r,p⟩:=h
 exact ⟨_,sC hg hm r hd,λσ H ρ μ Q Q' rl h k=>k v H d μ (.refl H) rl.mu (p H) h⟩
section
variable {K:NB} {h:Heap} {mg:Str->Option NC} {x:Str}
theorem bM {i:Int}{t:Tok}(X:K.In h)(G:h.Ns Oy mg)(a:R6 K Oy x=some (some (.int i t))):GV K mg x (.int i):=⟨_,.int i,RD X G a,⟨t,rfl⟩,λ_=>.int i⟩
theorem Im {i:Str}{t:Tok}(X:K.In h)(G:h.Ns Oy mg)(a:R6 K Oy x=some (some (.str i t))):GV K mg x (.str i):=⟨_,.str i,RD X G a,⟨t,rfl⟩,λ_=>.str i⟩
theorem DY {p:Addr}{o:Obj}{its:Array NC}{n:Nat}{xs:List V}{ds:List D}(X:K.In h)(G:h.Ns Oy mg)(a:R6 K Oy x=some (some (.ref p)))(l:K.lookup p=some o)(c:o.cls=.type "tuple")(dn:o.dict=none)(d:o.data=.seq its n)
  (z:its.size<=sizeLine) (r:Vals xs its.toList) (q:∀ H,DpL K H xs ds):GV K mg x (.tup ds):=⟨_,.ref p,RD X G a,rfl,λH=>.tup (.inr ⟨o,its,n,l,c,dn,d,z,r⟩) (q H)⟩
end
def kF:ST->List Nat->List D->ST
 | ρ,i::is,d::ds=>kF (ρ.set i (some d)) is ds
 | ρ,_,_=>ρ
def sQ (is:List Nat):GTr:=λd ρ μ k=>match d with
 | .tup ds=>ds.length=is.length/\k (kF ρ is ds) μ
 | _=>False
def Ls (K:NB)(t:TGs)(is:List Nat):Prop:=∀ σ H ρ μ vs ds (k:ST->Mu->Prop) (k':L2.St->Hp->Prop),Rl K σ H ρ μ->DpL K H vs ds->ds.length=is.length->k (kF ρ is ds) μ->vv K H k k'->t vs σ H k'
structure LGs (X:Cx) (es:List N1) (is:List Nat):Prop where
 ex:∃ t,PGs X es t/\Ls X.K t is
section
variable {X:Cx} {e tg:N1} {es:List N1} {is:List Nat} {pos:Pos} {x:Str} {Ta:ETr} {G:GTr}
theorem sD:LGs X [] []:=⟨_,Gm,λσ H ρ μ vs ds k k' rl l hl h q=>by
 cases ds with
 | nil=>cases l;exact ⟨rfl,q _ _ _ _ (.refl H) rl h⟩
 | cons=>cases hl⟩
theorem bU (i:Nat)(hN:X.N.Nodup)(h2:LGs X es is)(hi:X.N[i]? = some x:=by rfl)(hx:Loc X.env.scope x:=by first | exact Sx rfl | exact RB rfl)(hf:X.fn x=true∨X.env.scope.names.lookup x=some .local:=by first | exact .inl rfl | exact .inr rfl | assumption)
  (hs:(Pf (.Name x pos::es) X.env).map (·.2)=Ry (.Name x pos) X.env::(Pf es X.env).map (·.2):=by rfl):LGs X (.Name x pos::es) (i::is):=by
 obtain ⟨t,pt,st⟩:=h2.ex
 refine ⟨_,A6 (mG hN hi hx hf) pt hs,λσ H ρ μ vs ds k k' rl l hl h q=>?_⟩
 cases l with
 | nil=>cases hl
 | @cons v d vs ds p l=>exact ⟨v,vs,rfl,st _ H _ μ vs ds k k' (rl.set p i) l (by simpa using hl) h q⟩
theorem yl {k:Nat}(hc:X.calm=true)(h:LGs X es is)(hn:(Pf es X.env).length=is.length:=by rfl)(hst:(Pf es X.env).findIdx? (·.1)=none:=by rfl):LG X (.Tuple es k pos) (sQ is):=by
 obtain ⟨t,pt,st⟩:=h.ex
 refine ⟨_,Ks hc pt hn hst,λσ H ρ μ v d k k' rl p h q=>?_⟩
 cases p with
 | @tup a xs ds sq l=>exact ⟨a,xs,rfl,sq,by rw[l.length];exact h.1,st σ H ρ μ xs ds k k' rl l h.1 h.2 q⟩
 | _=>exact NG h
theorem wO (he:LE X e Ta)(hG:LG X tg G)(hs:QM [tg] e pos.line X.env=pure false:=by rfl)(hw:QN [tg] e X.env=pure none:=by rfl)
  (h1:(Pf [tg] X.env).map (·.2)=[Ry tg X.env]:=by rfl):LS X (.Assign [tg] e pos) (aU Ta G):=by
 obtain ⟨ta,pa,sa⟩:=he.ex
 obtain ⟨g,pg,sg⟩:=hG.ex
 exact ⟨_,De pa pg hs hw h1,λσ H ρ μ E E' rl h k=>sa σ H ρ μ _ _ rl h λv H' d μ' t' m' p' h'=>sg σ H' ρ μ' v d _ _ (rl.go t' m') p' h' (k.go t').nx⟩
theorem lt_chain {a b c:N1}{Ta Tb Tc:ETr}{op op':TF}{r r':L2.R2}{R R':DR2}(ho:OpR X (OA op) r)(ho':OpR X (OA op') r')(hr:cL X.K r R)(hr':cL X.K r' R')(ha:LE X a Ta)(hb:LE X b Tb)(hc:LE X c Tc)
  (hm:SJ [op,op'] [b,c]=false:=by with_unfolding_all rfl):LT X (.Compare a [op,op'] [b,c] pos) (TB (fK R R' Ta Tb Tc)):=by
 obtain ⟨ta,pa,sa⟩:=ha.ex
 obtain ⟨tb,pb,sb⟩:=hb.ex
 obtain ⟨tc,pc,sc⟩:=hc.ex
 exact ⟨_,Bs ho ho' pa pb pc hm,wU (qr hr hr' sa sb sc)⟩
end
end
section
open PySem PySem.Spec PyProof.Rows L2
def C4 (tp:Bool)(h:Heap)(it a:Addr)(i:Nat):Prop:=match tp with
 | true=>h.IsTupleIter it a i
 | false=>h.IsListIter it a i
def Fe (tp:Bool)(h:Heap)(a:Addr)(xs:Array NC):Prop:=match tp with
 | true=>h.IsTuple a xs
 | false=>h.IsList a xs
theorem C4.at {tp:Bool}{h g:Heap}{it a:Addr}{i:Nat}(x:C4 tp h it a i)(k:∀ o,h.get? it=some o->g.get? it=some o):C4 tp g it a i:=by
 cases tp with
 | true=>obtain ⟨o,e,r⟩:=x;exact ⟨o,k o e,r⟩
 | false=>obtain ⟨o,e,r⟩:=x;exact ⟨o,k o e,r⟩
theorem Fe.at {tp:Bool}{h g:Heap}{a:Addr}{xs:Array NC}(x:Fe tp h a xs)(k:∀ o,h.get? a=some o->g.get? a=some o):Fe tp g a xs:=by
 cases tp with
 | true=>obtain ⟨o,e,r⟩:=x;exact ⟨o,k o e,r⟩
 | false=>obtain ⟨o,e,r⟩:=x;exact ⟨o,k o e,r⟩
theorem C4.ex {tp:Bool}{h:Heap}{it a:Addr}{i:Nat}(x:C4 tp h it a i):∃ o,h.get? it=some o/\∃ vs,o.data=.fields vs:=by
 cases tp with
 | true=>obtain ⟨o,e,_,d⟩:=x;exact ⟨o,e,_,d⟩
 | false=>obtain ⟨o,e,_,d⟩:=x;exact ⟨o,e,_,d⟩
section
variable {prog:NR} {w:N6} {A:N7} {E:NC->ND->Prop} {s:ND}
end
def Sq (tp:Bool)(K:NB)(H:Hp)(a:Addr)(xs:List V):Prop:=match tp with
 | true=>SqT K H a xs
 | false=>SqL K H a xs
def SqX (tp:Bool)(K:NB)(H:Hp)(a:Addr)(xs:List V):Prop:=match tp with
 | true=>SqT K H a xs
 | false=>SqF K H a xs
theorem SqX.sq {tp:Bool}{K:NB}{H:Hp}{a:Addr}{xs:List V}(h:SqX tp K H a xs):Sq tp K H a xs:=by
 cases tp with
 | true=>exact h
 | false=>exact SqF.sq h
theorem Inv.sq {X:Cx}{pins:List (Addr×Obj)}{σ:L2.St}{H:Hp}{s:ND}{tp:Bool}{a:Addr}{xs:List V}(I:Inv X pins σ H s)(h:Sq tp X.K H a xs):∃ its:List NC,Vals xs its/\Fe tp s.heap a its.toArray:=by
 cases tp with
 | true=>obtain ⟨its,r,p,_⟩:=I.tuple h;exact ⟨its,r,p⟩
 | false=>
  obtain ⟨its,r,⟨o,n,e1,e2,_,e3⟩,_⟩:=I.list h
  exact ⟨its,r,o,e1,e2,n,e3⟩
section
variable {X:Cx} {ea eb:N1} {es:List N1} {ek:Nat} {ep p pos:Pos}
theorem Tk.sq {K:NB}{H H':Hp}{tp:Bool}{a:Addr}{xs:List V}(t:Tk H H')(h:SqX tp K H a xs):Sq tp K H' a xs:=by
 cases tp with
 | true=>exact t.sqT h
 | false=>exact (t.sqF h).sq
end
end
section
open PySem PySem.Spec PyProof.Rows L2
def kObj (x:D)(f:Addr->Prop):Prop:=match x with
 | .obj a=>f a
 | _=>False
theorem kK (a:Addr)(f):kObj (.obj a) f=f a:=rfl
section
variable {X:Cx} {o a b c e:N1} {To Ta Tb Tc Te T T':ETr} {pos:Pos}
theorem Mj {K:NB}{H:Hp}{μ:Mu}{q:Addr}{u:HO}(m:bV K H μ)(t:Tk H (L2.upd H q u)):bV K (L2.upd H q u) (dn μ q):=λz y ez=>by
 have zq:z≠q:=λw=>by subst w;unfold dn at ez;rw[if_pos rfl] at ez;cases ez
 have ez':μ z=some y:=by unfold dn at ez;rw[if_neg zq] at ez;exact ez
 exact (m z _ ez').ne t zq
theorem sM {H:Hp}{q:Addr}{u:HO}{xs:List V}(ex:H q=some (.lst xs)):Tk H (L2.upd H q u):=
 .upd (λys z=>by rw[ex] at z;cases z) λo' w z=>by rw[ex] at z;cases z
theorem L1 {K:NB}{H:Hp}{μ:Mu}{q:Addr}{xs ys:List V}{ds:List D}(m:bV K H μ)(ex:H q=some (.lst xs))(l:DpL K H ys ds):bV K (L2.upd H q (.lst ys)) (up μ q (.lst ds)):=λz y ez=>by
 by_cases zq:z=q
 ·subst zq
  rw[aX] at ez;cases ez
  exact ⟨ys,aQ,l.mono (sM ex)⟩
 ·rw[cJ zq] at ez
  exact (m z _ ez).ne (sM ex) zq
def AQ (T:ETr):ETr:=λρ μ Q=>T ρ μ λx μ1=>kObj x λa=>kL μ1 a λds=>Q (.ls ds) (dn μ1 a)
theorem JS (h:LE X e T):LE X e (AQ T):=by
 obtain ⟨t,p,s⟩:=h.ex
 refine ⟨_,jC p,λσ H ρ μ Q Q' rl h k=>s σ H ρ μ _ _ rl h λv H1 d μ1 t1 m1 p1 h1=>?_⟩
 cases p1 with
 | obj q=>
  obtain ⟨ds,e0,h2⟩:=cO h1
  obtain ⟨xs,ex,l⟩:=m1 q _ e0
  refine ⟨q,xs,rfl,ex,λu=>?_⟩
  have t2:Tk H1 (L2.upd H1 q (.frz u (.lst xs))):=sM ex
  exact k _ _ _ (dn μ1 q) (t1.trans t2) (Mj m1 t2) (.ls (.inl ⟨u,aQ⟩) (l.mono t2)) h2
 | _=>exact NG h1
def ud (To Te:ETr):ETr:=λρ μ Q=>To ρ μ λx μ1=>kObj x λa=>kL μ1 a λ_=>Te ρ μ1 λy μ2=>kL μ2 a λds=>ds.length < 1000000/\Q .non (up μ2 a (.lst (ds++[y])))
theorem le_app {apos cpos:Pos}(ho:LE X o To)(he:LE X e Te)
  (hbase:S0 o (NA "append") X.env (O4 o X.env)=O4 o X.env:=by rfl)
  (hfew:((OB cpos (NL [e] X.env)).all (λx=>!x.1)&&(backToKw cpos (Um [] X.env)).all (λx=>x.1.isSome)
   && decide ([e].length+([]:List SK).length+(if ([]:List SK).isEmpty then 0 else 1) < 30))=true:=by rfl)
  (hline:(apos.endLine == cpos.line)=true:=by rfl) (hs:NL [e] X.env=(false,O4 e X.env)::NL [] X.env:=by rfl) (hplain:(OB cpos (NL [] X.env)).any (·.1)=false:=by rfl) :
  LE X (.Call (.Attribute o (NA "append") apos) [e] [] cpos) (ud To Te):=by
 obtain ⟨to,po,so⟩:=ho.ex
 obtain ⟨te,pe,se⟩:=he.ex
 refine ⟨_,Hi RL PySem.F.slot_list_append PySem.F.type_list_append qi po (iV pe oN hs) hbase hfew hline hs hplain,λσ H ρ μ Q Q' rl h k=>so σ H ρ μ _ _ rl h λx H1 dx μ1 t1 m1 p1 h1=>?_⟩
 cases p1 with
 | obj q=>
  obtain ⟨ds0,e0,h2⟩:=cO h1
  obtain ⟨xs0,ex0,_⟩:=m1 q _ e0
  refine ⟨.inl ⟨rfl,_,SqL.of ex0⟩,se σ H1 ρ μ1 _ _ (rl.go t1 m1) h2 λy H2 dy μ2 t2 m2 p2 h3=>?_⟩
  obtain ⟨ds,e1,lz,h4⟩:=cO h3
  obtain ⟨xs,ex,l⟩:=m2 q _ e1
  exact ⟨q,xs,y,rfl,rfl,ex,by rw[l.length];exact N4 lz (by decide),k _ _ _ _ ((t1.trans t2).trans (sM ex)) (L1 m2 ex (l.append (.cons p2 .nil))) .non h4⟩
 | _=>exact NG h1
def cI:FSp:=λds μ Q=>match ds with
 | [.tup xs]=>Q (.tup xs) μ
 | [.ls xs]=>Q (.tup xs) μ
 | [.obj a]=>kL μ a λxs=>Q (.tup xs) μ
 | _=>False
theorem cC {K:NB}:rV K (λxs H Q=>∃ p ys,xs=[.ref p]/\((SqL K H p ys/\∀ l,H l=none->Q (.ref l) (L2.upd H l (.tup ys)))∨(SqT K H p ys/\Q (.ref p) H))) cI:=λH μ xs ds Q Q' m p h k=>by
 unfold cI at h
 split at h
 ·cases p with | cons p1 p2=>cases p2;cases p1 with | tup q l=>exact ⟨_,_,rfl,.inr ⟨q,k _ H _ μ (.refl H) m (.tup q l) h⟩⟩
 ·cases p with | cons p1 p2=>cases p2;cases p1 with | ls q l=>exact ⟨_,_,rfl,.inl ⟨q.sq,λz hz=>k _ _ _ μ (.new hz) (eI m hz) (.tup (SqT.of aQ) (l.mono (.new hz))) h⟩⟩
 ·rename_i q
  cases p with | cons p1 p2=>
  cases p2;cases p1
  obtain ⟨ys,e0,h⟩:=cO h
  obtain ⟨xs,ex,l⟩:=m q _ e0
  exact ⟨_,_,rfl,.inl ⟨SqL.of ex,λz hz=>k _ _ _ μ (.new hz) (eI m hz) (.tup (SqT.of aQ) (l.mono (.new hz))) h⟩⟩
 ·exact NG h
def xV:FSp:=λds μ Q=>match ds with
 | [.tup xs]=>∀ p,μ p=none->Q (.obj p) (up μ p (.lst xs))
 | [.ls xs]=>∀ p,μ p=none->Q (.obj p) (up μ p (.lst xs))
 | [.obj a]=>kL μ a λxs=>∀ p,μ p=none->Q (.obj p) (up μ p (.lst xs))
 | _=>False
def fk:FSp:=λds μ Q=>match ds with
 | [.tup xs]=>Q (.ls xs) μ
 | [.ls xs]=>Q (.ls xs) μ
 | [.obj a]=>kL μ a λxs=>Q (.ls xs) μ
 | _=>False
def Js (Q:VK):VK:=λv H1=>∃ a xs,v=.ref a/\H1 a=some (.lst xs)/\∀ o,Q v (L2.upd H1 a (.frz o (.lst xs)))
theorem gE {K:NB}{H:Hp}{μ:Mu}{ys:List V}{ds:List D}{Q:DK}{Q':VK}{z:Addr}(m:bV K H μ)(l:DpL K H ys ds)(h:Q (.ls ds) μ)(k:iz K H Q Q')(hz:H z=none):Js Q' (.ref z) (L2.upd H z (.lst ys)):=
 ⟨z,ys,rfl,aQ,λo=>by
  have e:L2.upd (L2.upd H z (.lst ys)) z (.frz o (.lst ys))=L2.upd H z (.frz o (.lst ys)):=tP
  rw[e]
  exact k _ _ _ μ (.new hz) (eI m hz) (.ls (.inl ⟨o,aQ⟩) (l.mono (.new hz))) h⟩
theorem zU {K:NB}:rV K (λxs H Q=>∃ p ys,xs=[.ref p]/\(SqL K H p ys∨SqT K H p ys)/\∀ l,H l=none->Js Q (.ref l) (L2.upd H l (.lst ys))) fk:=λH μ xs ds Q Q' m p h k=>by
 unfold fk at h
 split at h
 ·cases p with | cons p1 p2=>cases p2;cases p1 with | tup q l=>exact ⟨_,_,rfl,.inr q,λz hz=>gE m l h k hz⟩
 ·cases p with | cons p1 p2=>cases p2;cases p1 with | ls q l=>exact ⟨_,_,rfl,.inl q.sq,λz hz=>gE m l h k hz⟩
 ·rename_i q
  cases p with | cons p1 p2=>
  cases p2;cases p1
  obtain ⟨ys,e0,h⟩:=cO h
  obtain ⟨xs,ex,l⟩:=m q _ e0
  exact ⟨_,_,rfl,.inl (SqL.of ex),λz hz=>gE m l h k hz⟩
 ·exact NG h
theorem jO {x:Str}{p:Pos}{At:ATr}(hx:x = "list")(hg:Gl X x)(hm:X.mg x=none)(hv:Of x=some (.type "list"))(ha:LA X [e] At)(hn:x ≠ "__name__" := by decide)(hdb:(x == ("__debug__" : Str))=false:=by decide)
  (h1:NL [e] X.env=(false,O4 e X.env)::NL [] X.env:=by rfl) (h2:(OB pos (NL [] X.env)).any (·.1)=false:=by rfl):LE X (.Call (.Name x p) [e] [] pos) (au fk At):=by
 obtain ⟨ta,pa,sa⟩:=ha.ex
 exact ⟨_,jC (qR sZ hg hm hv pa hn hdb h1 h2),λσ H ρ μ Q Q' rl h k=>sa σ H ρ μ _ _ rl h λxs H1 ds μ1 t1 m1 p1 h1=>zU H1 μ1 xs ds Q Q' m1 p1 h1 (k.go t1)⟩
def g5:D->Bool
 | .non=>true
 | .bl _=>true
 | .int _=>true
 | .str _=>true
 | _=>false
def inD (x:D)(xs:List D):Bool:=xs.any λy=>eqD y x
def rIn (neg:Bool):DR2:=λx y μ Q=>match y with
 | .tup xs=>(g5 x=true/\xs.all g5=true)/\Q (.bl (if neg then !inD x xs else inD x xs)) μ
 | .ls xs=>(g5 x=true/\xs.all g5=true)/\Q (.bl (if neg then !inD x xs else inD x xs)) μ
 | .obj a=>kL μ a λxs=>(g5 x=true/\xs.all g5=true)/\Q (.bl (if neg then !inD x xs else inD x xs)) μ
 | _=>False
end
end
section
open PySem PySem.Spec PyProof.Rows L2
section
variable {X:Cx} {a b e:N1} {Ta Tb T:ETr} {pos:Pos}
def K6 (t:TE):TE:=λσ H Q=>t σ H λv H1=>Q v H1∨Js Q v H1
theorem zf {t:TE}(h:PE X e t):PE X e (K6 t):=by
 have g:PE X e (λσ H Q=>∃ P:VK,B0 t σ H P/\∀ v H',P v H'->Q v H'):=λpins s σ H Q I ⟨P,hP,k⟩=>
  thn (jC h pins s σ H P I hP) λu s1 ⟨v,H1,I1,r,q⟩=>⟨v,H1,I1,r,k _ _ q⟩
 intro pins s σ H Q I hh
 refine thn (h pins s σ H _ I hh) λu s1 ⟨v,H1,I1,r,q⟩=>?_
 rcases q with q | ⟨c,xs,rfl,ec,q⟩
 ·exact ⟨v,H1,I1,r,q⟩
 ·have hz:=I1.hok c _ ec
  obtain ⟨z,its,n,rv,hg⟩:=hz
  have nl:∀ d o,H1 d=some o->(∀ ys,o≠.lst ys)->d≠c:=λd o e1 e2 w=>by subst w;rw[ec] at e1;cases e1;exact e2 _ rfl
  refine ⟨.ref c,_,I1.un (h':=s1.heap) (t':=s1.toks) (H':=L2.upd H1 c (.frz { cls:=.type "list", data:=.seq its.toArray n } (.lst xs))) ⟨λd o e _ _ _=>e,λd o e _ _ _=>⟨o.slots,e⟩,λd o e w _=>?_,λd o e _=>⟨o,e⟩,λd ys e=>?_,λd o u e=>?_,λd ps e=>⟨#[],?_⟩⟩ (λd u e=>?_),r,q _⟩
  ·rw[aT (λz=>by subst z;rw[ec] at w;cases w)];exact w
  ·rw[aT (nl d _ e (λ_=>nofun))];exact e
  ·rw[aT (nl d _ e (λ_=>nofun))];exact e
  ·rw[aT (nl d _ e (λ_=>nofun)),e];simp
  ·by_cases hd:d=c
   ·subst hd
    rw[aQ] at e;cases e
    exact ⟨hg,z,its,n,rv,hg⟩
   ·rw[aT hd] at e
    refine (I1.hok d u e).rT (λk w _ q=>q) (λk q=>?_) λk ys q=>?_
    ·rw[aT (nl k _ q (λ_=>nofun))];exact q
    ·rw[aT (nl k _ q (λ_=>nofun))];exact q
def GZ (K:NB):R2:=λx y H Q=>∃ p q ys,x=.ref p/\y=.ref q/\SqT K H p []/\SqT K H q ys/\Q (.ref q) H
theorem Fi:OpR X (Pt .Add) (GZ X.K):=λpins s σ H x y v u Q I rx ry ⟨p,q,ys,e1,e2,hp,hq,h⟩=>by
 subst e1 e2
 cases rx
 cases ry
 obtain ⟨its,r1,p1,_⟩:=I.tuple hp
 obtain ⟨its2,r2,p2,_⟩:=I.tuple hq
 cases r1
 obtain ⟨⟨c1,d1,t1,l1⟩,ho,hc,n,hd⟩:=id p1
 obtain ⟨⟨c2,d2,t2,l2⟩,ho2,hc2,n2,hd2⟩:=id p2
 simp only at hc hd hc2 hd2
 subst hc hd hc2 hd2
 exact R0 ⟨_,ho,rfl⟩ ⟨_,ho2,rfl⟩ RI SX Qx Ql (Qe _ _)
  (tuple_addW0 p q #[] its2.toArray n n2 d1 d2 l1 l2 rfl) ⟨ho,ho2,⟨.ref q,H,I,rfl,h⟩⟩
def Hl (K:NB):R2:=λx y H Q=>∃ p q xs ys,x=.ref p/\y=.ref q/\SqL K H p xs/\SqL K H q ys/\xs.length+ys.length<=sizeLine/\∀ z,H z=none->Q (.ref z) (L2.upd H z (.lst (xs++ys)))
theorem EM:OpR X (Pt .Add) (Hl X.K):=λpins s σ H x y v u Q I rx ry ⟨p,q,xs,ys,e1,e2,hp,hq,hz,h⟩=>by
 subst e1 e2
 cases rx
 cases ry
 obtain ⟨its,r1,p1,_⟩:=I.list hp
 obtain ⟨its2,r2,p2,_⟩:=I.list hq
 obtain ⟨⟨c1,d1,t1,l1⟩,n,ho,hc,hx,hd⟩:=id p1
 obtain ⟨⟨c2,d2,t2,l2⟩,n2,ho2,hc2,hx2,hd2⟩:=id p2
 simp only at hc hd hc2 hd2
 subst hc hd hc2 hd2
 have z1:=r1.length
 have z2:=r2.length
 refine R0 ⟨_,ho,rfl⟩ ⟨_,ho2,rfl⟩ PySem.noFill_list_add PySem.seq_list_add PySem.F.slot_list_add PySem.F.entry_list_add (PySem.F.args_list_add_2 _ _)
  (list_addW p q its.toArray its2.toArray n n2 d1 d2 l1 l2 (by rw[NS,NS];omega)) ⟨ho,ho2,?_⟩
 have ea:its.toArray++its2.toArray=(its++its2).toArray:=by simp
 rw[ea]
 exact ⟨.ref _,_,I.MP (t':=s.toks) (r1.append r2) (by rw[NW];omega),rfl,h _ I.fresh⟩
def aM:DR2:=λx y μ Q=>match x,y with
 | .int i,.int j=>Q (.int (i+j)) μ
 | .str i,.str j=>i.length+j.length<=1000000/\Q (.str (i++j)) μ
 | .tup a,.tup b=>a.length+b.length<=1000000/\Q (.tup (a++b)) μ
 | .ls a,.ls b=>a.length+b.length<=1000000/\Q (.ls (a++b)) μ
 | _,_=>False
def rPl (K:NB):R2:=λx y H Q=>(rI0 λi j=>.int (i+j)) x y H Q∨(∃ i j,x=.str i/\y=.str j/\i.length+j.length<=sizeLine/\Q (.str (i++j)) H)∨G6 K x y H Q∨GZ K x y H Q∨Hl K x y H Q
theorem Fb:OpR X (Pt .Add) (rPl X.K):=λpins s σ H x y v u Q I rx ry h=>by
 rcases h with h | h | h | h | h
 ·exact Jw pins s σ H x y v u Q I rx ry h
 ·exact wL pins s σ H x y v u Q I rx ry h
 ·exact F5 pins s σ H x y v u Q I rx ry h
 ·exact Fi pins s σ H x y v u Q I rx ry h
 ·exact EM pins s σ H x y v u Q I rx ry h
theorem aG (ha:LE X a Ta)(hb:LE X b Tb):LE X (.BinOp a .Add b pos) (aq aM Ta Tb):=by
 obtain ⟨ta,pa,sa⟩:=ha.ex
 obtain ⟨tb,pb,sb⟩:=hb.ex
 refine ⟨_,zf (GN Fb pa pb),λσ H ρ μ Q Q' rl h k=>sa σ H ρ μ _ _ rl h λx H1 dx μ1 t1 m1 p1 h1=>sb σ H1 ρ μ1 _ _ (rl.go t1 m1) h1 λy H2 dy μ2 t2 m2 p2 h2=>?_⟩
 have p1:=p1.mono t2
 have k:=k.go (t1.trans t2)
 cases p1 with
 | int i=>
  cases p2 with
  | int j=>exact .inl ⟨i,j,rfl,rfl,.inl (k _ H2 _ μ2 (.refl H2) m2 (.int _) h2)⟩
  | _=>exact NG h2
 | str i=>
  cases p2 with
  | str j=>exact .inr (.inl ⟨i,j,rfl,rfl,big h2.1,.inl (k _ H2 _ μ2 (.refl H2) m2 (.str _) h2.2)⟩)
  | _=>exact NG h2
 | @tup q xs ds sq l=>
  cases p2 with
  | @tup q' ys es sq' l'=>
   obtain ⟨hz,h3⟩:=h2
   by_cases hx:xs=[]
   ·subst hx
    cases l
    exact .inr (.inr (.inr (.inl ⟨q,q',ys,rfl,rfl,sq,sq',.inl (k _ H2 _ μ2 (.refl H2) m2 (.tup sq' l') h3)⟩)))
   ·refine .inr (.inr (.inl ⟨q,q',xs,ys,rfl,rfl,sq,sq',hx,by rw[l.length,l'.length];exact big hz,λhy=>?_,λ_ z hzn=>.inl ?_⟩))
    ·subst hy
     cases l'
     rw[OI] at h3
     exact .inl (k _ H2 _ μ2 (.refl H2) m2 (.tup sq l) h3)
    ·exact k _ _ _ μ2 (.new hzn) (eI m2 hzn) (.tup (SqT.of aQ) ((l.append l').mono (.new hzn))) h3
  | _=>exact NG h2
 | @ls q xs ds sq l=>
  cases p2 with
  | @ls q' ys es sq' l'=>exact .inr (.inr (.inr (.inr ⟨q,q',xs,ys,rfl,rfl,sq.sq,sq'.sq,by rw[l.length,l'.length];exact big h2.1,λz hz=>.inr (gE m2 (l.append l') h2.2 k hz)⟩)))
  | _=>exact NG h2
 | _=>cases p2<;>exact NG h2
abbrev OTr:=ST->Mu->(Option Int->Mu->Prop)->Prop
def ONo:OTr:=λ_ μ Q=>Q none μ
def jd (T:ETr):OTr:=λρ μ Q=>T ρ μ λx μ1=>kI x λi=>Q (some i) μ1
def Nv (K:NB)(t:TO)(T:OTr):Prop:=∀ σ H ρ μ (Q:Option Int->Mu->Prop) (Q':Option Int->Hp->Prop),Rl K σ H ρ μ->T ρ μ Q->(∀ i H' μ',Tk H H'->bV K H' μ'->Q i μ'->Q' i H')->t σ H Q'
structure LO (X:Cx) (o:Option N1) (T:OTr):Prop where
 ex:∃ t,PO X o t/\Nv X.K t T
theorem iG:LO X none ONo:=⟨_,Gg,λσ H ρ μ Q Q' rl h k=>k none H μ (.refl H) rl.mu h⟩
theorem fe (h:LE X e T):LO X (some e) (jd T):=by
 obtain ⟨t,p,s⟩:=h.ex
 refine ⟨_,El p,λσ H ρ μ Q Q' rl h k=>s σ H ρ μ _ _ rl h λv H1 d μ1 t1 m1 p1 h1=>?_⟩
 cases p1 with
 | int i=>exact ⟨i,rfl,k _ H1 μ1 t1 m1 h1⟩
 | _=>exact NG h1
def cutD {α:Type}(xs:List α)(lo hi:Option Int):List α:=(xs.drop (HT.sIx xs.length 0 lo)).take (HT.sIx xs.length xs.length hi - HT.sIx xs.length 0 lo)
theorem oS {α:Type}(xs:List α)(lo hi:Option Int):(cutD xs lo hi).length<=xs.length:=by
 unfold cutD;rw[QH,QI];omega
theorem xB {α:Type}{xs:List α}{lo hi:Option Int}(h:HT.sIx xs.length 0 lo=0/\HT.sIx xs.length xs.length hi=xs.length):cutD xs lo hi=xs:=by
 unfold cutD;rw[h.1,h.2];simp
theorem DpL.take {K:NB}{H:Hp}:∀ {vs:List V} {ds:List D} (n:Nat),DpL K H vs ds->DpL K H (vs.take n) (ds.take n)
 | _,_,0,_=>.nil
 | _,_,_+1,.nil=>.nil
 | _,_,n+1,.cons h l=>.cons h (DpL.take n l)
theorem DpL.drop {K:NB}{H:Hp}:∀ {vs:List V} {ds:List D} (n:Nat),DpL K H vs ds->DpL K H (vs.drop n) (ds.drop n)
 | _,_,0,l=>l
 | _,_,_+1,.nil=>.nil
 | _,_,n+1,.cons _ l=>DpL.drop n l
theorem DpL.cut {K:NB}{H:Hp}{vs:List V}{ds:List D}(lo hi:Option Int)(l:DpL K H vs ds):DpL K H (vo vs lo hi) (cutD ds lo hi):=by
 unfold vo cutD;rw[l.length];exact (l.drop _).take _
theorem vX {prog:NR}{w:N6}{A:N7}{E:NC->ND->Prop}{s:ND}{t sl:Addr}{items:Array NC}{vl vu:NC}{lo hi:Option Int}{Q:NC->ND->Prop}(ht:IsTup s.heap t items)(hs:s.heap.IsSliceOf sl vl vu .none)(pl:IsPart vl lo)(pu:IsPart vu hi)
  (hw:HT.sIx items.size 0 lo=0/\HT.sIx items.size items.size hi=items.size) (h:Q (.ref t) s):NU (N3 prog w) A (SM (.ref t) (.ref sl)) Q E s:=by
 obtain ⟨os,hos,hcs,hds⟩:=id hs
 have hTs:s.TypeIs (.ref sl) "slice" := ⟨os,hos,hcs⟩
 unfold SM
 try with_reducible refine wpAny_holding ?_
 first | refine wpAny_bind (wpAny_pure ?_) | skip
 refine wpAny_bind (TJ ht.typeIs (by decide) ?_)
 refine wpAny_bind (OH (name:=NA "__getitem__") ht.typeIs Ol (OK Ol ht.typeIs SQ ?_ (Tq _ _)))
 show NU _ _ (Rf (.ref t) >>= _) _ _ s
 refine wpAny_bind (tupleItemsOf_ ht ?_)
 refine wpAny_bind <| wpAny_typeOf hTs ?_
 rw[if_pos (by decide)]
 refine wpAny_bind (HT.fV hs pl pu ?_)
 rw[hw.1,hw.2]
 refine (show NU _ _ (if (((0:Nat):Int) == 0&&(1:Int) == 1&&(items.size - 0) == items.size)=true then _ else _) _ _ s from ?_)
 rw[if_pos (by simp)]
 unfold US
 refine wpAny_bind (wpAny_bind (wpAny_typeOf ht.typeIs (wpAny_pure ?_)))
 rw[if_pos (by decide)]
 first
  | exact wpAny_bind (wpAny_rule (wpAny_bind (wpAny_pure (wpAny_pure ⟨_,rfl,wpAny_pure h⟩))))
  | exact wpAny_bind (wpAny_rule (wpAny_pure ⟨_,rfl,wpAny_pure h⟩))
  | exact wpAny_bind (wpAny_bind (wpAny_rule (wpAny_pure (wpAny_pure ⟨_,rfl,wpAny_pure h⟩))))
def Ng (K:NB):V->Option Int->Option Int->Hp->VK->Prop:=λx lo hi H Q=>∃ a xs,x=.ref a/\SqT K H a xs/\(HT.sIx xs.length 0 lo=0/\HT.sIx xs.length xs.length hi=xs.length)/\Q (.ref a) H
theorem CT:SlR X (Ng X.K):=λpins s σ H x v vl vu lo hi sl Q I rx hs pl pu ⟨q,xs,e,hx,hw,h⟩=>by
 subst e
 cases rx
 obtain ⟨its,r,ht,_⟩:=I.tuple hx
 have hlen:its.toArray.size=xs.length:=by rw[NS];exact r.length.symm
 exact ⟨"tuple", _,Ol.lookup,ht.typeIs,vX ht hs pl pu (by rw[hlen];exact hw) ⟨.ref q,H,I,rfl,h⟩⟩
def rSl:D->Option Int->Option Int->Mu->DK->Prop:=λx lo hi μ Q=>match x with
 | .tup xs=>Q (.tup (cutD xs lo hi)) μ
 | .ls xs=>Q (.ls (cutD xs lo hi)) μ
 | .obj a=>kL μ a λxs=>Q (.ls (cutD xs lo hi)) μ
 | _=>False
def TSl (a:ETr)(lo hi:OTr):ETr:=λρ μ Q=>a ρ μ λx μ1=>lo ρ μ1 λl μ2=>hi ρ μ2 λh μ3=>rSl x l h μ3 Q
theorem il {lo hi:Option N1}{Tl Th:OTr}{p2:Pos}(ha:LE X a Ta)(hl:LO X lo Tl)(hh:LO X hi Th):LE X (.Subscript a (.Slice lo hi none p2) pos) (TSl Ta Tl Th):=by
 obtain ⟨ta,pa,sa⟩:=ha.ex
 obtain ⟨tl,pl,sl⟩:=hl.ex
 obtain ⟨th,ph,sh⟩:=hh.ex
 refine ⟨_,zf (Ck (SlR.or CT (SlR.or ID Eo)) pa pl ph),λσ H ρ μ Q Q' rl h k=>sa σ H ρ μ _ _ rl h λx H1 dx μ1 t1 m1 p1 h1=>sl σ H1 ρ μ1 _ _ (rl.go t1 m1) h1 λi H2 μ2 t2 m2 h2=>sh σ H2 ρ μ2 _ _ (rl.go (t1.trans t2) m2) h2 λj H3 μ3 t3 m3 h3=>?_⟩
 have p1:=p1.mono (t2.trans t3)
 have k:=k.go (t1.trans (t2.trans t3))
 cases p1 with
 | @tup q xs ds sq l=>
  by_cases hw:HT.sIx xs.length 0 i=0/\HT.sIx xs.length xs.length j=xs.length
  ·refine .inl ⟨q,xs,rfl,sq,hw,.inl (k _ H3 _ μ3 (.refl H3) m3 (.tup sq l) ?_)⟩
   rw[l.length] at hw
   have h3:Q (.tup (cutD ds i j)) μ3:=h3
   rw[xB hw] at h3;exact h3
  ·exact .inr (.inl ⟨q,xs,rfl,sq,hw,λz hz=>.inl (k _ _ _ μ3 (.new hz) (eI m3 hz) (.tup (SqT.of aQ) ((l.cut i j).mono (.new hz))) h3)⟩)
 | @ls q xs ds sq l=>exact .inr (.inr ⟨q,xs,rfl,sq.sq,λz hz=>.inr (gE m3 (l.cut i j) h3 k hz)⟩)
 | obj q=>
  obtain ⟨ds,e0,h4⟩:=cO h3
  obtain ⟨xs,ex,l⟩:=m3 q _ e0
  exact .inr (.inr ⟨q,xs,rfl,SqL.of ex,λz hz=>.inr (gE m3 (l.cut i j) h4 k hz)⟩)
 | _=>exact NG h3
theorem AG {α:Type}(xs:List α)(k:Nat):cutD xs (some (k:Int)) none=xs.drop k:=by
 unfold cutD
 rw[HT.BP,HT.Gu]
 rcases Nat.le_total k xs.length with h | h
 ·rw[Nat.min_eq_left h,List.take_of_length_le (by rw[QI];omega)]
 ·rw[Nat.min_eq_right h,QJ,List.drop_of_length_le h];simp
end
end
section
open PySem PySem.Spec PyProof.Rows L2
end
section
open PySem PySem.Spec PyProof.Rows L2
theorem _root_.L2.Inv.frz {X:Cx}{pins:List (Addr×Obj)}{σ:L2.St}{H:Hp}{s:ND}{c:Addr}{xs:List V}(I1:Inv X pins σ H s)(ec:H c=some (.lst xs)):∃ o,Inv X pins σ (L2.upd H c (.frz o (.lst xs))) s:=by
 obtain ⟨z,its,n,rv,hg⟩:=I1.hok c _ ec
 have nl:∀ d o,H d=some o->(∀ ys,o≠.lst ys)->d≠c:=λd o e1 e2 w=>by subst w;rw[ec] at e1;cases e1;exact e2 _ rfl
 refine ⟨_,I1.un (h':=s.heap) (t':=s.toks) (H':=L2.upd H c (.frz { cls:=.type "list", data:=.seq its.toArray n } (.lst xs))) ⟨λd o e _ _ _=>e,λd o e _ _ _=>⟨o.slots,e⟩,λd o e w _=>?_,λd o e _=>⟨o,e⟩,λd ys e=>?_,λd o u e=>?_,λd ps e=>⟨#[],?_⟩⟩ (λd u e=>?_)⟩
 ·rw[aT (λz=>by subst z;rw[ec] at w;cases w)];exact w
 ·rw[aT (nl d _ e (λ_=>nofun))];exact e
 ·rw[aT (nl d _ e (λ_=>nofun))];exact e
 ·rw[aT (nl d _ e (λ_=>nofun)),e];simp
 ·by_cases hd:d=c
  ·subst hd
   rw[aQ] at e;cases e
   exact ⟨hg,z,its,n,rv,hg⟩
  ·rw[aT hd] at e
   refine (I1.hok d u e).rT (λk w _ q=>q) (λk q=>?_) λk ys q=>?_
   ·rw[aT (nl k _ q (λ_=>nofun))];exact q
   ·rw[aT (nl k _ q (λ_=>nofun))];exact q
theorem Gh {X:Cx}{tg iter elt:N1}{ifs:List N1}{scope:Scope}{pos spos py:Pos}{y:Str}{iy:Nat}{wi:TI}{g:TG}{tt:TT}{te:TE}{Nc:List Str}{n:Nat}{caps:List Nat}
  (hxe:X.xe=λ_ _=>False) (hcalm:X.calm=true) (hi:PI X tg iter wi)
  (hbody:∀ (cl:List (Str×Addr)) (C:Addr) (s₀:ND) (H₀:Hp) (ex:List Addr),PG (bH X scope Nc cl C s₀ H₀ ex) tg g/\yi (bH X scope Nc cl C s₀ H₀ ex) ifs tt/\PE (bH X scope Nc cl C s₀ H₀ ex) elt te)
  (hfree:∀ y∈scope.names,y.2=.free->X.env.kindOf y.1=some .cell) (hcell:∀ y∈scope.names,y.2≠.cell) (gi:scope.kind=.function)
  (hnames:∀ y∈scope.names,y.2=.local->scope.names.lookup y.1=some .local) (hlen:Nc.length=n+caps.length)
  (hcap:∀ (j k:Nat),caps[j]? = some k->∃ x,Nc[n+j]? = some x/\X.N[k]? = some x/\scope.names.lookup x=some .free)
  (pgy:PG X (.Name y py) (oa iy))
  (hsw:Q7 (.ListComp elt [⟨tg,iter,ifs,0⟩] scope pos) (some (.Name y py)) spos.line X.env=pure true)
  (hs:∀ x,OQ iter X.env x=pure x:=by intro _;rfl) :
  PS X (.Assign [.Name y py] (.ListComp elt [⟨tg,iter,ifs,0⟩] scope pos) spos) (Et (B0 (nB wi g tt te n caps)) (oa iy)):=
 CN (Z:=B0) hxe hcalm hi hbody hfree hcell gi hnames hlen hcap pgy hsw (λσ H Q h=>⟨_,h,λpins D H5 s5 I5 ⟨a,xs,ea,eH,q⟩=>by
  cases ea
  obtain ⟨o,I6⟩:=I5.frz eH
  exact ⟨_,λb hb=>by rw[aT (λz=>by rw[z,eH] at hb;cases hb)];exact hb,I6,q o⟩⟩) hs
theorem DF {K:NB}{wi:TI}{It':ATr}{G:GTr}{Tt:TTr}{Te:ETr}{n:Nat}{caps:List Nat}(si:KR K wi It'):Sim K (B0 (nB wi (yR K n G) (liftT K Tt) (yX K Te) n caps)) (cu It' G Tt Te n caps):=by
 intro σ H ρ μ Q Q' rl h k
 refine si σ H ρ μ _ _ rl h λJ H1 ds μ1 t1 m1 Y h1 D hD=>?_
 have hp:=h1 D (m1.free hD)
 have tD:Tk H1 (L2.upd H1 D (.lst [])):=.new hD
 have mD:bV K (L2.upd H1 D (.lst [])) (up μ1 D (.lst [])):=λa o e=>by
  by_cases ha:a=D
  ·subst ha
   rw[aX] at e;cases e
   exact ⟨[],aQ,.nil⟩
  ·rw[cJ ha] at e
   exact eI m1 hD a o e
 refine ⟨λi m ys H2=>m=ds.length - i/\i<=ds.length/\Tk H1 H2/\∃ μ2,bV K H2 μ2/\ik D G Tt Te (jY ρ n caps) (λμ'=>kL μ' D λzs=>Q (.ls zs) (dn μ' D)) (ds.drop i) μ2,
  ⟨ds.length,by simp,Pb _,tD,_,mD,by simpa using hp⟩,?_⟩
 rintro i m ys H2 ⟨rfl,hi,t12,μ2,m2,h2⟩
 by_cases hlt:i < ds.length
 ·refine .inr ⟨Y.go i H2 t12 hlt,λys' H'=>Tk H1 H'/\∃ μ',bV K H' μ'/\ik D G Tt Te (jY ρ n caps) (λμ'=>kL μ' D λzs=>Q (.ls zs) (dn μ' D)) (ds.drop (i+1)) μ',λys' H' ⟨t',μ',m',h'⟩=>⟨ds.length - (i+1),by omega,rfl,hlt,t',μ',m',h'⟩,λx H3 y=>?_⟩
  obtain ⟨t23,⟨d,ed,pd⟩,mk⟩:=Y.yld i H2 x H3 t12 hlt y
  have e:ds.drop i=d::ds.drop (i+1):=by
   refine (P9 hlt).trans ?_
   congr 1
   rw[Oc hlt] at ed
   exact Oq ed
  rw[e] at h2
  have t13:=t12.trans t23
  have r3:Rl K (j9 σ n caps) H3 (jY ρ n caps) μ2:=y4 (rl.go (t1.trans t13) (mk _ m2)) n caps
  refine ⟨_,_,d,_,r3,pd,h2,λσ4 H4 ρ4 μ4 t4 r4 kp h4=>⟨⟨kp.1.symm,λj v ej=>?_⟩,_,_,_,r4,h4,λb H5 μ5 t5 m5 h5=>?_⟩⟩
  ·by_cases hj:n<=j
   ·rw[kp.2 j hj];exact ej
   ·obtain ⟨j',k',e1,_⟩:=ow ej
    omega
  ·have t15:=t13.trans (t4.trans t5)
   cases b with
   | false=>exact sf ⟨t15,μ5,m5,h5⟩
   | true=>
    refine tf ⟨_,_,_,r4.go t5 m5,h5,λv H6 d6 μ6 t6 m6 p6 h6=>?_⟩
    obtain ⟨zs,ez,lz,h7⟩:=cO h6
    obtain ⟨xs,ex,lx⟩:=m6 D _ ez
    have t67:Tk H6 (L2.upd H6 D (.lst (xs++[v]))):=.upd (λys z=>by rw[ex] at z;cases z) λo' u z=>by rw[ex] at z;cases z
    refine ⟨xs,ex,by rw[lx.length];exact N4 lz (by decide),(t15.trans t6).trans t67,up μ6 D (.lst (zs++[d6])),λa o ea=>?_,h7⟩
    by_cases ha:a=D
    ·subst ha
     rw[aX] at ea;cases ea
     exact ⟨_,aQ,(lx.append (.cons p6 .nil)).mono t67⟩
    ·rw[cJ ha] at ea
     exact (m6 a _ ea).ne t67 ha
 ·have e:i=ds.length:=by omega
  subst e
  rw[QJ] at h2
  obtain ⟨zs,ez,hq⟩:=cO (show kL μ2 D λzs=>Q (.ls zs) (dn μ2 D) from h2)
  obtain ⟨xs,ex,lx⟩:=m2 D _ ez
  refine .inl ⟨Y.stop _ H2 t12 (NV _),D,xs,rfl,ex,λo=>?_⟩
  have t2f:Tk H2 (L2.upd H2 D (.frz o (.lst xs))):=.upd (λys z=>by rw[ex] at z;cases z) λo' u z=>by rw[ex] at z;cases z
  refine k _ _ _ (dn μ2 D) ((t1.trans t12).trans t2f) (λa o' ea=>?_) (.ls (.inl ⟨o,aQ⟩) (lx.mono t2f)) hq
  have ha:a≠D:=λz=>by subst z;unfold dn at ea;rw[if_pos rfl] at ea;cases ea
  have ea':μ2 a=some o':=by unfold dn at ea;rw[if_neg ha] at ea;exact ea
  exact (m2 a _ ea').ne t2f ha
theorem mR {X:Cx}{tg elt iter:N1}{Te:ETr}{Tt:TTr}{pos spos py:Pos}{y:Str}{It':ATr}{G:GTr}{ifs:List N1}{scope fsc:Scope}(iy:Nat)(hN:X.N.Nodup)(XN Nc:List Str)(n:Nat)(caps:List Nat)(hxe:X.xe=λ_ _=>False)(hcalm:X.calm=true)(hi:LI X tg iter It')
  (hbody:∀ (cl:List (Str×Addr)) (C:Addr) (s₀:ND) (H₀:Hp) (ex:List Addr),LGc (bH X scope Nc cl C s₀ H₀ ex) n tg G/\BS (bH X scope Nc cl C s₀ H₀ ex) ifs Tt/\LE (bH X scope Nc cl C s₀ H₀ ex) elt Te)
  (hsc:X.env.scope=fsc) (hXN:X.N=XN) (hok:sx fsc.names XN scope Nc n caps=true)
  (hiy:X.N[iy]? = some y:=by rfl) (hx:Loc X.env.scope y:=by first | exact Sx rfl | exact RB rfl) (hf:X.fn y=true∨X.env.scope.names.lookup y=some .local:=by first | exact .inl rfl | exact .inr rfl | assumption)
  (hsw:Q7 (.ListComp elt [⟨tg,iter,ifs,0⟩] scope pos) (some (.Name y py)) spos.line X.env=pure true:=by rfl)
  (hs:∀ x,OQ iter X.env x=pure x:=by intro _;rfl) :
  LS X (.Assign [.Name y py] (.ListComp elt [⟨tg,iter,ifs,0⟩] scope pos) spos) (aU (cu It' G Tt Te n caps) (az iy)):=by
 unfold sx at hok
 simp only[NO,Ot] at hok
 obtain ⟨⟨⟨h1,h2⟩,h3⟩,h4⟩:=hok
 obtain ⟨wi,pi,si⟩:=hi.ex
 refine ⟨_,Gh (g:=yR X.K n G) (tt:=liftT X.K Tt) (te:=yX X.K Te) hxe hcalm pi (λcl C s₀ H₀ ex=>let ⟨h1,h2,h3⟩:=hbody cl C s₀ H₀ ex;⟨h1.pe,h2.pe,h3.pe⟩) (λy hy hf=>?_) (λy hy hf=>?_) (by simpa using h2) (λy hy hf=>?_) (by simpa using h3) (λj k hj=>?_) (mG hN hiy hx hf) hsw hs,λσ H ρ μ E E' rl h k=>DF si σ H ρ μ _ _ rl h λv H' d μ' t' m' p' h'=>kX iy σ H' ρ μ' v d _ _ (rl.go t' m') p' h' (k.go t').nx⟩
 ·have:=(h1 y hy).1.1
  show X.env.scope.names.lookup y.1=_
  rw[hsc]
  simpa[hf] using this
 ·have:=(h1 y hy).1.2
  simp[hf] at this
 ·have:=(h1 y hy).2
  simpa[hf] using this
 ·have hl:j < caps.length:=(Oz.mp hj).1
  have:=h4 j (PB.mpr hl)
  rw[hj] at this
  dsimp only at this
  rw[hXN]
  cases e:XN[k]? with
  | none=>rw[e] at this;cases this
  | some x=>
   rw[e] at this
   dsimp only at this
   rw[NO] at this
   exact ⟨x,by simpa using this.1,rfl,by simpa using this.2⟩
end
section
open PySem PySem.Spec PyProof.Rows L2
section
variable {X:Cx} {ea:N1} {es:List N1} {ek:Nat} {ep p pos:Pos}
def GL (ds:List D):List D:=(OR ds.length).zipWith (λi d=>.tup [.int (i:Nat),d]) ds
def KD (t:ATr):ATr:=λρ μ Q=>t ρ μ λvs μ1=>match vs with
 | [.ls ds]=>Q (GL ds) μ1
 | _=>False
variable {eb:N1} {tg:N1} {Ta Tb:ETr}
end
end
section
open PySem PySem.Spec PyProof PyProof.Rows L2
section
variable {X:Cx} {a b:N1} {Ta Tb:ETr} {pos:Pos}
end
end
theorem tL (i j:Int)(μ Q):aM (.int i) (.int j) μ Q=Q (.int (i+j)) μ:=rfl
theorem sv (i j:Str)(μ Q):aM (.str i) (.str j) μ Q=(i.length+j.length<=1000000/\Q (.str (i++j)) μ):=rfl
theorem tO (a b:List D)(μ Q):aM (.tup a) (.tup b) μ Q=(a.length+b.length<=1000000/\Q (.tup (a++b)) μ):=rfl
theorem sN (a b:List D)(μ Q):aM (.ls a) (.ls b) μ Q=(a.length+b.length<=1000000/\Q (.ls (a++b)) μ):=rfl
theorem nK (a:List D)(μ Q):cI [.tup a] μ Q=Q (.tup a) μ:=rfl
theorem ou (a:List D)(μ Q):cI [.ls a] μ Q=Q (.tup a) μ:=rfl
theorem nc (a:Addr)(μ Q):cI [.obj a] μ Q=kL μ a λxs=>Q (.tup xs) μ:=rfl
theorem oG (a:List D)(μ Q):fk [.tup a] μ Q=Q (.ls a) μ:=rfl
theorem nu (a:List D)(μ Q):fk [.ls a] μ Q=Q (.ls a) μ:=rfl
theorem mO (a:Addr)(μ Q):fk [.obj a] μ Q=kL μ a λxs=>Q (.ls xs) μ:=rfl
theorem nv (a:List D)(μ Q):xV [.tup a] μ Q = ∀ p,μ p=none->Q (.obj p) (up μ p (.lst a)):=rfl
theorem oE (a:List D)(μ Q):xV [.ls a] μ Q = ∀ p,μ p=none->Q (.obj p) (up μ p (.lst a)):=rfl
theorem nU (a:Addr)(μ Q):xV [.obj a] μ Q=kL μ a λxs=>∀ p,μ p=none->Q (.obj p) (up μ p (.lst xs)):=rfl
theorem Dr (a:List D)(lo hi)(μ Q):rSl (.tup a) lo hi μ Q=Q (.tup (cutD a lo hi)) μ:=rfl
theorem BQ (a:List D)(lo hi)(μ Q):rSl (.ls a) lo hi μ Q=Q (.ls (cutD a lo hi)) μ:=rfl
theorem Ds (a:Addr)(lo hi)(μ Q):rSl (.obj a) lo hi μ Q=kL μ a λxs=>Q (.ls (cutD xs lo hi)) μ:=rfl
theorem A9 (n:Bool)(x:D)(a:List D)(μ Q):L3.rIn n x (.tup a) μ Q=((g5 x=true/\a.all g5=true)/\Q (.bl (if n then !inD x a else inD x a)) μ):=rfl
theorem Cg (n:Bool)(x:D)(a:List D)(μ Q):L3.rIn n x (.ls a) μ Q=((g5 x=true/\a.all g5=true)/\Q (.bl (if n then !inD x a else inD x a)) μ):=rfl
theorem Ce (n:Bool)(x:D)(a:Addr)(μ Q):L3.rIn n x (.obj a) μ Q=kL μ a λxs=>(g5 x=true/\xs.all g5=true)/\Q (.bl (if n then !inD x xs else inD x xs)) μ:=rfl
theorem wZ (a:Addr)(μ Q):e7 [.obj a] μ Q=kL μ a λxs=>Q (.int xs.length) μ:=rfl
theorem wN (x:Str)(μ Q):e7 [.str x] μ Q=(x.length<=1000000/\Q (.int x.length) μ):=rfl
theorem CD (μ Q):rIs .non .non μ Q=Q (.bl true) μ:=rfl
theorem Bm (i:Int)(μ Q):rIs (.int i) .non μ Q=Q (.bl false) μ:=rfl
theorem BM (i:List D)(μ Q):rIs (.tup i) .non μ Q=Q (.bl false) μ:=rfl
theorem mV (μ Q):xp .non .non μ Q=Q (.bl false) μ:=rfl
theorem nX (i:Int)(μ Q):xp (.int i) .non μ Q=Q (.bl true) μ:=rfl
theorem mX (i:List D)(μ Q):xp (.tup i) .non μ Q=Q (.bl true) μ:=rfl
theorem xH (c:String)(i:List D)(μ Q):zG c (.ls i) μ Q=Q (.bl (br "list" c)) μ:=rfl
theorem xK (c:String)(i:Str)(μ Q):zG c (.str i) μ Q=Q (.bl (br "str" c)) μ:=rfl
theorem ym (c:String)(μ Q):zG c .non μ Q=Q (.bl (br "NoneType" c)) μ:=rfl
theorem b6 (k:Nat)(ds:List D):atD ds (k:Int)=ds[k]?:=by
 unfold atD L2.atI L2.ixN
 rw[if_pos (Rh k)]
 by_cases h:k < ds.length
 ·rw[if_pos (by omega)];simp
 ·rw[if_neg (by omega)];simp;omega
theorem yN (ds:List D):atD ds 0=ds[0]?:=b6 0 ds
theorem yu (ds:List D):atD ds 1=ds[1]?:=b6 1 ds
theorem yS (ds:List D):atD ds 2=ds[2]?:=b6 2 ds
theorem yJ (ds:List D):atD ds 3=ds[3]?:=b6 3 ds
theorem yE (ds:List D):atD ds 4=ds[4]?:=b6 4 ds
theorem yU (ds:List D):atD ds 5=ds[5]?:=b6 5 ds
theorem rG (n k:Nat):L2.ixN n (k:Int)=if k < n then some k else none:=by
 unfold L2.ixN
 rw[if_pos (Rh k)]
 by_cases h:k < n
 ·rw[if_pos (by omega),if_pos h];simp
 ·rw[if_neg (by omega),if_neg h]
theorem yD (n:Nat):L2.ixN n 0=if 0 < n then some 0 else none:=rG n 0
theorem zp (n:Nat):L2.ixN n 1=if 1 < n then some 1 else none:=rG n 1
theorem yM (n:Nat):L2.ixN n 2=if 2 < n then some 2 else none:=rG n 2
theorem iU:br "int" "int" = true:=by decide
theorem iS:br "int" "bool" = false:=by decide
theorem iO:br "bool" "bool" = true:=by decide
theorem iP:br "bool" "int" = true:=by decide
theorem iT:br "tuple" "tuple" = true:=by decide
theorem iW:br "int" "tuple" = false:=by decide
theorem iX:br "bool" "tuple" = false:=by decide
theorem fm0 {a n:Int}(h:0 < n):0<=a.fmod n:=Int.fmod_nonneg_of_pos a h
theorem fm1 {a n:Int}(h:0 < n):a.fmod n < n:=Int.fmod_lt_of_pos a h
theorem DN (A B:Prop):kIf true A B=A:=rfl
theorem A8 (A B:Prop):kIf false A B=B:=rfl
theorem By (p:Prop) [Decidable p] (A B:Prop):kIf (decide p) A B=if p then A else B:=by by_cases h:p<;>simp[h,kIf]
theorem DL (c:Bool)(A B:Prop):kIf (!c) A B=kIf c B A:=by cases c<;>rfl
theorem DW (c:Bool)(f):kB (.bl c) f=f c:=rfl
theorem xy (c:Int)(f):kI (.int c) f=f c:=rfl
theorem sO (c:D)(f):kO (some c) f=f c:=rfl
theorem wj (c:List D)(f):kS (.tup c) f=f c:=rfl
theorem Dt (c:List D)(f):kS (.ls c) f=f c:=rfl
theorem wH (a b:D)(f):k2 [a,b] f=f a b:=rfl
theorem rJ (c:Nat)(f):kN (some c) f=f c:=rfl
theorem y3 (μ:Mu)(a:Addr)(ds:List D)(f):kL (up μ a (.lst ds)) a f=f ds:=by unfold kL;rw[aX]
theorem Hn {μ:Mu}{a:Addr}{ds:List D}(h:μ a=some (.lst ds))(f):kL μ a f=f ds:=by unfold kL;rw[h]
theorem oF (a:Addr)(n:Int)(y:D)(μ:Mu)(f):EY (.obj a) (.int n) y μ f=kL μ a λds=>kN (L2.ixN ds.length n) λj=>f (up μ a (.lst (ds.set j y))):=rfl
theorem yo (i j:Int)(μ Q):uF (.int i) (.int j) μ Q=Q (.int (i - j)) μ:=rfl
theorem wc (i j:Int)(μ Q):gB (.int i) (.int j) μ Q=(MulOk i j/\Q (.int (i*j)) μ):=rfl
theorem xr (i j:Int)(μ Q):jc (.int i) (.int j) μ Q=(iJ j/\Q (.int (i.fdiv j)) μ):=rfl
theorem xO (i j:Int)(μ Q):fR (.int i) (.int j) μ Q=(j≠0/\Q (.int (i.fmod j)) μ):=rfl
theorem yd (i j:Int)(μ Q):uc (.int i) (.int j) μ Q=(o8 i j/\Q (.int (i ^ j.toNat)) μ):=rfl
theorem xN (i:Int)(μ Q):AJ (.int i) μ Q=Q (.int (-i)) μ:=rfl
theorem Eg (i j:Int)(μ Q):rLt (.int i) (.int j) μ Q=Q (.bl (decide (i < j))) μ:=rfl
theorem C1 (i j:Int)(μ Q):rLe (.int i) (.int j) μ Q=Q (.bl (decide (i<=j))) μ:=rfl
theorem Cs (i j:Int)(μ Q):rGt (.int i) (.int j) μ Q=Q (.bl (decide (j < i))) μ:=rfl
theorem BH (i j:Int)(μ Q):rGe (.int i) (.int j) μ Q=Q (.bl (decide (j<=i))) μ:=rfl
theorem DX (x y:D)(μ Q):L3.rEq x y μ Q=((okD 40 x=true/\okD 40 y=true)/\Q (.bl (eqD x y)) μ):=rfl
theorem CF (x y:D)(μ Q):L3.rNe x y μ Q=((okD 40 x=true/\okD 40 y=true)/\Q (.bl (!eqD x y)) μ):=rfl
theorem kx (ds:List D)(i:Int)(μ Q):L3.rIx (.tup ds) (.int i) μ Q=kO (atD ds i) λd=>Q d μ:=rfl
theorem Dh (ds:List D)(i:Int)(μ Q):L3.rIx (.ls ds) (.int i) μ Q=kO (atD ds i) λd=>Q d μ:=rfl
theorem Dl (a:Addr)(i:Int)(μ Q):L3.rIx (.obj a) (.int i) μ Q=kL μ a λds=>kO (atD ds i) λd=>Q d μ:=rfl
theorem yj (c:String)(i:Int)(μ Q):zG c (.int i) μ Q=Q (.bl (br "int" c)) μ:=rfl
theorem yg (c:String)(i:Bool)(μ Q):zG c (.bl i) μ Q=Q (.bl (br "bool" c)) μ:=rfl
theorem wW (c:String)(i:List D)(μ Q):zG c (.tup i) μ Q=Q (.bl (br "tuple" c)) μ:=rfl
theorem xb (i:Int)(μ Q):sG [.int i] μ Q=Q (.int (if i < 0 then -i else i)) μ:=rfl
theorem xf (i j:Int)(μ Q):Lm [.int i,.int j] μ Q=Q (.int (if j > i then j else i)) μ:=rfl
theorem xX (i j:Int)(μ Q):Lz [.int i,.int j] μ Q=Q (.int (if j < i then j else i)) μ:=rfl
theorem xa (i:Int)(μ Q):Ay [.int i] μ Q=Q (.int i) μ:=rfl
theorem xu (i:Bool)(μ Q):Ay [.bl i] μ Q=Q (.int (if i then 1 else 0)) μ:=rfl
theorem wJ (i:List D)(μ Q):e7 [.tup i] μ Q=Q (.int i.length) μ:=rfl
theorem yf (i:List D)(μ Q):e7 [.ls i] μ Q=Q (.int i.length) μ:=rfl
local macro_rules | `(tactic| walk_at "rd")=>zzS "L3.ai L3.TC L3.aq L3.TUn L3.cZ L3.An L3.lr L3.TB L3.Jr L3.TOr L3.cg L3.Ar L3.fK L3.ar L3.af L3.aP L3.cF L3.xc L3.au L3.aY L3.aE L3.wC L3.Bt L3.lD L3.aR L3.DA L3.bI L3.az L3.aU L3.xx L3.ff L3.qa L3.cz L3.iC L3.DN L3.A8 L3.By L3.DL L3.DW L3.xy L3.sO L3.wj L3.Dt L3.wH L3.rJ L3.y3 L3.oF L3.tL L3.sv L3.tO L3.sN L3.ud L3.kK L3.AQ L3.nK L3.ou L3.nc L3.oG L3.nu L3.mO L3.nv L3.oE L3.nU L3.TSl L3.ONo L3.jd L3.Dr L3.BQ L3.Ds L3.A9 L3.Cg L3.Ce L3.wZ L3.wN L3.CD L3.Bm L3.BM L3.mV L3.nX L3.mX L3.xH L3.xK L3.ym L3.yo L3.wc L3.xr L3.xO L3.yd L3.xN L3.Eg L3.C1 L3.Cs L3.BH L3.DX L3.CF L3.kx L3.Dh L3.Dl L3.yj L3.yg L3.wW L3.xb L3.xf L3.xX L3.xa L3.xu L3.wJ L3.yf L3.lk L3.ini Vj PY N8 Uo Vk QK Qg TU S2 RE L3.yN L3.yu L3.yS L3.yJ L3.yE L3.yU L3.yD L3.zp L3.yM Qn Qo L3.aX R7 RM if_true if_false true_and and_true S3 Sy Sz RO QV Sf decide_eq_true_eq PL ite_false ite_true ne_eq not_false_eq_true Sg S4 S5 S6 S7 S8 TV L3.okD L3.bR L3.eqD L3.fY S9 RF N5 L3.iU L3.iS L3.iO L3.iP L3.iT L3.iW L3.iX"
local macro_rules | `(tactic| walk_at "ok")=>`(tactic| (simp only[L3.iJ,L3.MulOk,L3.S64,L3.bx,L3.o8] at *;omega))
def Box (μ:Mu)(b:Addr):Prop:=∃ g s c:Int,μ b=some (.lst [.int g,.int s,.int c])/\0<=s/\s < 2147483647
structure cE (b:Addr) (μ μ':Mu):Prop where
 box:Box μ' b
 oth:∀ a,a≠b->μ' a=μ a
theorem cE.trans {b:Addr}{μ μ1 μ2:Mu}(x:cE b μ μ1)(y:cE b μ1 μ2):cE b μ μ2:=⟨y.box,λa h=>(y.oth a h).trans (x.oth a h)⟩
theorem vF (x y:Int):Oj y (x.fmod y)=Oj x y:=by
 rw[Int.fmod_def,Int.gcd_sub_mul_left_right,Vd]
theorem Bg (a:Int):(if a < 0 then -a else a)=(a.natAbs:Int):=by
 split<;>omega
def mz (i:Nat):ST->Mu->Nat:=λρ _=>match lk ρ i with
 | some (.int z)=>z.toNat
 | _=>0
structure Fr (p q:Int):Prop where
 q0:0 < q
 q1:q < 100000000000
 p0:-100000000000 < p
 p1:p < 100000000000
 g:Oj p q=1
theorem fq {a b:Int}(h:0 < b):a.fdiv b=a / b:=Int.fdiv_eq_ediv_of_nonneg a (Int.le_of_lt h)
theorem Dm {ns:List Int}{k:Int}(h0:0<=k)(h1:k < (ns.length:Int)):∃ z,atD (ns.map D.int) k=some (.int z):=by
 rcases Ou h0 with ⟨j,rfl⟩
 rw[b6]
 have hj:j < ns.length:=by omega
 exact ⟨ns[j],by simp[hj]⟩
theorem cp {lo:Int}{n:Nat}{d:D}(h:d∈dm lo n):∃ k:Int,d=.int k/\lo<=k/\k < lo+n:=by
 unfold dm at h
 rcases Od.mp h with ⟨i,hi,rfl⟩
 have:=PB.mp hi
 exact ⟨_,rfl,by omega,by omega⟩
def fM:FSp:=λds μ Q=>kcL ds λxs ds=>kcN ds ((∃ ns:List Int,xs=ns.map .int/\ns.length<=63)/\∀ μ',Q (.bl true) μ')
theorem rL:∀ ds μ Q,fM ds μ Q->ds.length=1:=λ_ _ _ h=>lcL h λ_ _ h=>by rw[(ecN h).1];rfl
theorem kG (ns:List Int)(h:ns.length<=63)(μ:Mu):fM [.ls (ns.map .int)] μ (λd _=>d=.bl true):=⟨⟨ns,rfl,h⟩,λ_=>rfl⟩
local macro_rules | `(tactic| walk_at "rd")=>zzS "L3.ai L3.TC L3.aq L3.TUn L3.cZ L3.An L3.lr L3.TB L3.Jr L3.TOr L3.cg L3.Ar L3.fK L3.ar L3.af L3.aP L3.cF L3.xc L3.au L3.aY L3.aE L3.wC L3.Bt L3.lD L3.aR L3.DA L3.bI L3.az L3.aU L3.xx L3.ff L3.qa L3.cz L3.iC L3.cu L3.ik L3.jY L3.gh L3.LH L3.ILs L3.DN L3.A8 L3.By L3.DL L3.DW L3.xy L3.sO L3.wj L3.Dt L3.wH L3.rJ L3.y3 L3.oF L3.tL L3.sv L3.tO L3.sN L3.ud L3.kK L3.AQ L3.nK L3.ou L3.nc L3.oG L3.nu L3.mO L3.nv L3.oE L3.nU L3.TSl L3.ONo L3.jd L3.Dr L3.BQ L3.Ds L3.A9 L3.Cg L3.Ce L3.wZ L3.wN L3.CD L3.Bm L3.BM L3.mV L3.nX L3.mX L3.xH L3.xK L3.ym L3.yo L3.wc L3.xr L3.xO L3.yd L3.xN L3.Eg L3.C1 L3.Cs L3.BH L3.DX L3.CF L3.kx L3.Dh L3.Dl L3.yj L3.yg L3.wW L3.xb L3.xf L3.xX L3.xa L3.xu L3.wJ L3.yf L3.lk L3.ini Vj PY N8 Uo Vk QK Qg TU S2 RE L3.yN L3.yu L3.yS L3.yJ L3.yE L3.yU L3.yD L3.zp L3.yM Qn Qo L3.aX L3.mW R7 RM if_true if_false true_and and_true S3 Sy Sz RO QV Sf decide_eq_true_eq PL ite_false ite_true ne_eq not_false_eq_true Sg S4 S5 S6 S7 S8 TV L3.okD L3.bR L3.eqD L3.fY S9 RF N5 L3.iU L3.iS L3.iO L3.iP L3.iT L3.iW L3.iX"
structure IsPart (a b p q:Int):Prop where
 q0:0 < q
 g:Oj p q=1
 e:p*b=a*q
 pa:p.natAbs<=a.natAbs
 qb:q.natAbs<=b.natAbs
def eR:FSp:=λds μ Q=>kcI ds λa ds=>kcI ds λb ds=>kcN ds (Q (.int (Oj a b)) μ)
theorem pK:∀ ds μ Q,eR ds μ Q->ds.length=2:=λ_ _ _ h=>lcI h λ_ _ h=>lcI h λ_ _ h=>by rw[(ecN h).1];rfl
def lJ:STr:=aE (aU (au sG (af (ai 0) (ar))) (az 2)) (aE (aU (au sG (af (ai 1) (ar))) (az 3)) (aE (xq (TB (aq rGt (ai 3) (TC (.int 0)))) (aE (aU (aq fR (ai 2) (ai 3)) (az 4)) (aE (aU (ai 3) (az 2)) (aU (ai 4) (az 3))))) (aR (ai 2))))
theorem tG:∀ ds μ Q,eR ds μ Q->lJ { nx:=λ_ μ'=>RT Q .non μ',rt:=RT Q } (ini 5 ds) μ:=by
 intro ds μ Q k
 replace k:=ecI k
 obtain ⟨a,ds,rfl,k⟩:=k
 replace k:=ecI k
 obtain ⟨b,ds,rfl,k⟩:=k
 replace k:=ecN k
 obtain ⟨rfl,k⟩:=k
 unfold lJ
 walk_at "rd"
 refine ⟨λρ μ'=>μ'=μ/\∃ (x y:Int) (z:Option D),ρ=[some (.int a),some (.int b),some (.int x),some (.int y),z]/\0<=x/\0<=y/\Oj x y=Oj a b,mz 3,⟨rfl,_,_,_,rfl,?_,?_,?_⟩,?_⟩
 ·split<;>omega
 ·split<;>omega
 ·rw[Bg,Bg];unfold Oj;rw[Tr,Tr]
 ·rintro ρ _ ⟨rfl,x,y,z,rfl,x0,y0,e⟩
  walk_at "rd"
  split
  ·rename_i hy
   refine ⟨by omega,⟨_,_,_,rfl,y0,fm0 hy,?_⟩,?_⟩
   ·rw[vF];exact e
   ·have:=fm1 (a:=x) hy
    have:=fm0 (a:=x) hy
    simp only[mz,lk]
    omega
  ·rename_i hy
   have hy0:y=0:=by omega
   subst hy0
   rw[Ts] at e
   have hx:x=(Oj a b:Int):=by omega
   subst hx
   exact ⟨_,.refl _,k⟩
structure FrB (lo hi p q:Int):Prop where
 q0:0 < q
 q1:q<=10000002
 g:Oj p q=1
 ge:lo*q<=p
 le:p<=hi*q
structure FrA (lo hi p q:Int):Prop extends FrB lo hi p q where
 ab:lo*q < p
structure FrL (hi p q:Int):Prop extends FrB 0 hi p q where
 ab:0 < p
 be:p < hi*q
theorem kP {a b:Int}(b0:0 < b):∃ g p q:Int,0 < g/\a=g*p/\b=g*q/\a.fdiv (Oj a b)=p/\b.fdiv (Oj a b)=q/\0 < q/\q<=b/\Oj p q=1:=by
 have gp:0 < Oj a b:=QY a (by omega)
 have gz:0 < (Oj a b:Int):=by omega
 obtain ⟨c,hc⟩:=Int.gcd_dvd_left a b
 obtain ⟨d,hd⟩:=Int.gcd_dvd_right a b
 have g1:=Int.gcd_ediv_gcd_ediv_gcd gp
 have e1:a / (Oj a b:Int)=c:=Q3 (by omega) hc
 have e2:b / (Oj a b:Int)=d:=Q3 (by omega) hd
 rw[e1,e2] at g1
 refine ⟨_,c,d,gz,hc,hd,by rw[fq gz];exact e1,by rw[fq gz];exact e2,?_,?_,g1⟩
 all_goals generalize (Oj a b:Int)=g at *
 ·rcases TX d 0 with h | h | h
  ·have:=Rk gz h;omega
  ·subst h;omega
  ·exact h
 ·have d0:0 < d:=by
   rcases TX d 0 with h | h | h
   ·have:=Rk gz h;omega
   ·subst h;omega
   ·exact h
  have h:=Ov (show (1:Int)<=g by omega) (show (0:Int)<=d by omega)
  omega
theorem jo:(NA "still" = NA "step")=False:=eq_false (by decide +kernel)
theorem ia:(NA "still" = NA "swell")=False:=eq_false (by decide +kernel)
theorem ji:(NA "still" = NA "heed")=False:=eq_false (by decide +kernel)
theorem jq:(NA "still" = NA "calm")=False:=eq_false (by decide +kernel)
theorem pF:(NA "step" = NA "still")=False:=eq_false (by decide +kernel)
theorem fH:(NA "step" = NA "swell")=False:=eq_false (by decide +kernel)
theorem eU:(NA "step" = NA "heed")=False:=eq_false (by decide +kernel)
theorem jU:(NA "step" = NA "calm")=False:=eq_false (by decide +kernel)
theorem oW:(NA "swell" = NA "still")=False:=eq_false (by decide +kernel)
theorem pZ:(NA "swell" = NA "step")=False:=eq_false (by decide +kernel)
theorem eh:(NA "swell" = NA "heed")=False:=eq_false (by decide +kernel)
theorem jg:(NA "swell" = NA "calm")=False:=eq_false (by decide +kernel)
theorem pk:(NA "heed" = NA "still")=False:=eq_false (by decide +kernel)
theorem tj:(NA "heed" = NA "step")=False:=eq_false (by decide +kernel)
theorem jn:(NA "heed" = NA "swell")=False:=eq_false (by decide +kernel)
theorem kh:(NA "heed" = NA "calm")=False:=eq_false (by decide +kernel)
theorem p9:(NA "calm" = NA "still")=False:=eq_false (by decide +kernel)
theorem tI:(NA "calm" = NA "step")=False:=eq_false (by decide +kernel)
theorem jt:(NA "calm" = NA "swell")=False:=eq_false (by decide +kernel)
theorem sU:(NA "calm" = NA "heed")=False:=eq_false (by decide +kernel)
theorem kA:Oe (NA "still")=true:=by decide +kernel
theorem mZ:Oe (NA "step")=true:=by decide +kernel
theorem kY:Oe (NA "swell")=true:=by decide +kernel
theorem mP:Oe (NA "heed")=true:=by decide +kernel
theorem n5:Oe (NA "calm")=true:=by decide +kernel
abbrev fr (p q:Int):D:=.tup [.int p,.int q]
inductive qZ:Str->D->Prop
 | lG {p q:Int} (w:FrB 1 60 p q):qZ (NA "still") (.tup [.str "still", fr p q])
 | calm {p q r s x y l h:Int} (w:FrB 1 60 p q) (t:FrB 1 60 r s) (wt:p*s<=r*q) (u:FrA 0 60 x y) (l0:0<=l) (lh:l<=h) (h1:h<=60):qZ (NA "calm") (.tup [.str "calm", fr p q,fr x y,.int l,.int h,fr r s])
 | Cn {p q r s x y a b:Int} (w:FrB 1 60 p q) (t:FrB 1 60 r s) (wt:p*s<=r*q) (u:FrA 0 60 x y) (g:FrA 0 1 a b):qZ (NA "heed") (.tup [.str "heed", fr p q,fr x y,fr a b,fr r s])
 | step {p q r s x y a b:Int} (w:FrB 1 60 p q) (t:FrB 1 60 r s) (wt:p*s<=r*q) (u:FrA 0 60 x y) (g:FrL 1 a b):qZ (NA "step") (.tup [.str "step", fr p q,fr x y,fr a b,fr r s])
 | mS {p q r s x y a b:Int} (w:FrB 1 60 p q) (t:FrB 1 60 r s) (wt:p*s<=r*q) (u:FrA 1 60 x y) (g:FrL 1 a b):qZ (NA "swell") (.tup [.str "swell", fr p q,fr x y,fr a b,fr r s])
def dN:List Str:=[NA "still", NA "step", NA "swell", NA "heed", NA "calm"]
section
open PySem PySem.Spec PyProof.Rows L2
def BF (x:D)(f:Str->Prop):Prop:=match x with
 | .str s=>f s
 | _=>False
def bN (kvs:List (Str×D))(s:Str):Option D:=(kvs.find? λkv=>decide (kv.1=s)).map (·.2)
def ko (K:NB):List Pd->List (Str×D)->Prop
 | [],[]=>True
 | e::es,(x,d)::r=>(∃ t,e.key=.str x t)/\(∃ v,RelV v e.val/\∀ H,Dp K H v d)/\ko K es r
 | _,_=>False
theorem uh (s x:Str)(t:Tok):Ow s (.str x t)=decide (x=s):=by
 by_cases h:x=s
 ·subst h;simp[Ow]
 ·rw[decide_eq_false h];simp[Ow];first | exact h | exact λz=>h z.symm
theorem ko.find {K:NB}(s:Str):∀ {es:List Pd} {kvs:List (Str×D)},ko K es kvs->
  match bN kvs s with
  | none=>(es.find? λe=>Ow s e.key)=none
  | some d=>∃ e v,(es.find? λe=>Ow s e.key)=some e/\RelV v e.val/\∀ H,Dp K H v d
 | [],[],_=>rfl
 | e::es,(x,d)::r,h=>by
  obtain ⟨⟨t,ht⟩,⟨v,rv,pv⟩,hr⟩:=h
  have ih:=ko.find s hr
  unfold bN at ih ⊢
  rw[OC,OC,ht,uh]
  by_cases hx:x=s
  ·simp only[decide_eq_true hx,Option.map_some]
   exact ⟨e,v,rfl,rv,pv⟩
  ·simp only[decide_eq_false hx]
   exact ih
 | [],_::_,h=>NG h
 | _::_,[],h=>NG h
structure GT (P:UM) (K:NB) (mg:Str->Option NC) (x:Str) (kvs:List (Str×D)):Prop where
 ex:∃ (a:Addr) (es:Array Pd) (n:Nat),mg x=some (.ref a)/\K.lookup a=some ⟨.type "dict", none,.dict es n,#[]⟩/\QZ P es.toList/\(a == PH)=false/\ko K es.toList kvs
section
variable {X:Cx} {a b c e:N1} {Ta Tb Te:ETr} {pos gpos:Pos} {x:Str} {kvs:List (Str×D)}
theorem Bn {K:NB}{es:Array Pd}{s:Str}(h:ko K es.toList kvs):match bN kvs s with
  | none=>Tu Ow es s=none
  | some d=>∃ u v,Tu Ow es s=some u/\RelV v u/\∀ H,Dp K H v d:=by
 have q:=h.find s
 have e:Tu Ow es s=(es.toList.find? λe=>Ow s e.key).map (·.val):=by
  unfold Tu;rw[← Array.find?_toList]
 rw[e]
 split at q
 ·rw[q];rfl
 ·rename_i d hn
  obtain ⟨e,v,h1,h2,h3⟩:=q
  exact ⟨_,v,by rw[h1];rfl,h2,h3⟩
def Jm (p:Addr)(es:Array Pd):L2.R2:=λx y H Q=>∃ s u v,x=.ref p/\y=.str s/\Tu Ow es s=some u/\RelV v u/\Q v H
theorem HP {p:Addr}{es:Array Pd}{n:Nat}(hl:X.K.lookup p=some ⟨.type "dict", none,.dict es n,#[]⟩)(hk:QZ X.w.params es.toList):IxR X (Jm p es):=by
 intro value slice pins s σ H x y v u Q I rx ry h hs
 obtain ⟨z,u',v',rfl,rfl,hf,rv,q⟩:=h
 cases (show v=OX p from rx)
 obtain ⟨t,rfl⟩:=(show ∃ t,u=QF z t from ry)
 have hm:=Ut (prog:=X.prog) I.kIn hl hk
 exact tail_any hm.typeIs slot_dict_getitem.lookup (wpAny_getItem_of (strKind_is X.prog X.w z t) hm hf ⟨v',H,I.tok _,rv,q⟩) hs
def wb (kvs:List (Str×D))(Te:ETr):ETr:=λρ μ Q=>Te ρ μ λx μ1=>BF x λs=>kO (bN kvs s) λd=>Q d μ1
theorem BR (hg:Gl X x)(h:GT X.w.params X.K X.mg x kvs)(hb:LE X b Tb)(hs:mI b:=by intro _ _;rfl)(hd:(x == ("__debug__" : Str))=false:=by decide):LE X (.Subscript (.Name x gpos) b pos) (wb kvs Tb):=by
 obtain ⟨p,es,n,hm,hl,hk,hn,hr⟩:=h.ex
 obtain ⟨tb,pb,sb⟩:=hb.ex
 refine ⟨_,CL (HP hl hk) (sC hg hm (v:=.ref p) rfl hd) pb hs,λσ H ρ μ Q Q' rl hh k=>sb σ H ρ μ _ _ rl hh λy H2 dy μ2 t2 m2 p2 h2=>?_⟩
 cases p2 with
 | str s=>
  have q:=Bn (s:=s) hr
  obtain ⟨d,ed,h3⟩:=tQ (show kO (bN kvs s) λd=>Q d μ2 from h2)
  rw[ed] at q
  obtain ⟨u,v,h4,h5,h6⟩:=q
  exact ⟨s,u,v,rfl,rfl,h4,h5,k v H2 d μ2 t2 m2 (h6 H2) h3⟩
 | _=>exact NG h2
def Cp (neg:Bool)(p:Addr)(es:Array Pd):L2.R2:=λx y H Q=>∃ s,y=.ref p/\x=.str s/\Q (.bl (if neg then !(Tu Ow es s).isSome else (Tu Ow es s).isSome)) H
theorem vW {p:Addr}{es:Array Pd}{n:Nat}(hl:X.K.lookup p=some ⟨.type "dict", none,.dict es n,#[]⟩)(hk:QZ X.w.params es.toList)(hn:(p == PH)=false):OpR X (OA .NotIn) (Cp true p es):=by
 intro pins s σ H x y v u Q I rx ry h
 obtain ⟨z,rfl,rfl,q⟩:=h
 cases (show u=OX p from ry)
 obtain ⟨t,rfl⟩:=(show ∃ t,v=QF z t from rx)
 exact wpAny_notIn_of (strKind_is X.prog X.w z t) hn (Ut (prog:=X.prog) I.kIn hl hk) ⟨.bl _,H,I.tok _,rfl,q⟩
def rm (neg:Bool)(kvs:List (Str×D))(Te:ETr):ETr:=λρ μ Q=>Te ρ μ λx μ1=>BF x λs=>Q (.bl (if neg then !(bN kvs s).isSome else (bN kvs s).isSome)) μ1
theorem Ci {K:NB}{es:Array Pd}{s:Str}(h:ko K es.toList kvs):(Tu Ow es s).isSome=(bN kvs s).isSome:=by
 have q:=Bn (s:=s) h
 cases e:bN kvs s with
 | none=>rw[e] at q;simp only at q;rw[q];rfl
 | some d=>rw[e] at q;obtain ⟨u,v,h1,_⟩:=q;rw[h1];rfl
theorem zO {K:NB}{p:Addr}{es:Array Pd}{ta:TE}{neg:Bool}(h:ko K es.toList kvs)(sa:Sim K ta Ta):Sim K (tOp (Cp neg p es) ta (tC (.ref p))) (rm neg kvs Ta):=λσ H ρ μ Q Q' rl hh k=>
 sa σ H ρ μ _ _ rl hh λy H2 dy μ2 t2 m2 p2 h2=>by
  cases p2 with
  | str s=>exact ⟨s,rfl,rfl,k _ H2 _ μ2 t2 m2 (.bl _) (by rw[Ci h];exact h2)⟩
  | _=>exact NG h2
theorem vK (hg:Gl X x)(h:GT X.w.params X.K X.mg x kvs)(ha:LE X a Ta)(hm':Pa .NotIn (.Name x gpos)=false:=by rfl)(hd:(x == ("__debug__" : Str))=false:=by decide):LT X (.Compare a [.NotIn] [.Name x gpos] pos) (TB (rm true kvs Ta)):=by
 obtain ⟨p,es,n,hm,hl,hk,hn,hr⟩:=h.ex
 obtain ⟨ta,pa,sa⟩:=ha.ex
 exact ⟨_,yV (vW hl hk hn) pa (sC hg hm (v:=.ref p) rfl hd) hm',wU (zO hr sa)⟩
end
mutual
def zu (K:NB):Nat->NC->D->Bool
 | _,.none,.non=>true
 | _,.bool b,.bl c=>b == c
 | _,.int i _,.int j=>decide (i=j)
 | _,.str x _,.str y=>decide (x=y)
 | n+1,.ref a,.tup ds=>match K.lookup a with
  | some ⟨.type "tuple", none,.seq its _,_⟩=>decide (its.size<=sizeLine)&&rh K n its.toList ds
  | _=>false
 | _,_,_=>false
def rh (K:NB):Nat->List NC->List D->Bool
 | _,[],[]=>true
 | n,u::us,d::ds=>zu K n u d&&rh K n us ds
 | _,_,_=>false
end
mutual
theorem ug {K:NB}:∀ {n:Nat} {u:NC} {d:D},zu K n u d=true->∃ v,RelV v u/\∀ H,Dp K H v d:=by
 intro n u d h
 unfold zu at h
 split at h
 ·exact ⟨.non,rfl,λ_=>.non⟩
 ·obtain rfl:=beq_iff_eq.mp h;exact ⟨.bl _,rfl,λ_=>.bl _⟩
 ·obtain rfl:=of_decide_eq_true h;exact ⟨.int _,⟨_,rfl⟩,λ_=>.int _⟩
 ·obtain rfl:=of_decide_eq_true h;exact ⟨.str _,⟨_,rfl⟩,λ_=>.str _⟩
 ·split at h
  ·rename_i hl
   simp only[NO,decide_eq_true_eq] at h
   obtain ⟨vs,r,p⟩:=qK h.2
   exact ⟨.ref _,rfl,λH=>.tup (.inr ⟨_,_,_,hl,rfl,rfl,rfl,h.1,r⟩) (p H)⟩
  ·cases h
 ·cases h
theorem qK {K:NB}:∀ {n:Nat} {us:List NC} {ds:List D},rh K n us ds=true->∃ vs,Vals vs us/\∀ H,DpL K H vs ds:=by
 intro n us ds h
 unfold rh at h
 split at h
 ·exact ⟨[],.nil,λ_=>.nil⟩
 ·simp only[NO] at h
  obtain ⟨v,r,p⟩:=ug h.1
  obtain ⟨vs,rs,ps⟩:=qK h.2
  exact ⟨v::vs,.cons r rs,λH=>.cons (p H) (ps H)⟩
 ·cases h
end
def qQ (K:NB):List Pd->List (Str×D)->Bool
 | [],[]=>true
 | e::es,(x,d)::r=>(match e.key with
  | .str y _=>decide (y=x)
  | _=>false)&&zu K 9 e.val d&&qQ K es r
 | _,_=>false
theorem um {K:NB}:∀ {es:List Pd} {kvs:List (Str×D)},qQ K es kvs=true->ko K es kvs
 | [],[],_=>PK
 | e::es,(x,d)::r,h=>by
  unfold qQ at h
  simp only[NO] at h
  obtain ⟨⟨h1,h2⟩,h3⟩:=h
  refine ⟨?_,ug h2,um h3⟩
  split at h1
  ·rename_i y t hk
   obtain rfl:=of_decide_eq_true h1
   exact ⟨t,hk⟩
  ·cases h1
 | [],_::_,h=>by simp[qQ] at h
 | _::_,[],h=>by simp[qQ] at h
theorem LU {K:NB}{w:N6}{h:Heap}{mg:Str->Option NC}{x:Str}{p:Addr}{es:Array Pd}{n:Nat}{kvs:List (Str×D)}(X:K.In h)(G:h.Ns Oy mg)(a:R6 K Oy x=some (some (.ref p)))
  (l:K.lookup p=some ⟨.type "dict", none,.dict es n,#[]⟩) (hk:QZ w.params es.toList) (hn:(p == PH)=false) (r:qQ K es.toList kvs=true):GT w.params K mg x kvs:=⟨p,es,n,RD X G a,l,hk,hn,um r⟩
section
variable {X:Cx} {a b:N1} {Ta Tb:ETr} {pos:Pos}
end
end
section
open PySem PySem.Spec PyProof.Rows L2
def putD {κ:Type} [DecidableEq κ] (kvs:List (κ×D))(k:κ)(v:D):List (κ×D):=
 if (kvs.any λkv=>decide (kv.1=k))=true then kvs.map (λkv=>if kv.1=k then (kv.1,v) else kv) else kvs++[(k,v)]
theorem DpK.nil {κ:Type}{K:NB}{H:Hp}:DpK (κ:=κ) K H [] []:=⟨rfl,.nil⟩
theorem DpK.cons {κ:Type}{K:NB}{H:Hp}{k:κ}{v:V}{d:D}{xs:List (κ×V)}{kvs:List (κ×D)}(h:Dp K H v d)(r:DpK K H xs kvs):DpK K H ((k,v)::xs) ((k,d)::kvs):=
 ⟨by simp[r.1],.cons h r.2⟩
theorem DpK.ind {κ:Type}{K:NB}{H:Hp}{P:List (κ×V)->List (κ×D)->Prop}(h0:P [] [])(h1:∀ k v d xs kvs,Dp K H v d->DpK K H xs kvs->P xs kvs->P ((k,v)::xs) ((k,d)::kvs)) :
  ∀ {xs:List (κ×V)} {kvs:List (κ×D)},DpK K H xs kvs->P xs kvs
 | [],[],_=>h0
 | [],_::_,h=>by cases h.1
 | _::_,[],h=>by cases h.1
 | (k,v)::xs,(k',d)::kvs,h=>by
  obtain ⟨h2,h3⟩:=h
  simp only[Ob,Sh] at h2
  obtain ⟨rfl,h2⟩:=h2
  cases h3 with
  | cons p l=>exact h1 k v d xs kvs p ⟨h2,l⟩ (DpK.ind h0 h1 ⟨h2,l⟩)
theorem DpK.any {κ:Type} [DecidableEq κ] {K:NB}{H:Hp}{xs:List (κ×V)}{kvs:List (κ×D)}(h:DpK K H xs kvs)(k:κ):(xs.any λkv=>decide (kv.1=k))=kvs.any λkv=>decide (kv.1=k):=by
 refine DpK.ind (P:=λxs kvs=>(xs.any λkv=>decide (kv.1=k))=kvs.any λkv=>decide (kv.1=k)) rfl (λj v d xs kvs p _ ih=>?_) h
 rw[Qf,Qf,ih]
theorem DpK.length {κ:Type}{K:NB}{H:Hp}{xs:List (κ×V)}{kvs:List (κ×D)}(h:DpK K H xs kvs):xs.length=kvs.length:=by
 have:=h.2.length
 simpa using this
theorem xJ {H:Hp}{q:Addr}{u:HO}{xs:List (Key×V)}(ex:H q=some (.dK xs)):Tk H (L2.upd H q u):=
 .upd (λys z=>by rw[ex] at z;cases z) λo' w z=>by rw[ex] at z;cases z
theorem Ja {K:NB}{H:Hp}{μ:Mu}{q:Addr}{xs ys:List (Key×V)}{ds:List (Key×D)}(m:bV K H μ)(ex:H q=some (.dK xs))(l:DpK K H ys ds):bV K (L2.upd H q (.dK ys)) (up μ q (.dct ds)):=λz y ez=>by
 by_cases zq:z=q
 ·subst zq
  rw[aX] at ez;cases ez
  exact ⟨ys,aQ,l.mono (xJ ex)⟩
 ·rw[cJ zq] at ez
  exact (m z _ ez).ne (xJ ex) zq
theorem yO {K:NB}{H:Hp}{μ:Mu}{q:Addr}{ys:List (Key×V)}{ds:List (Key×D)}(m:bV K H μ)(hq:H q=none)(l:DpK K H ys ds):bV K (L2.upd H q (.dK ys)) (up μ q (.dct ds)):=λz y ez=>by
 by_cases zq:z=q
 ·subst zq
  rw[aX] at ez;cases ez
  exact ⟨ys,aQ,l.mono (.new hq)⟩
 ·rw[cJ zq] at ez
  exact eI m hq z y ez
section
variable {X:Cx} {o i a b c e value:N1} {To Ti Ta Tb Te:ETr} {pos tpos:Pos}
theorem E2:LE X (.Dict [] [] pos) (λρ μ Q=>∀ p,μ p=none->Q (.obj p) (up μ p (.dct []))):=
 ⟨_,BE,λσ H ρ μ Q Q' rl h k p hp=>k _ _ _ _ (.new hp) (yO rl.mu hp .nil) (.obj p) (h p (rl.mu.free hp))⟩
def Nf (K:NB)(trs:List (TE×TE))(ks:List Key)(T:ATr):Prop:=∀ σ H ρ μ (Q:List D->Mu->Prop) (Q':List (V×V)->Hp->Prop),Rl K σ H ρ μ->T ρ μ Q->
 (∀ vs H' ds μ',Tk H H'->bV K H' μ'->vs.length=ks.length->DpL K H' vs ds->Q ds μ'->Q' ((ks.map kV).zip vs) H')->rO trs σ H Q'
structure LPs (X:Cx) (pos:Pos) (keys:List (Option N1)) (values:List N1) (ks:List Key) (T:ATr):Prop where
 ex:∃ trs,PPs X pos keys values trs/\Nf X.K trs ks T
theorem Gd:LPs X pos [] [] [] ar:=⟨[],Fj,λσ H ρ μ Q Q' rl h k=>k [] H [] μ (.refl H) rl.mu rfl .nil h⟩
def Bw (ks:List Key)(At:ATr):ETr:=λρ μ Q=>∀ p,μ p=none->At ρ (up μ p (.dct [])) λds μ2=>kD μ2 p λkvs=>kvs=[]/\Q (.obj p) (up μ2 p (.dct (ks.zip ds)))
theorem BN {acc:List (Key×V)}{k:Key}{v:V}(h:iM acc k=some v):k∈acc.map (·.1):=by
 unfold iM at h
 obtain ⟨p,hp,_⟩:=R8.mp h
 have h1:=Rm hp
 have h2:=Uu hp
 exact Od.mpr ⟨p,h1,of_decide_eq_true h2⟩
theorem nG:∀ (kvs acc:List (Key×V)),((acc++kvs).map (·.1)).Nodup->gj acc kvs=acc++kvs
 | [],acc,_=>by simp[gj]
 | p::r,acc,h=>by
  have hn:iM acc p.1=none:=by
   cases e:iM acc p.1 with
   | none=>rfl
   | some v=>
    exfalso
    have:=BN e
    rw[O7,Ob] at h
    exact (Pu.mp h).2.2 _ this _ NJ rfl
  show gj (putK acc p.1 p.2) r=_
  rw[BK p.2 hn]
  rw[nG r (acc++[(p.1,p.2)]) (by simpa using h)]
  simp
theorem uq:∀ (ks:List Key) (vs:List V),(ks.map kV).zip vs=(ks.zip vs).map λkv=>(kV kv.1,kv.2)
 | [],_=>by simp
 | _::_,[]=>by simp
 | k::ks,v::vs=>by simp[uq ks vs]
theorem DpK.zip {K:NB}{H:Hp}:∀ {ks:List Key} {vs:List V} {ds:List D},DpL K H vs ds->DpK K H (ks.zip vs) (ks.zip ds)
 | [],_,_,_=>by simp;exact .nil
 | _::_,_,_,.nil=>by simp;exact .nil
 | k::ks,_,_,.cons p l=>.cons p (DpK.zip l)
theorem Gb {keys:List (Option N1)}{values:List N1}{ks:List Key}{At:ATr}(h:LPs X pos keys values ks At)(hall:keys.all (·.isSome)=true:=by rfl)(hl:keys.length=values.length:=by rfl)(h0:keys≠[]:=by nofun)
  (h15:keys.length<=15:=by decide) (hk:keys.length=ks.length:=by rfl) (hn:ks.Nodup:=by decide):LE X (.Dict keys values pos) (Bw ks At):=by
 obtain ⟨trs,pr,sr⟩:=h.ex
 refine ⟨_,GD pr hall hl h0 h15,λσ H ρ μ Q Q' rl h k p hp=>?_⟩
 refine sr σ _ ρ _ _ _ (rl.go (.new hp) (yO rl.mu hp .nil)) (h p (rl.mu.free hp)) λvs H2 ds μ2 t2 m2 hvl p2 h2=>?_
 obtain ⟨kvs,e0,rfl,h2⟩:=JD h2
 obtain ⟨xs,ex,l⟩:=m2 p _ e0
 have:xs=[]:=by have:=l.length;cases xs with | nil=>rfl | cons=>simp at this
 subst this
 refine ⟨ex,ks.zip vs,uq ks vs,by rw[List.length_zip];omega,?_⟩
 have e:gj [] (ks.zip vs)=ks.zip vs:=by
  have:=nG (ks.zip vs) [] (by rw[Qg,List.map_fst_zip (by omega)];exact hn)
  simpa using this
 rw[e]
 exact k _ _ _ _ ((Tk.new hp).trans (t2.trans (xJ ex))) (Ja m2 ex (.zip p2)) (.obj p) h2
end
end
section
open PySem PySem.Spec PyProof.Rows L2
inductive gF {prog:NR} {w:N6} {κ:Type} [DecidableEq κ] (knd:SN prog w κ) (h:Heap):List NC->List (κ×NC)->Prop
 | nil:gF knd h [] []
 | cons {a:Addr} {u v:NC} {k:κ} {us:List NC} {r:List (κ×NC)}:IsTup h a #[u,v]->knd.is k u=true->gF knd h us r->gF knd h (.ref a::us) ((k,v)::r)
section
variable {prog:NR} {w:N6} {κ:Type} [DecidableEq κ] {knd:SN prog w κ}
theorem gF.keeps {h h':Heap}(kp:∀ b o,h.get? b=some o->o.cls=.type "tuple" -> h'.get? b=some o):∀ {us:List NC} {r:List (κ×NC)},gF knd h us r->gF knd h' us r
 | _,_,.nil=>.nil
 | _,_,.cons t k r=>.cons (by obtain ⟨o,e,c,n,d⟩:=t;exact ⟨o,kp _ o e c,c,n,d⟩) k (r.keeps kp)
end
end
section
open PySem PySem.Spec PyProof.Rows L2
section
variable {prog:NR} {w:N6} {κ:Type} [DecidableEq κ] {knd:SN prog w κ}
end
def dK:Key->D
 | .inl i=>.int i
 | .inr s=>.str s
def MU (kv:Key×D):D:=.tup [dK kv.1,kv.2]
def M4 (kvs more:List (Key×D)):List (Key×D):=more.foldl (λacc kv=>putD acc kv.1 kv.2) kvs
inductive kE (K:NB) (H:Hp):List V->List (Key×V)->Prop
 | nil:kE K H [] []
 | cons {a:Addr} {k:Key} {v:V} {ys:List V} {r:List (Key×V)}:SqT K H a [kV k,v]->kE K H ys r->kE K H (.ref a::ys) ((k,v)::r)
theorem kE.at {X:Cx}{pins:List (Addr×Obj)}{σ:L2.St}{H:Hp}{s:ND}(I:Inv X pins σ H s):∀ {ys:List V} {kvs:List (Key×V)} {us:List NC},kE X.K H ys kvs->Vals ys us->∃ r,gF (b5 X.prog X.w) s.heap us r/\KV kvs r
 | _,_,_,.nil,.nil=>⟨[],.nil,.nil⟩
 | _,_,_,@kE.cons _ _ a k v ys r sq h,.cons ru rs=>by
  cases (show _=OX a from ru)
  obtain ⟨r,p,q⟩:=h.at I rs
  obtain ⟨its,vs,it,_⟩:=I.tuple sq
  cases vs with | @cons _ u1 _ _ r1 vs=>cases vs with | @cons _ u2 _ _ r2 vs=>
  cases vs
  exact ⟨(k,u2)::r,.cons it (DS r1) p,.cons ⟨rfl,r2⟩ q⟩
end
section
open PySem PySem.Spec PyProof.Rows L2
section
variable {X:Cx} {o i a b c e value:N1} {To Ti Ta Tb Te:ETr} {pos tpos apos cpos:Pos}
end
noncomputable def nC (h:Heap) (dx:PyData) (y:NC):Bool:=@decide (∃ d as,Reads h y d as/\UO d=true/\Py d dx=true) (Qp _)
theorem GG {h:Heap}{dx d:PyData}{y:NC}{as:List Addr}(r:Reads h y d as)(hd:d.canLay0=true):nC h dx y=Py d dx:=by
 unfold nC
 cases e:Py d dx with
 | true=>exact @decide_eq_true _ (Qp _) ⟨d,as,r,hd,e⟩
 | false=>
  refine @decide_eq_false _ (Qp _) ?_
  rintro ⟨d',as',r',hd',e'⟩
  cases SeqAt.Reads.unique _ _ _ _ _ hd r r'
  rw[e] at e';cases e'
theorem yT {n:Nat}:∀ {ds:List D} {d:D},bR n ds=true->d∈ds->okD n d=true
 | x::r,d,h,hm=>by
  have h':okD n x=true/\bR n r=true:=by simpa[bR] using h
  rcases N9.mp hm with rfl | hm
  ·exact h'.1
  ·exact yT h'.2 hm
section
variable {X:Cx} {pins:List (Addr×Obj)} {σ:L2.St} {H:Hp} {s:ND}
theorem item_at (I:Inv X pins σ H s){vs:List V}{ds:List D}{us:List NC}(l:DpL X.K H vs ds)(r:Vals vs us)(ok:bR 38 ds=true){dy:D}{y:NC}{bs:List Addr}(oy:okD 38 dy=true)(ry:Reads s.heap y (toP dy) bs)(hu:X.A.units+64 < cLine)
  {m:Nat} {u:NC} (hm:us[m]? = some u):∃ d,ds[m]? = some d/\nC s.heap (toP dy) u=eqD d dy/\UT X.A.in1 s u y (nC s.heap (toP dy) u):=by
 have hlt:m < vs.length:=by rw[r.length];exact (Oz.mp hm).1
 obtain ⟨u',e1,rv⟩:=r.get (Oc hlt)
 rw[hm] at e1;cases e1
 obtain ⟨d,ed,pd⟩:=l.get' (Oc hlt)
 have od:=yT ok (QU ed)
 obtain ⟨as,ra⟩:=di I pd od rv
 obtain ⟨l1,d1⟩:=gm 38 d od
 obtain ⟨l2,d2⟩:=gm 38 dy oy
 have e:=GG (dx:=toP dy) ra l1
 refine ⟨d,ed,by rw[e,mB 38 38 d dy od oy],?_⟩
 rw[e]
 exact SeqAt.eqAt_reads _ _ _ s _ _ _ _ ra ry l1 l2 (by have:=Se (toP d).depth (toP dy).depth;rw[Around.in1_units];omega)
end
def zw (ds:List D)(x:D):Option Nat:=ds.findIdx? λy=>eqD y x
theorem CJ {X:Cx}(hu:X.A.units+64 < cLine):MtM X "list.index" (λx vs H Q=>∃ p xs y ds dy,∃ j:Nat,x=.ref p/\vs=[y]/\SqL X.K H p xs/\DpL X.K H xs ds/\Dp X.K H y dy/\bR 38 ds=true/\okD 38 dy=true/\zw ds dy=some j/\j < 1000000/\Q (.int j) H):=by
 intro pins s σ H x vs v us Q I rx rv h
 obtain ⟨p,xs,y,ds,dy,j,rfl,rfl,sq,l,py,ok,oy,hj,hj2,q⟩:=h
 cases (show v=OX p from rx)
 obtain ⟨u,rfl,ru⟩:=rv.one
 obtain ⟨its,r,⟨o,n,e,c,hd,hdat⟩,_⟩:=I.list sq
 obtain ⟨bs,rb⟩:=di I py oy ru
 have he:s.heap.get? p=some ⟨.type "list", none,.seq its.toArray n,o.slots⟩:=by
  rw[e];obtain ⟨c',dd,dt,sl⟩:=o;simp only at c hd hdat;subst c hd hdat;rfl
 unfold zw at hj
 rw[List.findIdx?_eq_some_iff_getElem] at hj
 obtain ⟨h1,h2,h3⟩:=hj
 have hl:ds.length=its.length:=by rw[← l.length,r.length]
 have at':∀ m (hm:m < its.toArray.size),∃ d,ds[m]? = some d/\nC s.heap (toP dy) its.toArray[m]=eqD d dy/\UT X.A.in1 s its.toArray[m] u (nC s.heap (toP dy) its.toArray[m]):=λm hm=>
  item_at I l r ok oy rb hu (by simp at hm ⊢)
 refine call_meets F.slot_list_index ⟨_,he,rfl⟩ F.entry_list_index (F.args_list_index_2 _ _) (SeqAt.list_indexAt p its.toArray n none o.slots u (nC s.heap (toP dy)) j (by simp;omega) (by omega) ?_ ?_) ⟨he,λw hw=>?_,?_⟩
 ·obtain ⟨d,e1,e2,_⟩:=at' j (by simp;omega)
  rw[e2]
  rw[Oc h1] at e1;cases e1
  exact h2
 ·intro m hm hlt
  obtain ⟨d,e1,e2,_⟩:=at' m hm
  rw[e2]
  have hm':m < ds.length:=by simp at hm;omega
  rw[Oc hm'] at e1;cases e1
  have:=h3 m hlt
  simpa using this
 ·obtain ⟨m,hm,rfl⟩:=Sl.mp hw
  obtain ⟨d,_,_,e3⟩:=at' m hm
  exact e3
 ·exact ⟨.int j,H,I.tok _,⟨_,rfl⟩,q⟩
section
variable {X:Cx} {o i a b c e value:N1} {To Ti Ta Tb Te:ETr} {pos tpos apos cpos:Pos}
def Af (μ:Mu)(x:D)(f:List D->Prop):Prop:=match x with
 | .ls ds=>f ds
 | .obj a=>kL μ a f
 | _=>False
theorem uE {K:NB}{H:Hp}{μ:Mu}{x:V}{dx:D}{f:List D->Prop}(m:bV K H μ)(p:Dp K H x dx)(h:Af μ dx f):∃ q xs ds,x=.ref q/\SqL K H q xs/\DpL K H xs ds/\f ds:=by
 cases p with
 | ls sq l=>exact ⟨_,_,_,rfl,sq.sq,l,h⟩
 | obj q=>
  obtain ⟨ds,e0,h⟩:=cO h
  obtain ⟨xs,ex,l⟩:=m q _ e0
  exact ⟨q,xs,ds,rfl,SqL.of ex,l,h⟩
 | _=>exact NG h
def xW (To Ti:ETr):ETr:=λρ μ Q=>To ρ μ λx μ1=>Af μ1 x λ_=>Ti ρ μ1 λy μ2=>Af μ2 x λds=>(bR 38 ds=true/\okD 38 y=true)/\kN (zw ds y) λj=>j < 1000000/\Q (.int j) μ2
theorem BG (hu:X.A.units+64 < cLine)(ho:LE X o To)(hi:LE X i Ti)
  (hbase:S0 o "index" X.env (O4 o X.env)=O4 o X.env:=by rfl)
  (hfew:((OB cpos (NL [i] X.env)).all (λx=>!x.1)&&(backToKw cpos (Um [] X.env)).all (λx=>x.1.isSome)
   && decide (([i]:List N1).length+([]:List SK).length+(if ([]:List SK).isEmpty then 0 else 1) < 30))=true:=by rfl)
  (hline:(apos.endLine == cpos.line)=true:=by rfl) (hs:NL [i] X.env=(false,O4 i X.env)::NL [] X.env:=by rfl) (hplain:(OB cpos (NL [] X.env)).any (·.1)=false:=by rfl) :
  LE X (.Call (.Attribute o "index" apos) [i] [] cpos) (xW To Ti):=by
 obtain ⟨to,po,so⟩:=ho.ex
 obtain ⟨ti,pi,si⟩:=hi.ex
 refine ⟨_,Hi RL PySem.F.slot_list_index PySem.F.type_list_index (CJ hu) po (iV pi oN hs) hbase hfew hline hs hplain,λσ H ρ μ Q Q' rl h k=>so σ H ρ μ _ _ rl h λx H1 dx μ1 t1 m1 p1 h1=>?_⟩
 obtain ⟨q,xs0,ds0,rfl,sq0,l0,h1⟩:=uE m1 p1 h1
 refine ⟨.inl ⟨rfl,_,sq0⟩,si σ H1 ρ μ1 _ _ (rl.go t1 m1) h1 λy H2 dy μ2 t2 m2 p2 h2=>?_⟩
 obtain ⟨q',xs,ds,eq,sq,l,h2⟩:=uE m2 (p1.mono t2) h2
 cases eq
 obtain ⟨⟨o1,o2⟩,h2⟩:=h2
 obtain ⟨j,ej,hj,h2⟩:=v5 h2
 exact ⟨q,xs,y,ds,dy,j,rfl,rfl,sq,l,p2,o1,o2,ej,hj,k _ H2 _ μ2 (t1.trans t2) m2 (.int _) h2⟩
def inG (x:D)(ds:List D):Bool:=ds.any λy=>eqD y x
def D3 (K:NB)(neg:Bool):L2.R2:=λx y H Q=>∃ p xs ds dx,y=.ref p/\(SqL K H p xs∨SqT K H p xs)/\DpL K H xs ds/\Dp K H x dx/\bR 38 ds=true/\okD 38 dx=true/\Q (.bl (if neg then !inG dx ds else inG dx ds)) H
theorem r8 {pins:List (Addr×Obj)}{σ:L2.St}{H:Hp}{s:ND}(I:Inv X pins σ H s)(hu:X.A.units+64 < cLine){vs:List V}{ds:List D}{us:List NC}(l:DpL X.K H vs ds)(r:Vals vs us)(ok:bR 38 ds=true){dy:D}{y:NC}{bs:List Addr}(oy:okD 38 dy=true)(ry:Reads s.heap y (toP dy) bs) :
  (∀ w,w∈us.toArray->UT X.A.in1 s w y (nC s.heap (toP dy) w))/\us.toArray.any (nC s.heap (toP dy))=inG dy ds:=by
 have hl:ds.length=us.length:=by rw[← l.length,r.length]
 constructor
 ·intro w hw
  obtain ⟨m,hm,rfl⟩:=Sl.mp hw
  obtain ⟨d,_,_,e3⟩:=item_at I l r ok oy ry hu (m:=m) (u:=us.toArray[m]) (by simp at hm ⊢)
  exact e3
 ·unfold inG
  rw[show us.toArray.any (nC s.heap (toP dy))=us.any (nC s.heap (toP dy)) by simp]
  rw[Uv,QL,QL]
  constructor
  ·rintro ⟨w,hw,e⟩
   obtain ⟨m,hm,rfl⟩:=SA.mp hw
   obtain ⟨d,e1,e2,_⟩:=item_at I l r ok oy ry hu (m:=m) (u:=us[m]) (by simp)
   exact ⟨d,QU e1,by rw[← e2];exact e⟩
  ·rintro ⟨d,hd,e⟩
   obtain ⟨m,hm,rfl⟩:=SA.mp hd
   obtain ⟨d',e1,e2,_⟩:=item_at I l r ok oy ry hu (m:=m) (u:=us[m]'(by omega)) (by simp)
   rw[Oc hm] at e1;cases e1
   exact ⟨us[m]'(by omega),RP _,by rw[e2];exact e⟩
theorem Ie (hu:X.A.units+64 < cLine):OpR X (OA .In) (D3 X.K false):=by
 intro pins s σ H x y v u Q I rx ry h
 obtain ⟨p,xs,ds,dx,rfl,hq,l,px,o1,o2,q⟩:=h
 cases (show u=OX p from ry)
 obtain ⟨bs,rb⟩:=di I px o2 rx
 rcases hq with hq | hq
 ·obtain ⟨its,r,pl,hz⟩:=I.list hq
  obtain ⟨h1,h2⟩:=r8 I hu l r o1 o2 rb
  exact SeqAt.in_listAt _ pl.isList h1 ⟨.bl _,H,I,rfl,by rw[h2];exact q⟩
 ·obtain ⟨its,r,pl,hz⟩:=I.tuple hq
  obtain ⟨h1,h2⟩:=r8 I hu l r o1 o2 rb
  exact SeqAt.in_tupleAt _ pl h1 ⟨.bl _,H,I,rfl,by rw[h2];exact q⟩
theorem AS (hu:X.A.units+64 < cLine):OpR X (OA .NotIn) (D3 X.K true):=by
 intro pins s σ H x y v u Q I rx ry h
 obtain ⟨p,xs,ds,dx,rfl,hq,l,px,o1,o2,q⟩:=h
 cases (show u=OX p from ry)
 obtain ⟨bs,rb⟩:=di I px o2 rx
 rcases hq with hq | hq
 ·obtain ⟨its,r,pl,hz⟩:=I.list hq
  obtain ⟨h1,h2⟩:=r8 I hu l r o1 o2 rb
  exact SeqAt.notIn_listAt _ pl.isList h1 ⟨.bl _,H,I,rfl,by rw[h2];exact q⟩
 ·obtain ⟨its,r,pl,hz⟩:=I.tuple hq
  obtain ⟨h1,h2⟩:=r8 I hu l r o1 o2 rb
  exact SeqAt.notIn_tupleAt _ pl h1 ⟨.bl _,H,I,rfl,by rw[h2];exact q⟩
def Nj (μ:Mu)(x:D)(f:List D->Prop):Prop:=match x with
 | .tup ds=>f ds
 | .ls ds=>f ds
 | .obj a=>kL μ a f
 | _=>False
def wF (neg:Bool):DR2:=λx y μ Q=>Nj μ y λds=>(bR 38 ds=true/\okD 38 x=true)/\Q (.bl (if neg then !inG x ds else inG x ds)) μ
theorem y8 {K:NB}(neg:Bool):cL K (D3 K neg) (wF neg):=λH μ x y dx dy Q Q' m px py h k=>by
 cases py with
 | tup sq l=>exact ⟨_,_,_,dx,rfl,.inr sq,l,px,h.1.1,h.1.2,k _ H _ μ (.refl H) m (.bl _) h.2⟩
 | ls sq l=>exact ⟨_,_,_,dx,rfl,.inl sq.sq,l,px,h.1.1,h.1.2,k _ H _ μ (.refl H) m (.bl _) h.2⟩
 | obj q=>
  obtain ⟨ds,e0,h⟩:=cO (show kL μ q _ from h)
  obtain ⟨xs,ex,l⟩:=m q _ e0
  exact ⟨_,_,_,dx,rfl,.inl (SqL.of ex),l,px,h.1.1,h.1.2,k _ H _ μ (.refl H) m (.bl _) h.2⟩
 | _=>exact NG h
theorem Jz (hu:X.A.units+64 < cLine)(ha:LE X a Ta)(hb:LE X b Tb)(hm:Pa .In b=false:=by rfl):LE X (.Compare a [.In] [b] pos) (aq (wF false) Ta Tb):=gK (Ie hu) (y8 false) ha hb hm
theorem zS (hu:X.A.units+64 < cLine)(ha:LE X a Ta)(hb:LE X b Tb)(hm:Pa .NotIn b=false:=by rfl):LT X (.Compare a [.NotIn] [b] pos) (TB (aq (wF true) Ta Tb)):=ky (AS hu) (y8 true) ha hb hm
end
end
section
open PySem PySem.Spec PyProof.Rows L2
section
variable {X:Cx} {e tg:N1} {es:List N1} {is:List Nat} {pos:Pos} {x:Str} {n:Nat}
end
section
variable {X:Cx} {o i a b c e value:N1} {To Ti Ta Tb Te:ETr} {pos tpos apos cpos:Pos}
end
section
variable {P:NR} {w:N6} {K:NB} {mg:Str->Option NC} {base:Heap}
end
end
section
open PySem PySem.Spec PyProof.Rows L2
section
variable {X:Cx} {tg a ea eb:N1} {Ta:ETr} {es:List N1} {ek:Nat} {ep p pos:Pos}
def Nu (K:NB)(tl:TE):TI:=λσ H R=>tl σ H λx H1=>∃ q,x=.ref q/\(((∃ xs,SqL K H1 q xs)/\R (Itl K q) H1)∨((∃ xs,SqT K H1 q xs)/\R (Itt K q) H1))
theorem Hr {tl:TE}(hl:PE X a tl):PI X tg a (Nu X.K tl):=by
 intro pins s σ H R I h
 refine thn (hl pins s σ H _ I h) λv s1 ⟨x,H1,I1,r1,q,ex,qq⟩=>?_
 subst ex
 cases (show v=OX q from r1)
 have fp:∀ b∈[s1.heap.objs.size],_:=λb hb=>by
  have e:b=s1.heap.objs.size:=by simpa using hb
  subst e
  exact I1.Gv (NV _) (I1.hok.fresh (NV _))
 rcases qq with ⟨⟨xs,sq⟩,qq⟩ | ⟨⟨xs,sq⟩,qq⟩
 ·obtain ⟨its,rv,pl,hz⟩:=I1.list sq
  exact Rt pl.isList ⟨s1.heap.objs.size,[s1.heap.objs.size],_,_,H1,rfl,I1.kept (t':=s1.toks) (λb o e=>NF _ e),Ap q _,⟨_,NT _ rfl,rfl,rfl⟩,fp,qq⟩
 ·obtain ⟨its,rv,pl,hz⟩:=I1.tuple sq
  exact wpAny_pyIter_tuple (show s1.heap.IsTuple q its.toArray from pl) ⟨s1.heap.objs.size,[s1.heap.objs.size],_,_,H1,rfl,I1.kept (t':=s1.toks) (λb o e=>NF _ e),xR q _,⟨_,NT _ rfl,rfl,rfl⟩,fp,qq⟩
theorem fi (ha:LE X a Ta):LI X tg a (iC Ta):=by
 obtain ⟨ta,pa,sa⟩:=ha.ex
 refine ⟨_,Hr pa,λσ H ρ μ Q R rl h k=>sa σ H ρ μ _ _ rl h λx H1 d μ1 t1 m1 p1 h1=>?_⟩
 cases p1 with
 | @tup p xs ds q l=>exact ⟨p,rfl,.inr ⟨⟨xs,q⟩,k _ H1 ds μ1 t1 m1 (CG q l) h1⟩⟩
 | @ls p xs ds q l=>exact ⟨p,rfl,.inl ⟨⟨xs,q.sq⟩,k _ H1 ds μ1 t1 m1 (ES q l) h1⟩⟩
 | _=>exact NG h1
variable {i o:N1} {Ti To:ETr}
end
end
section
open PySem PySem.Spec PyProof.Rows L2
def ltS (x y:Str):Bool:=decide (x.cps.toList < y.cps.toList)
theorem fE:∀ {us:List NC} {ss:List Str},QO us ss->Vals (ss.map V.str) us
 | _,_,.nil=>.nil
 | _,_,.cons n t h=>.cons ⟨t,rfl⟩ (fE h)
theorem rz:∀ {us:List NC} {ss:List Str},Vals (ss.map V.str) us->QO us ss
 | _,[],h=>by cases h;exact .nil
 | _,s::r,h=>by
  cases h with
  | cons q h=>obtain ⟨t,rfl⟩:=(show ∃ t,_=QF s t from q);exact .cons s t (rz h)
def Iu (K:NB):List V->Hp->VK->Prop:=λxs H Q=>∃ (p:Addr) (ss:List Str),xs=[.ref p]/\SqL K H p (ss.map V.str)/\ss.length < 64/\∀ ss':List Str,ss'.Perm ss->ss'.Pairwise (λa b=>ltS b a=false)->∀ z,H z=none->Q (.ref z) (L2.upd H z (.lst (ss'.map V.str)))
theorem Ax:∀ (p:Str) (l:List Str),risingS p l=true->(p::l).Pairwise (λa b=>ltS b a=false):=by
 have tr:∀ a b c:Str,ltS b a=false->ltS c b=false->ltS c a=false:=by
  intro a b c h1 h2
  unfold ltS at *
  rw[decide_eq_false_iff_not,Vm] at *
  exact List.le_trans h1 h2
 intro p l
 induction l generalizing p with
 | nil=>intro _;exact List.pairwise_singleton _ _
 | cons x r ih=>
  intro h
  have h':ltCps x.cps.toList p.cps.toList=false/\risingS x r=true:=by
   have:(!ltCps x.cps.toList p.cps.toList&&risingS x r)=true:=h
   simpa using this
  have hx:=ih x h'.2
  have hpx:ltS x p=false:=by unfold ltS;rw[← ltCps_eq];exact h'.1
  refine Tv.mpr ⟨λy hy=>?_,hx⟩
  rcases N9.mp hy with rfl | hy
  ·exact hpx
  ·exact tr p x y hpx ((Tv.mp hx).1 y hy)
theorem qh:∀ (l:List Str),sortedS l=true->l.Pairwise (λa b=>ltS b a=false)
 | [],_=>.nil
 | p::l,h=>Ax p l h
theorem xF {X:Cx}:cm X (.builtin "sorted") (Iu X.K):=λpins s σ H xs us Q I rx ⟨p,ss,e1,sq,hl,q⟩=>by
 subst e1
 obtain ⟨u,rfl,ru⟩:=vals1 rx
 cases (show u=OX p from ru)
 obtain ⟨its,rv,pl,hz⟩:=I.list sq
 have hi:QO its ss:=rz rv
 have hlen:its.length < 64:=by have:=rv.length;simp at this;omega
 refine sorted_strs pl.isList hi hlen λout ss' a1 a2 a3=>?_
 obtain ⟨n,en⟩:=sortedAll_at s.heap its out
 refine ⟨.ref _,_,I.laid (t':=s.toks) (o:=.lst (ss'.map V.str)) (λb o e=>sortedAll_old e) (Nat.le_succ _) ?_,rfl,q ss' a2 (qh _ a3) _ (I.hok.fresh (Nat.le_succ _))⟩
 have z1:ss'.length=ss.length:=a2.length_eq
 exact ⟨by rw[NK,z1];exact RX (N4 hl (by decide)),out.toList,n,fE a1,by simpa[Qj] using en⟩
def xw:FSp:=λds μ Q=>match ds with
 | [.ls xs]=>∃ ss:List Str,(xs=ss.map .str/\ss.length < 64)/\∀ ss':List Str,ss'.Perm ss->ss'.Pairwise (λa b=>ltS b a=false)->Q (.ls (ss'.map .str)) μ
 | _=>False
theorem DpL.strs {K:NB}{H:Hp}:∀ ss:List Str,DpL K H (ss.map V.str) (ss.map D.str)
 | []=>.nil
 | s::r=>.cons (.str s) (DpL.strs r)
theorem DpL.fE {K:NB}{H:Hp}:∀ {xs:List V} {ss:List Str},DpL K H xs (ss.map .str)->xs=ss.map V.str
 | _,[],.nil=>rfl
 | _,s::r,.cons h l=>by cases h;rw[DpL.fE l];rfl
section
variable {X:Cx} {e a b:N1} {x:Str} {p pos:Pos} {At:ATr} {Ta Tb:ETr}
theorem Dw (hg:Gl X x)(hm:X.mg x=none)(hv:Of x=some (.builtin "sorted"))(ha:LA X [e] At)(hn:x ≠ "__name__" := by decide)(hdb:(x == ("__debug__" : Str))=false:=by decide)
  (h1:NL [e] X.env=(false,O4 e X.env)::NL [] X.env:=by rfl) (h2:(OB pos (NL [] X.env)).any (·.1)=false:=by rfl):LE X (.Call (.Name x p) [e] [] pos) (au xw At):=by
 obtain ⟨ta,pa,sa⟩:=ha.ex
 refine ⟨_,jC (nN xF hg hm hv pa hn hdb h1 h2),λσ H ρ μ Q Q' rl h k=>sa σ H ρ μ _ _ rl h λxs H1 ds μ1 t1 m1 p1 h1=>?_⟩
 unfold xw at h1
 split at h1
 ·obtain ⟨ss,⟨rfl,hl⟩,h2⟩:=h1
  cases p1 with | cons p1 p2=>
  cases p2
  cases p1 with
  | @ls a ys _ q l=>
   cases DpL.fE l
   refine ⟨a,ss,rfl,q.sq,hl,λss' a2 a3 z hz=>⟨z,_,rfl,aQ,λo=>?_⟩⟩
   have e:L2.upd (L2.upd H1 z (.lst (ss'.map V.str))) z (.frz o (.lst (ss'.map V.str)))=L2.upd H1 z (.frz o (.lst (ss'.map V.str))):=tP
   rw[e]
   exact k _ _ _ μ1 (t1.trans (.new hz)) (eI m1 hz) (.ls (.inl ⟨o,aQ⟩) (.strs ss')) (h2 ss' a2 a3)
 ·exact NG h1
end
end
section
open PySem PySem.Spec PyProof.Rows L2
end
section
open PySem PySem.Spec PyProof.Rows L2
section
variable {prog:NR} {w:N6} {A:N7} {E:NC->ND->Prop} {s:ND}
end
section
variable {X:Cx} {ea eb:N1} {Ta Tb:ETr} {p p2 pos rpos:Pos}
end
end
section
open PySem PySem.Spec PyProof.Rows L2
section
variable {prog:NR} {w:N6} {A:N7} {E:NC->ND->Prop} {s:ND}
theorem sortedHeap_at {g:Heap}{vs:List NC}{out:Array NC}{k:Nat}(e:(g.push (Qj "list" vs.toArray k)).get? g.objs.size=some (Qj "list" vs.toArray k)):(∃ n,(UU (g.push (Qj "list" vs.toArray k)) g.objs.size vs out).get? g.objs.size=some (Qj "list" out n))/\∀ b o,g.get? b=some o->(UU (g.push (Qj "list" vs.toArray k)) g.objs.size vs out).get? b=some o:=by
 have lt:g.objs.size < (g.push (Qj "list" vs.toArray k)).objs.size:=by rw[size_push'];omega
 unfold UU
 constructor
 ·have e1:=get?_update_seq e λ_=>#[]
  have e2:∀ o1 o2:Obj,((((g.push (Qj "list" vs.toArray k)).update g.objs.size (PJ λ_=>#[])).push o1).push o2).get? g.objs.size=_:=λo1 o2=>NF _ (NF _ e1)
  exact ⟨_,get?_update_seq (e2 _ _) λ_=>out⟩
 ·intro b o hb
  have nb:g.objs.size≠b:=Pz (NY (NP hb))
  exact (Oi _ _ nb).trans (NF _ (NF _ ((Oi _ _ nb).trans (NF _ hb))))
end
end
section
open PySem PySem.Spec PyProof.Rows L2
section
variable {prog:NR} {w:N6} {A:N7} {E:NC->ND->Prop} {s:ND}
end
section
variable {X:Cx} {ea:N1} {es:List N1} {ek:Nat} {ep p pos:Pos}
end
end
section
open PySem PySem.Spec PyProof PyProof.Rows L2
section
variable {w:N6} {prog:NR} {A:N7} {E:NC->ND->Prop}
section
variable {R:UJ->ND->Prop} {I:Addr} {fp wr:List Addr} {n:Nat} {P:Nat->NC->Prop} {St:Nat->Heap->Prop}
end
variable {s:ND}
end
section
variable {X:Cx} {e d:N1} {p pos kp:Pos} {Te Td:ETr}
end
end
section
open PySem PySem.Spec PyProof.Rows L2
section
variable {X:Cx} {o i:N1} {To Ti:ETr} {apos cpos:Pos}
end
end
section
open PySem PySem.Spec PyProof.Rows L2
section
variable {X:Cx} {o i:N1} {To Ti:ETr} {apos cpos:Pos}
end
end
section
open PySem PySem.Spec PyProof.Rows L2
end
section
open PySem PySem.Spec PyProof.Rows L2
section
variable {X:Cx} {a b c d:N1} {ta tb tc td:TE} {Ta Tb Tc Td:ETr} {pos:Pos} {o1 o2 o3:TF} {r1 r2 r3:L2.R2} {R1 R2 R3:DR2}
end
end
section
open PySem PySem.Spec PyProof.Rows L2
def Jd (x:Str):It:=⟨λi _=>i < x.cps.size,λi H v H'=>H'=H/\∃ c,x.cps[i]? = some c/\v=.str ⟨#[c]⟩,λi _=>x.cps.size<=i⟩
theorem Cd {P:NR}{w:N6}{K:NB}{tg:N1}(x:Str)(t:Tok)(it:Addr):Turn P w K tg (Jd x) [it] it (λi h=>h.IsStrIter it "str_ascii_iterator" x t i) where
 mem:=NZ.mpr rfl
 obj:=λi h st b hb=>by
  obtain rfl:=NZ.mp hb
  obtain ⟨o,e,c,d⟩:=st
  exact ⟨o,e,λv z=>by rw[d] at z;cases z⟩
 keep:=λi h h' st k=>let ⟨o,e,r⟩:=st;⟨o,k it (NZ.mpr rfl) o e,r⟩
 item:=by
  intro X hP hw hK hc i pins s σ H E I hf st hg
  subst hP hw hK
  have hg:i < x.cps.size:=hg
  obtain ⟨f0,f1,f2,f3,f4,f5⟩:=hf it (NZ.mpr rfl)
  refine wpAny_pyNext_ascii_item st (c:=x.cps[i]) (Oh hg) λh' st' sb=>?_
  have I1:Inv X pins σ H { s with heap:=h',toks:=s.toks+1 }:=I.turned (t':=s.toks+1) (λb o hb e=>(sb.2 b hb).trans e) f0 f1 f3 f4 f5
  obtain ⟨o,e,c,d⟩:=id st'
  exact ⟨_,rfl,zi (s:={ s with heap:=h',toks:=s.toks+1 }) e c d (by decide) ⟨.str ⟨#[x.cps[i]]⟩,H,I1,⟨_,rfl⟩,⟨rfl,_,Oh hg,rfl⟩,st',λb hb=>(hf b hb).1⟩⟩
 done:=by
  intro X hP hw hK hc i pins s σ H E I hf st hg
  subst hP hw hK
  have hg:x.cps.size<=i:=hg
  obtain ⟨f0,f1,f2,f3,f4,f5⟩:=hf it (NZ.mpr rfl)
  exact wpAny_pyNext_ascii_end (I.ok.hd hc) st (O9 hg) λh' eb=>⟨rfl,I.turned (t':=s.toks) (λb o hb e=>eb b o hb e) f0 f1 f3 f4 f5⟩
 self:=λ_ _ _ _ _ st h=>wpAny_pyIter_striter_ascii st h
section
variable {X:Cx} {tg a b:N1} {Ta Tb:ETr} {pos:Pos}
def Ni (tl:TE):TI:=λσ H R=>tl σ H λv H1=>∃ x,v=.str x/\x.cps.all (· < 128)=true/\R (Jd x) H1
theorem HU {l:N1}{tl:TE}(hl:PE X l tl):PI X tg l (Ni tl):=by
 intro pins s σ H R I h
 refine thn (hl pins s σ H _ I h) λv s1 ⟨y,H1,I1,r1,x,e,hx,q⟩=>?_
 subst e
 obtain ⟨t,rfl⟩:=r1
 refine wpAny_pyIter_ascii hx ?_
 refine ⟨s1.heap.objs.size,[s1.heap.objs.size],_,_,H1,rfl,I1.kept (t':=s1.toks) λb o e=>NF _ e,Cd x t _,⟨_,NT _ rfl,rfl,rfl⟩,λb hb=>?_,q⟩
 obtain rfl:=NZ.mp hb
 exact I1.Gv (NV _) (I1.hok.fresh (NV _))
def vt (x:Str):List D:=x.cps.toList.map λc=>.str ⟨#[c]⟩
theorem rN (x:Str):(vt x).length=x.cps.size:=by simp[vt]
theorem Bf {K:NB}{H:Hp}(x:Str):zX K (Jd x) H (vt x) where
 go:=λi H' t hi=>by rw[rN] at hi;exact hi
 yld:=λi H' v H'' t hi ⟨e,c,hc,y⟩=>by
  subst e y
  refine ⟨.refl _,⟨.str ⟨#[c]⟩,?_,.str _⟩,λ_ m=>m⟩
  unfold vt
  rw[OF,Pk,hc];rfl
 stop:=λi H' t hi=>by rw[rN] at hi;exact hi
def Fs (a:ETr):ATr:=λρ μ Q=>a ρ μ λx μ1=>match x with
 | .str z=>z.cps.all (· < 128)=true/\Q (vt z) μ1
 | _=>False
theorem HV (ha:LE X a Ta):LI X tg a (Fs Ta):=by
 obtain ⟨ta,pa,sa⟩:=ha.ex
 refine ⟨_,HU pa,λσ H ρ μ Q R rl h k=>sa σ H ρ μ _ _ rl h λx H1 d μ1 t1 m1 p1 h1=>?_⟩
 cases p1 with
 | str z=>exact ⟨z,rfl,h1.1,k _ H1 _ μ1 t1 m1 (Bf z) h1.2⟩
 | _=>exact NG h1
def jk:DR2:=λx y μ Q=>match x,y with
 | .str z,.int i=>z.length<=1000000/\kN (atI z.cps.toList i) λc=>Q (.str ⟨#[c]⟩) μ
 | _,_=>False
theorem EJ {K:NB}:cL K L2.JE jk:=λH μ x y dx dy Q Q' m px py h k=>by
 cases px with
 | str z=>
  cases py with
  | int i=>
   obtain ⟨h1,h2⟩:=h
   obtain ⟨c,ec,h3⟩:=v5 h2
   exact ⟨z,i,c,rfl,rfl,OJ h1 (by decide),ec,k _ H _ μ (.refl H) m (.str _) h3⟩
  | _=>exact NG h
 | _=>exact NG (by cases py<;>exact h)
theorem jv (ha:LE X a Ta)(hb:LE X b Tb)(hs:mI b:=by intro _ _;rfl):LE X (.Subscript a b pos) (aq jk Ta Tb):=by
 obtain ⟨ta,pa,sa⟩:=ha.ex
 obtain ⟨tb,pb,sb⟩:=hb.ex
 exact ⟨_,CL DZ pa pb hs,ke EJ sa sb⟩
def Ed (x y:Str):Bool:=!(Qk x y 0 x.length 1).isEmpty
def Fx:DR2:=λx y μ Q=>match x,y with
 | .str i,.str j=>Q (.bl (Ed j i)) μ
 | _,_=>False
theorem Fl {K:NB}:cL K (λx y H Q=>∃ i j,x=.str i/\y=.str j/\Q (.bl (!(Qk j i 0 j.length 1).isEmpty)) H) Fx:=λH μ x y dx dy Q Q' m px py h k=>by
 cases px with
 | str z=>
  cases py with
  | str i=>exact ⟨z,i,rfl,rfl,k _ H _ μ (.refl H) m (.bl _) h⟩
  | _=>exact NG h
 | _=>exact NG (by cases py<;>exact h)
theorem JT (ha:LE X a Ta)(hb:LE X b Tb)(hm:SJ [.In] [b]=false:=by with_unfolding_all rfl):LE X (.Compare a [.In] [b] pos) (aq Fx Ta Tb):=gK AN Fl ha hb hm
def mv (x:Str)(n:Nat):Str:=⟨(N8 n x.cps).foldl (· ++ ·) #[]⟩
theorem tY:∀ (n:Nat),(N8 n (#[]:Array Nat)).foldl (· ++ ·) #[] = #[]
 | 0=>rfl
 | n+1=>by
  rw[Qb,Si]
  exact tY n
theorem uL (xs:Array Nat):∀ (n:Nat) (a:Array Nat),((N8 n xs).foldl (· ++ ·) a).size=a.size+n*xs.size
 | 0,a=>by simp
 | n+1,a=>by
  rw[Qb,Si,uL xs n,Array.size_append,Nat.succ_mul];omega
theorem fold_list (xs:Array Nat):∀ (n:Nat) (a:Array Nat),((N8 n xs).foldl (· ++ ·) a).toList=a.toList++(N8 n xs.toList).flatten
 | 0,a=>by simp
 | n+1,a=>by
  rw[Qb,Si,fold_list xs n,Qb,List.flatten_cons,SS,Pw]
theorem Aw (x:Str)(n:Nat):(mv x n).cps.toList=(N8 n x.cps.toList).flatten:=by
 unfold mv
 rw[fold_list];rfl
theorem v7:OpR X (Pt .Mult) (λx y H Q=>∃ z n,x=.str z/\y=.int n/\(n<=1000/\-1000<=n/\z.length<=1000)/\Q (.str (mv z n.toNat)) H):=by
 intro pins s σ H x y v u Q I rx ry h
 obtain ⟨z,n,rfl,rfl,⟨n1,n0,hz⟩,q⟩:=h
 obtain ⟨t,rfl⟩:=rx
 obtain ⟨t',rfl⟩:=ry
 have big:∀ {m:Int},¬ m < 1->m<=1000->¬ ((z.length:Int) > (2 ^ 63 - 1) / m):=λ{m} h1 h2=>by
  have:(1000:Int)<=(2 ^ 63 - 1) / m:=by
   rw[R9 (by omega)]
   omega
  omega
 have hlen:∀ {k:Nat},k<=1000->SU (z.length*k)=false:=λ{k} hk=>by
  have:z.length*k<=1000*1000:=UW hz hk
  unfold SU
  have:1000*1000<=sizeLine:=by decide
  exact decide_eq_false (by omega)
 refine PySem.P.mul_str (by
  rw[decide_eq_false (by omega),decide_eq_false (by omega)];rfl) (λh1 _=>big h1 n1) (λ_ _=>hlen (by omega)) ?_
 split
 ·rename_i h1
  have e:mv z n.toNat=Ue:=by rw[show n.toNat=0 by omega];rfl
  rw[e] at q
  exact ⟨by decide,.str Ue,H,I.tok _,⟨_,rfl⟩,q⟩
 ·rename_i h1
  split
  ·rename_i h2
   have e:mv z n.toNat=z:=by
    simp only[Uw,beq_iff_eq] at h2
    obtain ⟨c⟩:=z
    unfold mv
    rcases h2 with h2 | h2
    ·rw[show n.toNat=1 by omega];simp
    ·have:c = #[]:=Array.eq_empty_of_size_eq_zero h2
     subst this
     rw[tY]
   rw[e] at q
   exact ⟨.str z,H,I,⟨t,rfl⟩,q⟩
  ·refine ⟨?_,.str _,H,I.tok _,⟨_,rfl⟩,q⟩
   show ((N8 n.toNat z.cps).foldl (· ++ ·) #[]).size<=sizeLine
   rw[uL]
   have hz':z.cps.size<=1000:=hz
   have:n.toNat*z.cps.size<=1000*1000:=UW (by omega) hz'
   have:1000*1000<=sizeLine:=by decide
   simp
   omega
def lg:DR2:=λx y μ Q=>match x,y with
 | .str z,.int n=>(n<=1000/\-1000<=n/\z.length<=1000)/\Q (.str (mv z n.toNat)) μ
 | _,_=>False
theorem BL {K:NB}:cL K (λx y H Q=>∃ z n,x=.str z/\y=.int n/\(n<=1000/\-1000<=n/\z.length<=1000)/\Q (.str (mv z n.toNat)) H) lg:=λH μ x y dx dy Q Q' m px py h k=>by
 cases px with
 | str z=>
  cases py with
  | int i=>exact ⟨z,i,rfl,rfl,h.1,k _ H _ μ (.refl H) m (.str _) h.2⟩
  | _=>exact NG h
 | _=>exact NG (by cases py<;>exact h)
theorem jM (ha:LE X a Ta)(hb:LE X b Tb):LE X (.BinOp a .Mult b pos) (aq lg Ta Tb):=kH v7 BL ha hb
def KP (Ta:ETr)(Tl Th:OTr):ETr:=λρ μ Q=>Ta ρ μ λx μ1=>Tl ρ μ1 λi μ2=>Th ρ μ2 λj μ3=>match x with
 | .str z=>z.length<=1000000/\Q (.str (Txt.slice z i j)) μ3
 | _=>False
end
end
section
open PySem PySem.Spec PyProof.Rows L2
def tyO (μ:Mu):D->Option String
 | .obj a=>(match μ a with
  | some (.dct _)=>some "dict"
  | some (.lst _)=>some "list"
  | _=>none)
 | d=>tyD d
theorem Fg (K:NB):∀ c∈vZ,UP K (.type "dict") (.type c)=some (br "dict" c):=by
 intro c hc
 simp only[vZ,N9,OL,or_false] at hc
 rcases hc with rfl | rfl | rfl | rfl | rfl | rfl<;>with_unfolding_all rfl
def IA (K:NB):List V->Hp->VK->Prop:=λxs H Q=>Hh K xs H Q∨∃ a t c,xs=[.ref a,.ty c]/\((∃ ys,H a=some (.lst ys))/\t = "list" ∨ (∃ ys,H a=some (.dK ys))/\t = "dict")/\c∈vZ/\Q (.bl (br t c)) H
theorem AR {X:Cx}:cm X (.builtin "isinstance") (IA X.K):=λpins s σ H xs us Q I rx h=>by
 rcases h with h | ⟨a,t,c,ex,ha,hc,q⟩
 ·exact Dv pins s σ H xs us Q I rx h
 subst ex
 cases rx with | @cons _ u _ _ r1 r2=>cases r2 with | cons r2 r3=>
 cases r3
 cases (show _=RW c from r2)
 cases (show u=OX a from r1)
 have fin:∀ tk,EP X pins σ Q (.bool (br t c)) { s with toks:=tk }:=λtk=>⟨.bl _,H,I.tok tk,rfl,q⟩
 rcases ha with ⟨⟨ys,ea⟩,rfl⟩ | ⟨⟨ys,ea⟩,rfl⟩
 ·obtain ⟨_,_,_,_,_,e⟩:=I.Lv ea
  exact O5 TR I.kIn ⟨_,e,rfl⟩ (ze X.K "list" (by decide) c hc) (λz=>nomatch z) fin
 ·obtain ⟨_,_,_,_,o,es,ep,h1,h2,_⟩:=(show cK X.prog X.w H s.heap a (.dK ys) from I.hok a _ ea)
  exact O5 PySem.W.kitx_dict I.kIn ⟨o,h1,h2.1⟩ (Fg X.K c hc) (λz=>nomatch z) fin
def cU (c:String):DR:=λx μ Q=>match tyO μ x with
 | some t=>Q (.bl (br t c)) μ
 | none=>False
theorem dg {X:Cx}{x y:Str}{p p2 pos:Pos}{c:String}{e:N1}{Ta:ETr}(hg:Gl X x)(hm:X.mg x=none)(hv:Of x=some (.builtin "isinstance"))(ha:LE X e Ta)(hg2:Gl X y)(hm2:X.mg y=none)(hv2:Of y=some (.type c))(hc:c∈vZ:=by decide)
  (hn:x ≠ "__name__" := by decide) (hdb:(x == ("__debug__" : Str))=false:=by decide) (hn2:y ≠ "__name__" := by decide) (hdb2:(y == ("__debug__" : Str))=false:=by decide)
  (h0:NL [.Name y p2] X.env=[(false,O4 (.Name y p2) X.env)]:=by rfl) (h1:NL (e::[.Name y p2]) X.env=(false,O4 e X.env)::NL [.Name y p2] X.env:=by rfl) (h2:(OB pos (NL [.Name y p2] X.env)).any (·.1)=false:=by rfl) :
  LE X (.Call (.Name x p) [e,.Name y p2] [] pos) (TUn (cU c) Ta):=by
 obtain ⟨ta,pa,sa⟩:=ha.ex
 refine ⟨_,nN AR hg hm hv (iV pa (iV (Ff hg2 hm2 hv2 (v:=.ty c) rfl hn2 hdb2) oN h0) h1) hn hdb h1 h2,λσ H ρ μ Q Q' rl h k=>sa σ H ρ μ _ _ rl h λv H1 d μ1 t1 m1 p1 h1=>?_⟩
 have h1':(match tyO μ1 d with | some t=>Q (.bl (br t c)) μ1 | none=>False):=h1
 cases p1 with
 | obj a=>
  cases e:μ1 a with
  | none=>simp only[tyO,e] at h1'
  | some o=>
   cases o with
   | lst ds=>
    simp only[tyO,e] at h1'
    obtain ⟨ys,ea,_⟩:=m1 a _ e
    exact .inr ⟨a,_,c,rfl,.inl ⟨⟨ys,ea⟩,rfl⟩,hc,k _ H1 _ μ1 t1 m1 (.bl _) h1'⟩
   | dcT ds=>simp only[tyO,e] at h1'
   | dcF ds=>simp only[tyO,e] at h1'
   | dct ds=>
    simp only[tyO,e] at h1'
    obtain ⟨ys,ea,_⟩:=m1 a _ e
    exact .inr ⟨a,_,c,rfl,.inr ⟨⟨ys,ea⟩,rfl⟩,hc,k _ H1 _ μ1 t1 m1 (.bl _) h1'⟩
 | non=>exact .inl ⟨_,_,_,c,rfl,.non,rfl,hc,k _ H1 _ μ1 t1 m1 (.bl _) h1'⟩
 | bl b=>exact .inl ⟨_,_,_,c,rfl,.bl b,rfl,hc,k _ H1 _ μ1 t1 m1 (.bl _) h1'⟩
 | int b=>exact .inl ⟨_,_,_,c,rfl,.int b,rfl,hc,k _ H1 _ μ1 t1 m1 (.bl _) h1'⟩
 | str b=>exact .inl ⟨_,_,_,c,rfl,.str b,rfl,hc,k _ H1 _ μ1 t1 m1 (.bl _) h1'⟩
 | ty b=>exact NG h1'
 | tup a l=>exact .inl ⟨_,_,_,c,rfl,.tup a l,rfl,hc,k _ H1 _ μ1 t1 m1 (.bl _) h1'⟩
 | ls a l=>exact .inl ⟨_,_,_,c,rfl,.ls a l,rfl,hc,k _ H1 _ μ1 t1 m1 (.bl _) h1'⟩
def u3:ETr:=λρ μ Q=>∀ p,μ p=none->Q (.obj p) (up μ p (.dct []))
theorem wu {X:Cx}{pos:Pos}:LE X (.Dict [] [] pos) u3:=E2
end
section
open PySem PySem.Spec PyProof.Rows L2
section
variable {X:Cx} {o e value:N1} {es:List N1} {To Te:ETr} {Ta:ATr} {pos tpos ppos apos cpos:Pos} {x1:Nat}
end
end
section
open PySem PySem.Spec PyProof.Rows L2
section
variable {X:Cx} {o i:N1} {apos cpos:Pos}
def u4:List D->Option (List Str)
 | []=>some []
 | .str z::r=>(u4 r).map (z::·)
 | _::_=>none
def GR (To Ti:ETr):ETr:=λρ μ Q=>To ρ μ λx μ1=>match x with
 | .str sep=>Ti ρ μ1 λy μ2=>match y with
  | .ls ds=>∃ zs,u4 ds=some zs/\JoinOk sep zs=true/\Q (.str (Txt.join sep zs)) μ2
  | _=>False
 | _=>False
end
end
section
open PySem PySem.Spec PyProof PyProof.Rows L2
section
variable {X:Cx} {o:N1} {apos cpos pos p:Pos} {x:Str}
end
end
section
open PySem PySem.Spec PyProof.Rows L2
end
section
open PySem PySem.Spec PyProof.Rows L2
section
variable {X:Cx} {i o:N1} {pos:Pos} {Ti To:ETr}
end
end
section
open PySem PySem.Spec PyProof.Rows L2
section
variable {X:Cx} {tg o a i e:N1} {T To Ta Ti:ETr} {pos:Pos}
end
section
variable {X:Cx} {tg a:N1} {Ta:ETr}
end
section
variable {X:Cx} {es:List N1} {o:N1} {Ta:ATr} {To:ETr} {ppos pos:Pos} {x1:Nat}
end
end
section
open PySem PySem.Spec PyProof PyProof.Rows L2
def ddS {κ:Type} [DecidableEq κ]:List κ->List κ->List κ
 | σ,[]=>σ
 | σ,k::r=>ddS (if k∈σ then σ else σ++[k]) r
theorem sX {prog:NR}{w:N6}{A:N7}{E:NC->ND->Prop}{s:ND}{T newId initId:String}{Bi:Qh}{args:List NC}{Q Q₁:NC->ND->Prop}
  (ft:TypeCalled T newId initId) (hct:checkTypeCall T { pos:=args }=pure ()) (entryI:UX table initId=some Bi)
  (AY:PR (N3 prog w) A.in1 (.call (.builtin newId) { pos:=.type T::args }) (wants Q₁ E) s)
  (hnext:∀ obj s₁,Q₁ obj s₁->s₁.TypeIs obj T/\(∀ (A':N7) (E':NC->ND->Prop) (R':Unit->ND->Prop),R' () s₁->NU (N3 prog w) A' (checkBuiltinCall initId { pos:=obj::args }) R' E' s₁)/\
   NU (N3 prog w) A.in1.in1 (Bi { pos:=obj::args }) (λfin s'=>match fin with
    | .done f=>wants (λr s₂=>r=.none/\Q obj s₂) E (.ok f) s'
    | .again c'=>c'.quiet=true/\PR (N3 prog w) A.in1 c' (wants (λr s₂=>r=.none/\Q obj s₂) E) s') (λe s'=>wants (λr s₂=>r=.none/\Q obj s₂) E (.error e) s') s₁) :
  NU (N3 prog w) A (Rg (RW T) args) Q E s:=by
 obtain ⟨m0,ms,em⟩:=ft.mro
 refine Tp <| codeAny_of_tree <| id <| wpAny_pure ⟨Code.quiet_builtin ⟨.type T::args,[]⟩ (by decide +kernel),codeAny_builtin F.entry_type_call ?_⟩
 rw[Around.under_plain (A:=A) (weight_type_call_type T args []) rfl]
 refine id (Pp ?_ (Pp ?_ (wpAny_bind (P0 hct (wpAny_bind (P0 em (Pp rfl (wpAny_bind (P0 ft.made (wpAny_bind (wpAny_pure (wpAny_bind (wpAny_holding (Tp (Q2 AY λr s₁ hr=>?_)))))))))))))))
 ·simp[ft.notType]
 ·simp[ft.canCreate]
 cases r with
 | error e=>exact hr
 | ok fl=>
  cases fl with
  | ret v=>
   obtain ⟨ty,chk,body⟩:=hnext v s₁ hr
   refine wpAny_bind (P6 ty ft.sub (Pp rfl (wpAny_bind (wpAny_holding ?_))))
   unfold callSpecial?
   refine wpAny_bind (wpAny_specialOf ty ft.init.lookup (wpAny_holding (wpAny_bind (P0 (ft.init.bind v) (wpAny_bind (Tp (Q2 (codeAny_call_builtin ft.init.plain entryI (chk _ _ _ body)) λr₂ s₂ hr₂=>?_)))))))
   cases r₂ with
   | error e=>exact hr₂
   | ok fl₂=>
    cases fl₂ with
    | ret v₂=>
     obtain ⟨rfl,hq⟩:=(show v₂=.none/\Q v s₂ from hr₂)
     exact wpAny_pure (Pp rfl (wpAny_pure hq))
    | next=>exact hr₂
    | brk=>exact hr₂
    | cont=>exact hr₂
  | next=>exact hr
  | brk=>exact hr
  | cont=>exact hr
theorem pQ {prog:NR}{w:N6}{A:N7}{E:NC->ND->Prop}{s:ND}(a:NC){Q₁:NC->ND->Prop}
  (h:Q₁ (.ref s.heap.objs.size) { s with heap:=s.heap.push { cls:=.type "set", data:=.set #[] 0 (OE 0 0 !w.params.followText "set-order") } }) :
  PR (N3 prog w) A (.call (.builtin "set.__new__") { pos:=[.type "set", a] }) (wants Q₁ E) s:=by
 refine codeAny_of_tree (id (wpAny_bind (P0 (F.newCall_set_1 a) (wpAny_pure ⟨QP Ux _,codeAny_builtin F.entry_set_new ?_⟩))))
 rw[P1 (A:=A) Ux ⟨[.type "set", a],[]⟩]
 have Nt:=sub_set_self
 refine id (wpAny_bind (wpAny_bind (id (wpAny_pure (Pp rfl (wpAny_bind (P0 Nt (Pp rfl (wpAny_pure (wpAny_bind ?_))))))))))
 refine id (wpAny_bind (id (wpAny_bind (wpAny_askSetting (wpAny_pure ?_)))))
 refine (show NU (N3 prog w) A.in1 (newObj (.type "set") (.set #[] 0 (OE 0 0 !w.params.followText "set-order"))) _ _ s from ?_)
 unfold newObj
 dsimp only
 rw[if_neg (by simp:¬ (#[]:Array (Int×NC)).size > sizeLine)]
 exact wpAny_bind (wpAny_alloc (wpAny_pure (wpAny_pure h)))
def oU {prog:NR}{w:N6}{κ:Type} [DecidableEq κ] (knd:SN prog w κ)(led:Bool)(h:Heap)(a:Addr)(σ:List κ):Prop:=
 ∃ o es ep t,h.get? a=some o/\o.ExactSet/\o.data=.set es ep t/\ElemsOf knd es.toList/\(∀ k,k∈σ↔∃ e∈es.toList,knd.is k e.2=true)/\es.size < scanBound/\t.fits es.size=true/\es.size=σ.length/\t.led=led/\(es.size=0∨t.plain=false)
theorem FX (t:OT)(es:Array (Int×NC))(h:Int)(x:NC):(layNew t es h x).2.1.led=t.led:=by
 unfold layNew
 split
 ·rename_i slot wd e
  simp only[SetTable.orStandIn]
  split<;>rfl
 ·rfl
theorem Ak (t:OT)(es:Array (Int×NC))(n:Nat):(RQ t es n).2.1.led=t.led/\(t.plain=false->(RQ t es n).2.1.plain=false):=by
 unfold RQ
 split
 ·rename_i t' order e
  have:t'.led=t.led/\t'.plain=t.plain:=by
   unfold SetTable.relaid SetTable.laid at e
   simp only[Option.bind_eq_bind,Option.bind_eq_some_iff] at e
   obtain ⟨o,_,e⟩:=e
   cases e
   exact ⟨rfl,rfl⟩
  dsimp only
  split
  ·exact ⟨this.1,λh=>by rw[← h];exact this.2⟩
  ·exact ⟨rfl,λ_=>rfl⟩
 ·exact ⟨rfl,λ_=>rfl⟩
section
variable {prog:NR} {w:N6} {κ:Type} [DecidableEq κ] {knd:SN prog w κ} {led:Bool}
theorem vR {h:Heap}{a:Addr}{o:Obj}{es es1:Array (Int×NC)}{ep:Nat}{t t2:OT}{σ:List κ}(ho:h.get? a=some o)(ex:o.ExactSet)(hd:o.data=.set es ep t)
  (E1:ElemsOf knd es1.toList) (m:∀ k,k∈σ↔∃ e∈es1.toList,knd.is k e.2=true) (z:es1.size < scanBound) (f:t2.fits es1.size=true) (l:es1.size=σ.length) (ld:t2.led=led) (pl:t2.plain=false) :
  ∃ o',(h.update a (Obj.putSet es1 t2)).get? a=some o'/\o'.ExactSet/\o'.data=.set es1 (ep+1) t2/\oU knd led (h.update a (Obj.putSet es1 t2)) a σ:=by
 have e:=(SetOf_store (knd:=knd) (S':=λk=>decide (k∈σ)) ho ex hd E1 (λk=>by rw[decide_eq_true_iff];exact m k) z f).1
 exact ⟨_,e,ex,rfl,_,es1,ep+1,t2,e,ex,rfl,E1,m,z,f,l,ld,.inr pl⟩
theorem xg {M:UG}{A:N7}{E:NC->ND->Prop}{s:ND}{m:Sem Unit}{tag:String}{Q:Unit->ND->Prop}(hm:m=pure ()∨m=rule tag)(q:Q () s):NU M A m Q E s:=by
 rcases hm with e | e
 ·rw[e];exact wpAny_pure q
 ·rw[e];exact wpAny_rule q
theorem DI {A:N7}{E:NC->ND->Prop}{s:ND}{a:Addr}{σ:List κ}{k:κ}{x:NC}{Q:Bool->ND->Prop}(hk:knd.is k x=true)(sc:x.scannable=true)(hb:SD 8 x=pure false)
  (hm:oU knd led s.heap a σ) (hz:σ.length+1 < scanBound) (h:∀ h' b,Pr a s.heap h'->oU knd led h' a (if k∈σ then σ else σ++[k])->Q b { s with heap:=h' }) :
  NU (N3 prog w) A (PySem.setAddHashed a x (KeyKind.hash knd k)) Q E s:=by
 have hm0:=hm
 obtain ⟨o,es,ep,t,ho,ex,hd,el,ks,zs,ft,zl,ld,pl⟩:=hm
 unfold setAddHashed
 refine wpAny_holding ?_
 rw[Vg]
 refine wpAny_bind (OU ho hd ft ?_)
 dsimp only
 rw[if_pos (byScan_of sc zs el)]
 refine wpAny_bind ?_
 unfold setAddByScan
 refine wpAny_bind (wpAny_rule (wpAny_bind (wpAny_setScan_of hk ho hd ft el ?_)))
 by_cases q:k∈σ
 ·obtain ⟨e,he,hke⟩:=(ks k).mp q
  obtain ⟨j,ej⟩:=Qd.mp (show (U4 (λe:Int×NC=>knd.is k e.2) es.toList).isSome=true by rw[List.findIdx?_isSome];exact QL.mpr ⟨e,he,hke⟩)
  rw[ej]
  rw[if_pos q] at h
  exact wpAny_pure (wpAny_pure (h s.heap _ (Vr ..) hm0))
 ·have ej:U4 (λe:Int×NC=>knd.is k e.2) es.toList=none:=by
   rw[List.findIdx?_eq_none_iff]
   intro e he
   by_cases z:knd.is k e.2=true
   ·exact absurd ((ks k).mpr ⟨e,he,z⟩) q
   ·simpa using z
  rw[ej]
  rw[if_neg q] at h
  have pm:=layNew_perm t es (knd.hash k) x
  have fl:=layNew_fits t es (knd.hash k) x
  have ll:=FX t es (knd.hash k) x
  dsimp only
  generalize layNew t es (knd.hash k) x=L at *
  obtain ⟨es1,t1,wd,gave⟩:=L
  simp only at pm fl ll
  have E1:ElemsOf knd es1.toList:=(el.push hk sc).perm (by simpa using pm)
  have z1:es1.size=es.size+1:=by have:=pm.length_eq;simpa using this
  have m1:∀ k',k'∈σ++[k]↔∃ e∈es1.toList,knd.is k' e.2=true:=λk'=>by
   rw[Oo,NZ,ks k']
   constructor
   ·rintro (⟨e,he,hke⟩ | rfl)
    ·exact ⟨e,pm.mem_iff.mpr (by simp at he ⊢;exact .inl he),hke⟩
    ·exact ⟨(knd.hash k',x),pm.mem_iff.mpr (by simp),hk⟩
   ·rintro ⟨e,he,hke⟩
    have:=pm.mem_iff.mp he
    simp at this
    rcases this with he | rfl
    ·exact .inl ⟨e,by simpa using he,hke⟩
    ·exact .inr (knd.inj x k' k hke hk)
  have zb:es1.size < scanBound:=by rw[z1,zl];exact hz
  have zl1:es1.size=(σ++[k]).length:=by rw[z1,zl,NW];rfl
  have fin:∀ t2:OT,t2.fits es1.size=true->t2.led=led->t2.plain=false->∀ (R:Option Bool->ND->Prop),(∀ h',Pr a s.heap h'->oU knd led h' a (σ++[k])->R (some true) { s with heap:=h' })->∀ g:Bool->Sem Unit,(∀ b (s₁:ND) (Q':Unit->ND->Prop),Q' () s₁->NU (N3 prog w) A (g b) Q' E s₁)->NU (N3 prog w) A (do
    storeSet a es1 t2
    if (!wd&&t2.tooFull)=true then do
      g (RQ t2 es1 (PD es1.size)).2.2;storeSet a (RQ t2 es1 (PD es1.size)).1 (RQ t2 es1 (PD es1.size)).2.1;pure (some true)
     else pure (some true)) R E s:=λt2 f2 l2 p2 R hR g hg=>by
   obtain ⟨o',e1,e2,e3,e4⟩:=vR (knd:=knd) ho ex hd E1 m1 zb f2 zl1 l2 p2
   refine wpAny_bind (TY ho hd ?_ (TZ zb))
   split
   ·refine wpAny_bind (hg _ _ _ ?_)
    have pm2:=relayAll_perm t2 es1 (PD es1.size)
    have fl2:=relayAll_fits t2 es1 (PD es1.size)
    have ll2:=Ak t2 es1 (PD es1.size)
    generalize RQ t2 es1 (PD es1.size)=L2' at *
    obtain ⟨es3,t3,g3⟩:=L2'
    simp only at pm2 fl2 ll2 ⊢
    have z3:es3.size=es1.size:=by have:=pm2.length_eq;simpa using this
    obtain ⟨o2,d1,d2,d3,d4⟩:=vR (knd:=knd) e1 e2 e3 (E1.perm pm2) (λk'=>by rw[m1 k'];exact ⟨λ⟨e,he,q⟩=>⟨e,pm2.mem_iff.mpr he,q⟩,λ⟨e,he,q⟩=>⟨e,pm2.mem_iff.mp he,q⟩⟩) (by rw[z3];exact zb) fl2 (z3.trans zl1) (ll2.1.trans l2) (ll2.2 p2)
    refine wpAny_bind (TY e1 e3 ?_ (TZ (by rw[z3];exact zb)))
    exact wpAny_pure (hR _ ((OO ..).trans (OO ..)) d4)
   ·exact wpAny_pure (hR _ (OO ..) e4)
  refine wpAny_bind (xg (tag := "set.scan.the-table-gave-way") (by cases gave<;>first | exact .inl rfl | exact .inr rfl) ?_)
  dsimp only
  by_cases p1:t1.plain=true
  ·rw[if_pos p1]
   refine wpAny_bind (P0 hb ?_)
   simp only[if_false,PL]
   refine fin _ (SetTable.fits_plain_off fl) (ll.trans ld) rfl _ (λh' sb sq=>wpAny_pure (h h' true sb sq)) _ λb s₁ Q' q=>xg (tag := "set.scan.the-table-gave-way") (by cases b<;>first | exact .inl rfl | exact .inr rfl) q
  ·rw[if_neg p1]
   refine wpAny_bind (wpAny_pure ?_)
   simp only[if_true]
   exact fin t1 fl (ll.trans ld) (by simpa using p1) _ (λh' sb sq=>wpAny_pure (h h' true sb sq)) _ λb s₁ Q' q=>xg (tag := "set.scan.the-table-gave-way") (by cases b<;>first | exact .inl rfl | exact .inr rfl) q
end
section
variable {prog:NR} {w:N6} {κ:Type} [DecidableEq κ] {knd:SN prog w κ} {led:Bool}
theorem Hb {A:N7}{R:UJ->ND->Prop}{s:ND}{as:Args}(h:NU (N3 prog w) A.in1 (Qh.«set.update.loop» as) (λfin s'=>match fin with | .done f=>R (.ok f) s' | .again c'=>c'.quiet=true/\PR (N3 prog w) A c' R s') (λe s'=>R (.error e) s') s):PR (N3 prog w) A (.builtin "set.update.loop" as) R s:=
 codeAny_builtin F.entry_set_update_loop (by rw[P1 RR as];exact h)
theorem C3 {A:N7}{R:UJ->ND->Prop}{S it l:Addr}{items:Array NC}(hA:A.handled=none)(n1:S≠it)(n2:l≠it)(n3:l≠S) :
  ∀ (us:List NC) (ks:List κ) (i:Nat) (σ:List κ) (s:ND),items.toList.drop i=us->UN knd ks us->(∀ u∈us,u.scannable=true/\SD 8 u=pure false)->s.heap.IsListIter it l i->s.heap.IsList l items->oU knd led s.heap S σ->σ.length+ks.length+1 < scanBound->
   (∀ h' tk,oU knd led h' S (ddS σ ks)->(∀ b o,b≠it->b≠S->s.heap.get? b=some o->h'.get? b=some o)->R (.ok (.ret .none)) { s with heap:=h',toks:=tk })->
   PR (N3 prog w) A (.builtin "set.update.loop" ⟨[.ref S,.ref it],[]⟩) R s:=by
 intro us
 induction us with
 | nil=>
  intro ks i σ s hd P hs hit hl hm hz h
  cases P
  have hx:items[i]? = none:=by
   have:items.toList.length<=i:=by
    have:=congrArg PY hd
    simp at this;simp;omega
   simpa using this
  refine Hb (show NU _ _ (Qt (.ref it) >>= _) _ _ _ from ?_)
  refine wpAny_bind (Sk (by exact hA) hit hl hx λh' k=>?_)
  refine wpAny_pure ?_
  refine h h' s.toks ?_ λb o hb _ e=>k b o hb e
  obtain ⟨o,es,ep,t,ho,rest⟩:=hm
  exact ⟨o,es,ep,t,k S o n1 ho,rest⟩
 | cons u us ih=>
  intro ks i σ s hd P hs hit hl hm hz h
  cases P with
  | @cons k _ ks _ hk P=>
  have hx:items[i]? = some u:=by
   have:items.toList[i]? = some u:=by
    have:=congrArg (λl=>l[0]?) hd
    simpa using this
   simpa using this
  have hd':items.toList.drop (i+1)=us:=by
   have:=congrArg List.tail hd
   simpa using this
  refine Hb (show NU _ _ (Qt (.ref it) >>= _) _ _ _ from ?_)
  refine wpAny_bind (RY hit hl hx λh1 it1 k1=>?_)
  have hm1:oU knd led h1 S σ:=by
   obtain ⟨o,es,ep,t,ho,rest⟩:=hm
   exact ⟨o,es,ep,t,(k1.2 S n1).trans ho,rest⟩
  have hl1:h1.IsList l items:=by
   obtain ⟨o,e,c,n,dd⟩:=hl
   exact ⟨o,(k1.2 l n2).trans e,c,n,dd⟩
  dsimp only
  rw[NN] at hz
  unfold setAdd
  refine wpAny_bind <| wpAny_holding <| wpAny_holding (wpAny_bind (knd.pyHash hk ?_))
  refine DI hk (hs u NJ).1 (hs u NJ).2 hm1 (by omega) λh2 _ sb hm2=>?_
  refine wpAny_pure ⟨QP RR _,?_⟩
  refine ih ks (i+1) _ _ hd' P (λu hu=>hs u (NM _ hu)) ?_ ?_ hm2 ?_ λh' tk hm' kp=>?_
  ·obtain ⟨o,e,c,d⟩:=it1
   exact ⟨o,(sb.2 it (Pz n1)).trans e,c,d⟩
  ·obtain ⟨o,e,c,n,dd⟩:=hl1
   exact ⟨o,(sb.2 l n3).trans e,c,n,dd⟩
  ·by_cases q:k∈σ
   ·rw[if_pos q];omega
   ·rw[if_neg q,NW,PN];omega
  ·refine h h' tk hm' λb o b1 b2 e=>kp b o b1 b2 ?_
   rw[sb.2 b b2,k1.2 b b1]
   exact e
end
section
variable {prog:NR} {w:N6} {κ:Type} [DecidableEq κ] {knd:SN prog w κ}
theorem pI {A:N7}{E:NC->ND->Prop}{s:ND}{l:Addr}{o:Obj}{items:Array NC}{k:Nat}{ks:List κ}{Q:NC->ND->Prop}(hA:A.handled=none)
  (hx:s.heap.get? l=some o) (hc:o.cls=.type "list") (hdat:o.data=.seq items k) (P:UN knd ks items.toList) (hs:∀ u∈items.toList,u.scannable=true/\SD 8 u=pure false) (hz:ks.length+1 < scanBound)
  (h:∀ h' tk,oU knd (!w.params.followText "set-order") h' s.heap.objs.size (ddS [] ks)->(∀ b o,s.heap.get? b=some o->h'.get? b=some o)->Q (.ref s.heap.objs.size) { s with heap:=h',toks:=tk }) :
  NU (N3 prog w) A (Rg (RW "set") [.ref l]) Q E s:=by
 refine sX (Q₁:=λobj s₁=>obj=.ref s.heap.objs.size/\s₁={ s with heap:=s.heap.push { cls:=.type "set", data:=.set #[] 0 (OE 0 0 !w.params.followText "set-order") } }) F.called_set (F.typeCall_set_1 _) F.entry_set_init (pQ _ ⟨rfl,rfl⟩) ?_
 rintro obj s₁ ⟨rfl,rfl⟩
 generalize Nz:(!w.params.followText "set-order")=led at *
 have AY:(s.heap.push { cls:=.type "set", data:=.set #[] 0 (OE 0 0 led) }).get? s.heap.objs.size=some { cls:=.type "set", data:=.set #[] 0 (OE 0 0 led) }:=NT _ rfl
 have fit:(OE 0 0 led).fits (#[]:Array (Int×NC)).size=true:=by cases led<;>decide
 have MZ:oU knd led (s.heap.push { cls:=.type "set", data:=.set #[] 0 (OE 0 0 led) }) s.heap.objs.size []:=⟨_,_,_,_,AY,⟨rfl,rfl,rfl⟩,rfl,λe he=>by simp at he,λk=>by simp,by decide,fit,rfl,rfl,.inl rfl⟩
 have ty:Tg { s with heap:=s.heap.push { cls:=.type "set", data:=.set #[] 0 (OE 0 0 led) } } (.ref s.heap.objs.size) "set" := ⟨_,AY,rfl⟩
 have hx1:(s.heap.push { cls:=.type "set", data:=.set #[] 0 (OE 0 0 led) }).get? l=some o:=NF _ hx
 have ll:l < s.heap.objs.size:=NP hx
 refine ⟨ty,λA' E' R' hR=>check_set_init_1 ty hR,?_⟩
 unfold Qh.«set.__init__»
 refine wpAny_bind (wpAny_pure ?_)
 show NU _ _ (typeNameOfCut 200 (.ref s.heap.objs.size) >>= _) _ _ _
 refine wpAny_bind ?_
 unfold typeNameOfCut
 refine wpAny_bind ?_
 unfold shownTypeOf
 refine wpAny_bind (wpAny_typeOf ty ?_)
 rw[if_neg (by decide)]
 refine wpAny_pure ?_
 show NU _ _ (typeNameCut 200 (.type "set")) _ _ _
 refine wpAny_pure ?_
 refine wpAny_bind (wpAny_pure ?_)
 refine wpAny_bind (wpAny_pure ?_)
 refine wpAny_bind ?_
 unfold setUsed
 refine wpAny_bind (OU AY rfl fit (wpAny_pure ?_))
 rw[if_neg (by cases led<;>decide)]
 dsimp only
 refine wpAny_bind ?_
 unfold Uy UY
 have tl:Tg { s with heap:=s.heap.push { cls:=.type "set", data:=.set #[] 0 (OE 0 0 led) } } (.ref l) "list" := ⟨o,hx1,hc⟩
 refine wpAny_bind (wpAny_bind (P6 tl F.sub_list_set ?_))
 show NU _ _ (isInstance (.ref l) (.type "frozenset")) _ _ _
 refine P6 tl F.sub_list_frozenset ?_
 rw[if_neg (by decide)]
 refine wpAny_bind (wpAny_typeOf tl ?_)
 rw[if_neg (by decide)]
 have hl2:(s.heap.push { cls:=.type "set", data:=.set #[] 0 (OE 0 0 led) }).IsList l items:=⟨o,hx1,hc,k,hdat⟩
 refine wpAny_bind (Rt hl2 (wpAny_bind (wpAny_runValue ?_)))
 have lt1:s.heap.objs.size < (s.heap.push { cls:=.type "set", data:=.set #[] 0 (OE 0 0 led) }).objs.size:=NP AY
 refine C3 (A:=A.in1.in1) (knd:=knd) (led:=led) (S:=s.heap.objs.size) (it:=(s.heap.push { cls:=.type "set", data:=.set #[] 0 (OE 0 0 led) }).objs.size) (l:=l) (items:=items) hA (NY lt1) (NY (Qy ll lt1)) (NY ll) items.toList ks 0 [] _ rfl P hs ?_ ?_ ?_ (by simpa using hz) ?_
 ·exact ⟨_,NT _ rfl,rfl,rfl⟩
 ·exact ⟨o,NF _ hx1,hc,k,hdat⟩
 ·obtain ⟨o',es,ep,t,ho,rest⟩:=MZ
  exact ⟨o',es,ep,t,NF _ ho,rest⟩
 ·intro h' tk hm' kp'
  refine wpAny_pure (wpAny_pure ⟨rfl,h h' tk hm' λb o q=>?_⟩)
  have hb:b < s.heap.objs.size:=NP q
  exact kp' b o (NY (Qy hb lt1)) (NY hb) (NF _ (NF _ q))
end
end
section
open PySem PySem.Spec PyProof PyProof.Rows L2
theorem wp_choose {M:UG}{A:N7}{E:NC->ND->Prop}{s:ND}{src:Source}{n:Nat}{Q:Nat->ND->Prop}(hn:n≠0)(h:∀ i d,i < n->Q i { s with drawn:=d }):NU M A (choose src n) Q E s:=by
 intro Γ p hΓ
 unfold choose Sem.wp
 refine ⟨hn,?_⟩
 exact wpAny_pure (M:=M) (A:=A) (E:=E) (h _ _ (Nat.mod_lt _ (Nat.pos_of_ne_zero hn))) Γ p hΓ
theorem vB {α:Type}:∀ (l:List α) (i:Nat) (h:i < l.length),(l[i]::l.eraseIdx i).Perm l:=by
 intro l
 induction l with
 | nil=>intro i h;cases h
 | cons a r ih=>
  intro i h
  cases i with
  | zero=>exact .refl _
  | succ i=>exact (List.Perm.swap ..).trans ((ih i (by simpa using h)).cons a)
theorem tJ {M:UG}{A:N7}{E:NC->ND->Prop}{α:Type}:∀ (n:Nat) (xs:List α) (s:ND) (Q:List α->ND->Prop),xs.length=n->(∀ ys d,ys.Perm xs->Q ys { s with drawn:=d })->NU M A (drawOrder n xs) Q E s:=by
 intro n
 induction n with
 | zero=>
  intro xs s Q hl h
  have:xs=[]:=PF hl
  subst this
  exact wpAny_pure (h [] s.drawn (.refl _))
 | succ n ih=>
  intro xs s Q hl h
  cases xs with
  | nil=>cases hl
  | cons x r=>
  show NU M A (choose Source.order (x::r).length >>= _) Q E s
  refine wpAny_bind (wp_choose (by simp) λi d hi=>?_)
  rw[Oc hi]
  refine wpAny_bind (ih _ _ _ (by rw[SE,if_pos hi];omega) λys d' pm=>wpAny_pure ?_)
  exact h _ d' (((pm.cons _).trans (vB _ _ hi)))
theorem Es {α:Type}(next:Nat->Nat):∀ (n k:Nat) (left:List α) (out:Array α),left.length=n->(T3 next n k left out).toList.Perm (out.toList++left):=by
 intro n
 induction n with
 | zero=>
  intro k left out hl
  have:left=[]:=PF hl
  subst this
  rw[OI]
  exact .refl _
 | succ n ih=>
  intro k left out hl
  have hi:next k % left.length < left.length:=Nat.mod_lt _ (by omega)
  have e:T3 next (n+1) k left out=T3 next n (k+1) (left.eraseIdx (next k % left.length)) (out.push left[next k % left.length]):=by
   show (match left[next k % left.length]? with | some x=>_ | none=>_)=_
   rw[Oc hi]
  rw[e]
  refine (ih _ _ _ (by rw[SE,if_pos hi];omega)).trans ?_
  rw[Array.toList_push,Pw]
  exact List.Perm.append_left _ (vB _ _ hi)
theorem iR {α:Type}(next:Nat->Nat)(xs:Array α):(Qq next xs).toList.Perm xs.toList:=by
 have:=Es next xs.size 0 xs.toList #[] (by simp)
 unfold Qq
 simpa using this
theorem rA:UX table "set.__iter__" = some Qh.«frozenset.__iter__»:=entryFor_alias (id' := "frozenset.__iter__") (by kernel_rfl) rfl (by decide +kernel) (by kernel_rfl)
theorem dD:UX table "set_iterator.__next__" = some Qh.«set_iterator.__next__»:=entryFor_of_fast (by kernel_rfl)
theorem zt:Manifest.owners.lookup (String.ofList "rotareti_tes".toList.reverse)=some Manifest.sig_set_iterator:=by kernel_rfl
theorem bY:Slot "set_iterator" "__next__" "set_iterator.__next__" :=
 Slot.of (T := "set_iterator") (owner := "set_iterator") (n := "__next__") (by (rw[typeLookup_type,Sm]);kernel_rfl) (by decide +kernel) (by decide +kernel) (by decide +kernel) (by first | exact .inl (by decide +kernel) | exact .inr (by decide +kernel)) (by (rw[isSubtype_type]);kernel_rfl)
theorem iu (a:NC):argsOk "set_iterator.__next__" ⟨[a],[]⟩:=by
 unfold argsOk
 rw[signature?_of (id := "set_iterator.__next__") (n := "__txen__".toList) (o := "rotareti_tes".toList) (by kernel_rfl) zt]
 kernel_rfl
theorem j3 {M:UG}{A:N7}{E:NC->ND->Prop}{s:ND}{ty:String}{vs:List NC}{Q:NC->ND->Prop}(hz:vs.length<=10)(h:Q (.ref s.heap.objs.size) { s with heap:=s.heap.push { cls:=.type ty,data:=.fields vs.toArray } }):NU M A (newFields ty vs) Q E s:=by
 unfold newFields newObj
 dsimp only
 rw[if_neg (by rw[NS,QS];omega)]
 exact wpAny_bind (wpAny_alloc (wpAny_pure h))
end
section
open PySem PySem.Spec PyProof PyProof.Rows L2
def SIt (h:Heap)(it S:Addr)(first:NC)(i n ep:Nat):Prop:=∃ o,h.get? it=some o/\o.cls=.type "set_iterator" /\ o.data=.fields #[first,.int i 0,.ref S,.int n 0,.int ep 0]
theorem As {prog:NR}{w:N6}{A:N7}{E:NC->ND->Prop}{s:ND}{it S tp:Addr}{i n ep:Nat}{o ot:Obj}{es:Array (Int×NC)}{t:OT}{pl:List Nat}{kt j:Nat}{y:Int×NC}{Q:Option NC->ND->Prop}
  (hit:SIt s.heap it S (.ref tp) i n ep) (ho:s.heap.get? S=some o) (hd:o.data=.set es ep t) (ft:t.fits es.size=true) (hn:es.size=n)
  (ht:s.heap.get? tp=some ot) (hc:ot.cls=.type "tuple") (hdt:ot.data=.seq (pl.map λj:Nat=>Qa j).toArray kt) (hj:pl[i]? = some j) (hy:es[j]? = some y)
  (h:∀ h',SIt h' it S (.ref tp) (i+1) n ep->Pr it s.heap h'->Q (some y.2) { s with heap:=h' }):NU (N3 prog w) A (Qt (.ref it)) Q E s:=by
 obtain ⟨oi,e1,e2,e3⟩:=hit
 have ty:s.TypeIs (.ref it) "set_iterator" := ⟨oi,e1,e2⟩
 unfold Qt
 refine wpAny_bind (QR (OH (name := "__next__") ty bY (OK bY ty dD ?_ (iu _))))
 unfold Qh.«set_iterator.__next__»
 refine wpAny_bind (wpAny_pure (wpAny_bind (Qz e1 e3 ?_)))
 dsimp only
 refine wpAny_bind (O8 ho hd ft ?_)
 rw[if_neg (by rw[hn];simp)]
 refine wpAny_bind (wpAny_seqItems ht hdt ?_)
 have ep':((pl.map λj:Nat=>Qa j).toArray)[((i:Nat):Int).toNat]? = some (.int (j:Int) 0):=by
  rw[Ox,So,OF,hj]
  rfl
 dsimp only
 rw[ep']
 dsimp only
 unfold setNextDrawn
 refine wpAny_bind (wpAny_bind (OU ho hd ft ?_))
 dsimp only
 rw[if_neg (by simp),Ox,hy]
 refine wpAny_pure ?_
 refine wpAny_bind (Ph e1 e3 (by simp) (wpAny_pure ⟨_,rfl,wpAny_pure (h _ ?_ (OO ..))⟩))
 exact ⟨_,Om _ e1 (OZ (Oa e3 _)),(PU ..).trans e2,by rw[Oa e3];simp[Qa]⟩
theorem fX {prog:NR}{w:N6}{A:N7}{E:NC->ND->Prop}{s:ND}{Q:Bool->ND->Prop}(h:Q (w.params.followText "set-order") s):NU (N3 prog w) A setsByText Q E s:=wpAny_bind (wpAny_askSetting (wpAny_pure h))
theorem j4 {prog:NR}{w:N6}{A:N7}{E:NC->ND->Prop}{s:ND}{S:Addr}{o:Obj}{es:Array (Int×NC)}{ep:Nat}{t:OT}{Q:Array (Int×NC)->ND->Prop}(bt:w.params.followText "set-order" = true)(ho:s.heap.get? S=some o)(hd:o.data=.set es ep t)(ft:t.fits es.size=true)
  (h:Q (Qq (w.params.setOrder S ep) es) s):NU (N3 prog w) A (setWalk S) Q E s:=by
 unfold setWalk
 refine wpAny_bind (OU ho hd ft (wpAny_bind (fX ?_)))
 rw[if_pos bt]
 exact wpAny_bind <| wpAny_askSetting <| wpAny_pure h
theorem Bo {prog:NR}{w:N6}{A:N7}{E:NC->ND->Prop}{s:ND}{it S:Addr}{i n ep:Nat}{o:Obj}{es:Array (Int×NC)}{t:OT}{y:Int×NC}{Q:Option NC->ND->Prop}(bt:w.params.followText "set-order" = true)
  (hit:SIt s.heap it S (.int 0 0) i n ep) (ho:s.heap.get? S=some o) (hd:o.data=.set es ep t) (ft:t.fits es.size=true) (hn:es.size=n) (hy:(Qq (w.params.setOrder S ep) es)[i]? = some y)
  (h:∀ h',SIt h' it S (.int 0 0) (i+1) n ep->Pr it s.heap h'->Q (some y.2) { s with heap:=h' }):NU (N3 prog w) A (Qt (.ref it)) Q E s:=by
 obtain ⟨oi,e1,e2,e3⟩:=hit
 have ty:s.TypeIs (.ref it) "set_iterator" := ⟨oi,e1,e2⟩
 unfold Qt
 refine wpAny_bind (QR (OH (name := "__next__") ty bY (OK bY ty dD ?_ (iu _))))
 unfold Qh.«set_iterator.__next__»
 refine wpAny_bind (wpAny_pure (wpAny_bind (Qz e1 e3 ?_)))
 dsimp only
 refine wpAny_bind (O8 ho hd ft ?_)
 rw[if_neg (by rw[hn];simp)]
 refine wpAny_bind ?_
 unfold SO
 refine wpAny_bind (OU ho hd ft (wpAny_bind (fX ?_)))
 rw[if_pos bt]
 dsimp only
 rw[if_neg (by simp)]
 refine wpAny_bind (j4 bt ho hd ft (wpAny_pure ?_))
 rw[Ox,hy]
 refine (show NU _ _ (setField (.ref it) 0 (Qa ((0:Nat):Int)) >>= _) _ _ _ from ?_)
 have g1:=Om (λo=>Pc (·.setIfInBounds 0 (Qa ((0:Nat):Int))) o) e1 (OZ (Oa e3 _))
 refine wpAny_bind (Ph e1 e3 (by simp) ?_)
 refine wpAny_bind (Ph g1 (Oa e3 _) (by simp) (wpAny_pure ⟨_,rfl,wpAny_pure (h _ ?_ ((OO ..).trans (OO ..)))⟩))
 refine ⟨_,Om _ g1 (OZ (Oa (Oa e3 _) _)),(PU ..).trans ((PU ..).trans e2),?_⟩
 rw[Oa (Oa e3 _)]
 simp[Qa]
end
section
open PySem PySem.Spec PyProof PyProof.Rows L2
theorem uk {prog:NR}{w:N6}{A:N7}{E:NC->ND->Prop}{s:ND}{Q:Option NC->ND->Prop}{R:PySem.Fin->ND->Prop}(hA:A.handled=none)
  (h:∀ h',(∀ b o,s.heap.get? b=some o->h'.get? b=some o)->Q none { s with heap:=h' }) :
  NU (N3 prog w) A.in1 (newExc (.type "StopIteration") [] >>= λe=>(raiseNew e:Sem PySem.Fin)) R (λe s'=>NU (N3 prog w) A (isInstance e (.type "StopIteration") >>= λb=>if b=true then pure none else throw e) Q E s') s:=by
 refine wpAny_bind ?_
 simp only[newExc,newTuple]
 refine wpAny_bind <| (λq=>OS q (by size_fits)) ?_
 refine wpAny_bind (m:=firstArgMember _ _) (P0 (a:=Pe) (by first | rfl | (simp only[firstArgMember];rfl)) (OS ?_ (by size_fits)))
 simp only[raiseNew]
 refine wpAny_bind <| wpAny_handled ?_
 have hA':A.in1.handled=none:=hA
 rw[hA']
 refine wpAny_bind <| wpAny_pure <| wpAny_throw ?_
 refine wpAny_bind (P6 (b:=true) (show Tg _ _ "StopIteration" from ⟨_,NT _ rfl,rfl⟩) isSubtype_stop ?_)
 exact wpAny_pure (h _ λb o e=>NF _ (NF _ e))
theorem p8 {prog:NR}{w:N6}{A:N7}{E:NC->ND->Prop}{s:ND}{it S tp:Addr}{i n ep:Nat}{o ot:Obj}{es:Array (Int×NC)}{t:OT}{pl:List Nat}{kt:Nat}{Q:Option NC->ND->Prop}(hA:A.handled=none)
  (hit:SIt s.heap it S (.ref tp) i n ep) (ho:s.heap.get? S=some o) (hd:o.data=.set es ep t) (ft:t.fits es.size=true) (hn:es.size=n)
  (ht:s.heap.get? tp=some ot) (hc:ot.cls=.type "tuple") (hdt:ot.data=.seq (pl.map λj:Nat=>Qa j).toArray kt) (hj:pl[i]? = none)
  (h:∀ h',Vn it s.heap h'->Q none { s with heap:=h' }):NU (N3 prog w) A (Qt (.ref it)) Q E s:=by
 obtain ⟨oi,e1,e2,e3⟩:=hit
 have ty:s.TypeIs (.ref it) "set_iterator" := ⟨oi,e1,e2⟩
 unfold Qt
 refine wpAny_bind (QR (OH (name := "__next__") ty bY (OK bY ty dD ?_ (iu _))))
 unfold Qh.«set_iterator.__next__»
 refine wpAny_bind (wpAny_pure (wpAny_bind (Qz e1 e3 ?_)))
 dsimp only
 refine wpAny_bind (O8 ho hd ft ?_)
 rw[if_neg (by rw[hn];simp)]
 refine wpAny_bind (wpAny_seqItems ht hdt ?_)
 have ep':((pl.map λj:Nat=>Qa j).toArray)[((i:Nat):Int).toNat]? = none:=by
  rw[Ox,So,OF,hj]
  rfl
 dsimp only
 rw[ep']
 have g1:=Om (λo=>Pc (·.setIfInBounds 0 (Qa 0)) o) e1 (OZ (Oa e3 _))
 refine wpAny_bind (Ph e1 e3 (by simp) (wpAny_bind (Ph g1 (Oa e3 _) (by simp) ?_)))
 dsimp only
 have kpH:∀ b o,b≠it->s.heap.get? b=some o->((s.heap.update it (Pc λx=>x.setIfInBounds 0 (Qa 0))).update it (Pc λx=>x.setIfInBounds 2 Pe)).get? b=some o:=λb o hb e=>by
  rw[Oi _ _ (Pz hb),Oi _ _ (Pz hb)]
  exact e
 generalize (s.heap.update it (Pc λx=>x.setIfInBounds 0 (Qa 0))).update it (Pc λx=>x.setIfInBounds 2 Pe)=H at kpH ⊢
 exact uk (s:=⟨H,s.gens,s.drawn,s.toks,s.os⟩) hA λh' kp=>h h' λb o hb e=>kp b o (kpH b o hb e)
theorem uS {prog:NR}{w:N6}{A:N7}{E:NC->ND->Prop}{s:ND}{it S:Addr}{sl:Int}{i n ep:Nat}{o:Obj}{es:Array (Int×NC)}{t:OT}{Q:Option NC->ND->Prop}(hA:A.handled=none)
  (hit:SIt s.heap it S (.int sl 0) i n ep) (ho:s.heap.get? S=some o) (hd:o.data=.set es ep t) (ft:t.fits es.size=true) (hn:es.size=n)
  (hx:∀ (E':NC->ND->Prop) (R:Option (NC×Nat)->ND->Prop),R none s->NU (N3 prog w) A.in1 (SO S sl.toNat ((i:Nat):Int).toNat ((ep:Nat):Int).toNat) R E' s)
  (h:∀ h',Vn it s.heap h'->Q none { s with heap:=h' }):NU (N3 prog w) A (Qt (.ref it)) Q E s:=by
 obtain ⟨oi,e1,e2,e3⟩:=hit
 have ty:s.TypeIs (.ref it) "set_iterator" := ⟨oi,e1,e2⟩
 unfold Qt
 refine wpAny_bind (QR (OH (name := "__next__") ty bY (OK bY ty dD ?_ (iu _))))
 unfold Qh.«set_iterator.__next__»
 refine wpAny_bind (wpAny_pure (wpAny_bind (Qz e1 e3 ?_)))
 dsimp only
 refine wpAny_bind (O8 ho hd ft ?_)
 rw[if_neg (by rw[hn];simp)]
 refine wpAny_bind (hx _ _ ?_)
 dsimp only
 refine wpAny_bind (Ph e1 e3 (by simp) ?_)
 have kpH:∀ b o,b≠it->s.heap.get? b=some o->(s.heap.update it (Pc λx=>x.setIfInBounds 2 Pe)).get? b=some o:=λb o hb e=>by
  rw[Oi _ _ (Pz hb)]
  exact e
 generalize s.heap.update it (Pc λx=>x.setIfInBounds 2 Pe)=H at kpH ⊢
 exact uk (s:=⟨H,s.gens,s.drawn,s.toks,s.os⟩) hA λh' kp=>h h' λb o hb e=>kp b o (kpH b o hb e)
theorem pY {prog:NR}{w:N6}{A:N7}{E:NC->ND->Prop}{s:ND}{S:Addr}{sl i ep:Nat}{o:Obj}{es:Array (Int×NC)}{t:OT}{Q:Option (NC×Nat)->ND->Prop}(bt:w.params.followText "set-order" = true)
  (ho:s.heap.get? S=some o) (hd:o.data=.set es ep t) (ft:t.fits es.size=true) (hi:es.size<=i) (h:Q none s):NU (N3 prog w) A (SO S sl i ep) Q E s:=by
 unfold SO
 refine wpAny_bind (OU ho hd ft (wpAny_bind (fX ?_)))
 rw[if_pos bt]
 dsimp only
 rw[if_neg (by simp)]
 refine wpAny_bind (j4 bt ho hd ft (wpAny_pure ?_))
 have:(Qq (w.params.setOrder S ep) es)[i]? = none:=by
  have pm:=(iR (w.params.setOrder S ep) es).length_eq
  rw[Ri]
  simp only[OM] at pm
  omega
 rw[this]
 exact h
theorem FK (j:Nat):OV #[j] 0=0:=by
 unfold OV
 simp[T4]
theorem below_1 (j:Nat):OV #[j] (j+1)=1:=by
 unfold OV
 simp[T4]
theorem vy {prog:NR}{w:N6}{A:N7}{E:NC->ND->Prop}{s:ND}{S:Addr}{sl i ep:Nat}{o:Obj}{es:Array (Int×NC)}{t:OT}{Q:Option (NC×Nat)->ND->Prop}(bt:w.params.followText "set-order" = false)
  (ho:s.heap.get? S=some o) (hd:o.data=.set es ep t) (ft:t.fits es.size=true) (ld:t.led=true) (hz:es.size<=1) (h:Q (match es[OV t.place sl]?,t.place[OV t.place sl]? with | some (_,x),some j=>some (x,j+1) | _,_=>none) s):NU (N3 prog w) A (SO S sl i ep) Q E s:=by
 unfold SO
 refine wpAny_bind (OU ho hd ft (wpAny_bind (fX ?_)))
 rw[if_neg (by rw[bt];simp)]
 dsimp only
 refine (show NU _ _ (if ((!t.plain)&&decide (es.size > 1))=true then _ else _) _ _ _ from ?_)
 rw[if_neg (by simp;omega)]
 refine wpAny_bind ?_
 refine (show NU _ _ (if (!t.led && !es.isEmpty)=true then _ else pure ()) _ _ _ from ?_)
 rw[if_neg (by rw[ld];simp)]
 exact wpAny_pure <| wpAny_pure h
end
section
open PySem PySem.Spec PyProof PyProof.Rows L2
theorem D4 {prog:NR}{w:N6}{A:N7}{E:NC->ND->Prop}{s:ND}{it S:Addr}{sl:Int}{i n ep nx:Nat}{o:Obj}{es:Array (Int×NC)}{t:OT}{v:NC}{Q:Option NC->ND->Prop}
  (hit:SIt s.heap it S (.int sl 0) i n ep) (ho:s.heap.get? S=some o) (hd:o.data=.set es ep t) (ft:t.fits es.size=true) (hn:es.size=n)
  (hx:∀ (E':NC->ND->Prop) (R:Option (NC×Nat)->ND->Prop),R (some (v,nx)) s->NU (N3 prog w) A.in1 (SO S sl.toNat ((i:Nat):Int).toNat ((ep:Nat):Int).toNat) R E' s)
  (h:∀ h',SIt h' it S (.int nx 0) (i+1) n ep->Pr it s.heap h'->Q (some v) { s with heap:=h' }):NU (N3 prog w) A (Qt (.ref it)) Q E s:=by
 obtain ⟨oi,e1,e2,e3⟩:=hit
 have ty:s.TypeIs (.ref it) "set_iterator" := ⟨oi,e1,e2⟩
 unfold Qt
 refine wpAny_bind (QR (OH (name := "__next__") ty bY (OK bY ty dD ?_ (iu _))))
 unfold Qh.«set_iterator.__next__»
 refine wpAny_bind (wpAny_pure (wpAny_bind (Qz e1 e3 ?_)))
 dsimp only
 refine wpAny_bind (O8 ho hd ft ?_)
 rw[if_neg (by rw[hn];simp)]
 refine wpAny_bind (hx _ _ ?_)
 dsimp only
 have g1:=Om (λo=>Pc (·.setIfInBounds 0 (Qa (nx:Int))) o) e1 (OZ (Oa e3 _))
 refine wpAny_bind (Ph e1 e3 (by simp) ?_)
 refine wpAny_bind (Ph g1 (Oa e3 _) (by simp) (wpAny_pure ⟨_,rfl,wpAny_pure (h _ ?_ ((OO ..).trans (OO ..)))⟩))
 refine ⟨_,Om _ g1 (OZ (Oa (Oa e3 _) _)),(PU ..).trans ((PU ..).trans e2),?_⟩
 rw[Oa (Oa e3 _)]
 simp[Qa]
theorem BU {prog:NR}{w:N6}{A:N7}{E:NC->ND->Prop}{s:ND}{S:Addr}{o:Obj}{es:Array (Int×NC)}{ep:Nat}{t:OT}{Q:NC->ND->Prop}(ho:s.heap.get? S=some o)(hc:o.cls=.type "set")(hd:o.data=.set es ep t)(ft:t.fits es.size=true)(zs:es.size<=sizeLine)
  (h0:(w.params.followText "set-order" = true∨t.plain=true∨es.size<=1)->Q (.ref s.heap.objs.size) { s with heap:=s.heap.push { cls:=.type "set_iterator", data:=.fields #[.int 0 0,.int 0 0,.ref S,.int es.size 0,.int ep 0] } })
  (h1:w.params.followText "set-order" = false->∀ (pl:List Nat) d,pl.Perm (OR es.size)->∀ g,g=s.heap.push { cls:=.type "tuple", data:=.seq (pl.map λj:Nat=>Qa j).toArray }->Q (.ref g.objs.size) { s with heap:=g.push { cls:=.type "set_iterator", data:=.fields #[.ref s.heap.objs.size,.int 0 0,.ref S,.int es.size 0,.int ep 0] },drawn:=d }) :
  NU (N3 prog w) A (Uc (.ref S)) Q E s:=by
 have ty:s.TypeIs (.ref S) "set" := ⟨o,ho,hc⟩
 refine T5 ty Uz (OK Uz ty rA ?_ (F.args_set_iter_1 _))
 unfold Qh.«frozenset.__iter__»
 refine wpAny_bind ?_
 unfold Va
 refine wpAny_bind <| wpAny_pure <| wpAny_pure ?_
 refine wpAny_bind ?_
 unfold U5
 refine wpAny_bind (O8 ho hd ft (wpAny_pure ?_))
 refine wpAny_bind ?_
 unfold setDrawn
 refine wpAny_bind (OU ho hd ft (wpAny_bind (fX (wpAny_pure ?_))))
 dsimp only
 refine (show NU _ _ (if (!w.params.followText "set-order" && ((!t.plain)&&decide (es.size > 1)))=true then _ else _) _ _ _ from ?_)
 by_cases q:(!w.params.followText "set-order" && ((!t.plain)&&decide (es.size > 1)))=true
 ·rw[if_pos q]
  have bt:w.params.followText "set-order" = false:=by
   simp only[NO,Bool.not_eq_true'] at q
   exact q.1
  refine wpAny_bind (tJ _ _ _ _ (by simp) λpl d pm=>wpAny_bind (wpAny_newTuple ?_ (by rw[NK,pm.length_eq,QA];exact zs)))
  refine wpAny_bind (T6 (NF _ ho) hd ft ?_)
  refine wpAny_bind (j3 (by simp) (wpAny_pure ⟨_,rfl, "set_iterator", _,⟨_,NT _ rfl,rfl⟩,bY.lookup,h1 bt pl d pm _ rfl⟩))
 ·rw[if_neg q]
  refine wpAny_bind (wpAny_pure (wpAny_bind (T6 ho hd ft ?_)))
  refine wpAny_bind (j3 (by simp) (wpAny_pure ⟨_,rfl, "set_iterator", _,⟨_,NT _ rfl,rfl⟩,bY.lookup,h0 ?_⟩))
  by_cases b1:w.params.followText "set-order" = true
  ·exact .inl b1
  ·by_cases b2:t.plain=true
   ·exact .inr (.inl b2)
   ·refine .inr (.inr ?_)
    by_cases b3:es.size<=1
    ·exact b3
    ·exact absurd (by simp[b1,b2];omega) q
end
section
open PySem PySem.Spec PyProof PyProof.Rows L2
theorem sk:UX table "set_iterator.__iter__" = some Qh.«dict_keyiterator.__iter__»:=entryFor_alias (id' := "dict_keyiterator.__iter__") (by kernel_rfl) rfl (by decide +kernel) (by kernel_rfl)
theorem nA:Slot "set_iterator" "__iter__" "set_iterator.__iter__" :=
 Slot.of (T := "set_iterator") (owner := "set_iterator") (n := "__iter__") (by (rw[typeLookup_type,Sm]);kernel_rfl) (by decide +kernel) (by decide +kernel) (by decide +kernel) (by first | exact .inl (by decide +kernel) | exact .inr (by decide +kernel)) (by (rw[isSubtype_type]);kernel_rfl)
theorem xk (a:NC):argsOk "set_iterator.__iter__" ⟨[a],[]⟩:=by
 unfold argsOk
 rw[signature?_of (id := "set_iterator.__iter__") (n := "__reti__".toList) (o := "rotareti_tes".toList) (by kernel_rfl) zt]
 kernel_rfl
theorem nZ {prog:NR}{w:N6}{A:N7}{E:NC->ND->Prop}{s:ND}{it S:Addr}{v:NC}{i n ep:Nat}{Q:NC->ND->Prop}(hit:SIt s.heap it S v i n ep)(h:Q (.ref it) s):NU (N3 prog w) A (Uc (.ref it)) Q E s:=by
 obtain ⟨o,e1,e2,e3⟩:=hit
 have ty:s.TypeIs (.ref it) "set_iterator" := ⟨o,e1,e2⟩
 refine T5 ty nA (OK nA ty sk (show NU _ _ (ret (.ref it)) _ _ s from ?_) (xk _))
 exact wpAny_pure ⟨_,rfl,_,_,ty,bY.lookup,h⟩
theorem uz {prog:NR}{w:N6}{A:N7}(hA:A.handled=none){I S tp:Addr}{n ep:Nat}{o ot:Obj}{es:Array (Int×NC)}{t:OT}{pl:List Nat}{kt:Nat}(n1:S≠I)(n2:tp≠I)
  (hd:o.data=.set es ep t) (ft:t.fits es.size=true) (hn:es.size=n) (hc:ot.cls=.type "tuple") (hdt:ot.data=.seq (pl.map λj:Nat=>Qa j).toArray kt) (pm:pl.Perm (OR n)) :
  Walks prog w A I [I,S,tp] [I] n (λi v=>∃ j y,pl[i]? = some j/\es[j]? = some y/\v=y.2) (λi h=>SIt h I S (.ref tp) i n ep/\h.get? S=some o/\h.get? tp=some ot) where
 sub:=λb hb=>by simp at hb;subst hb;simp
 frame:=λi h h' ⟨⟨oi,e1,e2,e3⟩,e4,e5⟩ k=>⟨⟨oi,k I (by simp) _ e1,e2,e3⟩,k S (by simp) _ e4,k tp (by simp) _ e5⟩
 item:=λi s Q E hi ⟨hit,e4,e5⟩ hQ=>by
  have hl:pl.length=n:=by rw[pm.length_eq,QA]
  have hj:pl[i]? = some pl[i]:=Oc (by omega)
  have hb:pl[i] < n:=PB.mp (pm.mem_iff.mp (RP (by omega)))
  have hy:es[pl[i]]? = some es[pl[i]]:=Oh (by omega)
  refine As hit e4 hd ft hn e5 hc hdt hj hy λh' hit' sb=>hQ _ h' s.toks ⟨_,_,hj,hy,rfl⟩ ⟨hit',(sb.2 S n1).trans e4,(sb.2 tp n2).trans e5⟩ λb o hb e=>(sb.2 b (by simpa using hb)).trans e
 done:=λs Q E ⟨hit,e4,e5⟩ hQ=>by
  have hl:pl.length=n:=by rw[pm.length_eq,QA]
  exact p8 hA hit e4 hd ft hn e5 hc hdt (QD (by omega)) λh' k=>hQ h' s.toks λb o hb e=>k b o (by simpa using hb) e
 self:=λi s Q E ⟨hit,_,_⟩ q=>nZ hit q
theorem xP {prog:NR}{w:N6}{A:N7}(hA:A.handled=none)(bt:w.params.followText "set-order" = true){I S:Addr}{n ep:Nat}{o:Obj}{es:Array (Int×NC)}{t:OT}(n1:S≠I)
  (hd:o.data=.set es ep t) (ft:t.fits es.size=true) (hn:es.size=n) :
  Walks prog w A I [I,S] [I] n (λi v=>∃ y,(Qq (w.params.setOrder S ep) es)[i]? = some y/\v=y.2) (λi h=>SIt h I S (.int 0 0) i n ep/\h.get? S=some o) where
 sub:=λb hb=>by simp at hb;subst hb;simp
 frame:=λi h h' ⟨⟨oi,e1,e2,e3⟩,e4⟩ k=>⟨⟨oi,k I (by simp) _ e1,e2,e3⟩,k S (by simp) _ e4⟩
 item:=λi s Q E hi ⟨hit,e4⟩ hQ=>by
  have hl:(Qq (w.params.setOrder S ep) es).size=n:=by
   have:=(iR (w.params.setOrder S ep) es).length_eq
   simp only[OM] at this
   omega
  have hy:(Qq (w.params.setOrder S ep) es)[i]? = some (Qq (w.params.setOrder S ep) es)[i]:=Oh (by omega)
  exact Bo bt hit e4 hd ft hn hy λh' hit' sb=>hQ _ h' s.toks ⟨_,hy,rfl⟩ ⟨hit',(sb.2 S n1).trans e4⟩ λb o hb e=>(sb.2 b (by simpa using hb)).trans e
 done:=λs Q E ⟨hit,e4⟩ hQ=>uS hA hit e4 hd ft hn (λE' R r=>by rw[Ox,Ox];exact pY bt e4 hd ft (by omega) r) λh' k=>hQ h' s.toks λb o hb e=>k b o (by simpa using hb) e
 self:=λi s Q E ⟨hit,_⟩ q=>nZ hit q
end
section
open PySem PySem.Spec PyProof PyProof.Rows L2
theorem zB {prog:NR}{w:N6}{A:N7}(hA:A.handled=none)(bt:w.params.followText "set-order" = false){I S:Addr}{n ep:Nat}{o:Obj}{es:Array (Int×NC)}{t:OT}(n1:S≠I)
  (hd:o.data=.set es ep t) (ft:t.fits es.size=true) (hn:es.size=n) (ld:t.led=true) (hz:es.size<=1) :
  Walks prog w A I [I,S] [I] n (λi v=>∃ y,es[i]? = some y/\v=y.2) (λi h=>SIt h I S (.int (if i=0 then 0 else ((t.place.getD 0 0+1:Nat):Int)) 0) i n ep/\h.get? S=some o) where
 sub:=λb hb=>by simp at hb;subst hb;simp
 frame:=λi h h' ⟨⟨oi,e1,e2,e3⟩,e4⟩ k=>⟨⟨oi,k I (by simp) _ e1,e2,e3⟩,k S (by simp) _ e4⟩
 item:=λi s Q E hi ⟨hit,e4⟩ hQ=>by
  have i0:i=0:=by omega
  subst i0
  have ps:t.place.size=1:=by
   have:=ft
   unfold U6 at this
   simp only[NO,beq_iff_eq] at this
   omega
  obtain ⟨j,ej⟩:∃ j,t.place = #[j]:=by
   refine ⟨t.place[0],?_⟩
   apply Array.ext
   ·simpa using ps
   ·intro k h1 h2
    have:k=0:=by omega
    subst this
    simp
  have hy:es[0]? = some es[0]:=Oh (by omega)
  rw[if_pos rfl] at hit
  refine D4 (v:=es[0].2) (nx:=j+1) hit e4 hd ft hn (λE' R r=>?_) λh' hit' sb=>hQ _ h' s.toks ⟨_,hy,rfl⟩ ⟨?_,(sb.2 S n1).trans e4⟩ λb o hb e=>(sb.2 b (by simpa using hb)).trans e
  ·rw[Ox]
   refine vy bt e4 hd ft ld hz ?_
   rw[ej]
   show R (match es[OV #[j] 0]?,(#[j]:Array Nat)[OV #[j] 0]? with | some (_,x),some j=>some (x,j+1) | _,_=>none) s
   rw[FK,hy]
   exact r
  ·rw[if_neg (by omega),ej]
   exact hit'
 done:=λs Q E ⟨hit,e4⟩ hQ=>by
  refine uS hA hit e4 hd ft hn (λE' R r=>?_) λh' k=>hQ h' s.toks λb o hb e=>k b o (by simpa using hb) e
  rw[Ox]
  refine vy bt e4 hd ft ld hz ?_
  have ps:t.place.size=n:=by
   have:=ft
   unfold U6 at this
   simp only[NO,beq_iff_eq] at this
   omega
  have:es[OV t.place (if n=0 then (0:Int) else ((t.place.getD 0 0+1:Nat):Int)).toNat]? = none:=by
   rw[Ri]
   by_cases z:n=0
   ·omega
   ·have z1:n=1:=by omega
    obtain ⟨j,ej⟩:∃ j,t.place = #[j]:=by
     refine ⟨t.place[0],?_⟩
     apply Array.ext
     ·show t.place.size=1;omega
     ·intro k h1 h2
      have:k=0:=by omega
      subst this
      simp
    rw[if_neg z,Ox,ej]
    show es.size<=OV #[j] (j+1)
    rw[below_1]
    omega
  rw[this]
  exact r
 self:=λi s Q E ⟨hit,_⟩ q=>nZ hit q
end
section
open PySem PySem.Spec PyProof PyProof.Rows L2
theorem BW {prog:NR}{w:N6}{A:N7}{E:NC->ND->Prop}{s:ND}{r:Addr}{Q:Bool->ND->Prop}(ty:s.TypeIs (.ref r) "set")(h:Q false s):NU (N3 prog w) A (Q4 (.ref r)) Q E s:=by
 unfold Q4 -- a set has its own len
 refine wpAny_bind (wpAny_specialOf ty PySem.F.slot_set_len.lookup ?_)
 generalize hid:("set.__len__" : String)=nm
 wp_delta
 rw[show splitId nm=some ("set", "__len__") by subst hid;decide +kernel]
 subst hid
 refine wpAny_bind (P6 (T := "set") (b:=true) ty sub_set_self ?_)
 refine Sj (λz=>absurd z (by decide)) λ_=>Sj (λ_=>?_) λz=>absurd (by decide +kernel) z
 exact wpAny_bind (wpAny_typeOf ty (wpAny_pure h))
theorem Ep {prog:NR}{w:N6}{A:N7}{R:UJ->ND->Prop}{s:ND}{L r:Addr}{res:NC}{c₀:Nat}{es:Array (Int×NC)}(hA:A.handled=none)(zs:es.size<=sizeLine)(ne:L≠r)
  (iter:∀ (E':NC->ND->Prop) (Q':NC->ND->Prop),(∀ (I:Addr) (h1:Heap) (d:Drawn) (fp:List Addr) (P:Nat->NC->Prop) (St:Nat->Heap->Prop),Walks prog w A.in1 I fp [I] es.size P St->St 0 h1->L ∉ fp->(∀ b o,s.heap.get? b=some o->b≠I/\h1.get? b=some o)->(∀ acc,ItemsOf P acc es.size->acc.toList.Perm (es.toList.map (·.2)))->Q' (.ref I) { s with heap:=h1,drawn:=d })->NU (N3 prog w) A.in1 (Uc (.ref r)) Q' E' s)
  (hr:∃ o,s.heap.get? r=some o/\o.cls=.type "set") (hL:s.heap.get? L=some { cls:=.type "list", data:=.seq #[] c₀ })
  (hR:∀ h' tk d acc c,(∀ b o,b≠L->s.heap.get? b=some o->h'.get? b=some o)->h'.get? L=some { cls:=.type "list", data:=.seq acc c }->acc.toList.Perm (es.toList.map (·.2))->R (.ok (.ret res)) { s with heap:=h',toks:=tk,drawn:=d }) :
  NU (N3 prog w) A.in1 (PV (.ref L) (.ref r) res) (λfin s'=>match fin with | .done f=>R (.ok f) s' | .again c'=>c'.quiet=true/\PR (N3 prog w) A c' R s') (λe s'=>R (.error e) s') s:=by
 obtain ⟨o,ho,hc⟩:=hr
 unfold PV -- neither a list nor a tuple
 refine wpAny_bind (wpAny_typeOf (T := "set") (show s.TypeIs (.ref r) "set" from ⟨o,ho,hc⟩) ?_)
 have h1:RG (.ref L) (.ref r)=false:=by simp[RG,ne]
 rw[if_neg (show ¬ _ by rw[h1];decide)]
 refine wpAny_bind (iter _ _ λI h1 d fp P St W st nf kp fin=>?_)
 have key:∀ (h:Heap) (c tk:Nat),St 0 h->(∀ b o,b≠L->s.heap.get? b=some o->h.get? b=some o)->h.get? L=some { cls:=.type "list", data:=.seq #[] c }->PR (N3 prog w) A (.builtin "list.extend.loop" ⟨[.ref L,.ref I,res],[]⟩) R { s with heap:=h,toks:=tk,drawn:=d }:=λh c tk s0 k0 l0=>by
  refine codeAny_extend_loopS W.toS zs L nf res es.size 0 _ #[] c rfl (Pb _) s0 l0 (ItemsOf.nil _) λs' acc' c' hm l1 it=>?_
  rw[Moved.eq_with hm]
  refine hR s'.heap s'.toks d acc' c' (λb o hb e=>hm.heap b o (λz=>?_) (k0 b o hb e)) l1 (fin acc' it)
  rcases N9.mp z with z | z
  ·exact hb z
  ·exact (kp b o e).1 (NZ.mp z)
 have hL1:=(kp L _ hL).2
 refine wpAny_bind (wpAny_holding (BW ⟨o,(kp r o ho).2,hc⟩ ?_))
 refine Sj (λ_=>?_) λ_=>wpAny_pure ⟨QP Rn _,key h1 c₀ _ st (λb o _ e=>(kp b o e).2) hL1⟩
 refine wpAny_bind <| wpAny_rule <| wpAny_bind (show NU _ _ (updateSeq L (·.push .none) >>= λ_=>updateSeq L (·.pop)) _ _ _ from ?_)
 have l2:=Om (PJ (·.push Pe)) hL1 rfl
 have l3:=Om (PJ (·.pop)) l2 rfl
 have kpL:∀ b o,b≠L->h1.get? b=some o->((h1.update L (PJ (·.push Pe))).update L (PJ (·.pop))).get? b=some o:=λb o hb e=>by
  rw[Oi _ _ (Pz hb),Oi _ _ (Pz hb)]
  exact e
 refine wpAny_bind <| wpAny_updateSeq hL1 rfl <| wpAny_updateSeq (hz:=by seq_fits) l2 rfl <| wpAny_pure ⟨QP Rn _,key _ _ _ (W.frame 0 _ _ st λb hb o e=>kpL b o (λz=>nf (z ▸ hb)) e) (λb o hb e=>kpL b o hb (kp b o e).2) l3⟩
end
section
open PySem PySem.Spec PyProof PyProof.Rows L2
theorem qM {xs:Array (Int×NC)}{acc:Array NC}{n:Nat}(hn:xs.size=n)(h:ItemsOf (λi v=>∃ y,xs[i]? = some y/\v=y.2) acc n):acc.toList=xs.toList.map (·.2):=by
 obtain ⟨h1,h2⟩:=h
 apply Ru
 intro i
 rw[OF,Pk,Pk]
 by_cases q:i < n
 ·have e:=Oh (xs:=acc) (i:=i) (by omega)
  obtain ⟨y,e1,e2⟩:=h2 i _ e
  rw[e,e1,e2]
  rfl
 ·rw[O9 (by omega),O9 (by omega)]
  rfl
theorem Bh {es:Array (Int×NC)}{acc:Array NC}{pl:List Nat}(pm:pl.Perm (OR es.size))(h:ItemsOf (λi v=>∃ j y,pl[i]? = some j/\es[j]? = some y/\v=y.2) acc es.size):acc.toList.Perm (es.toList.map (·.2)):=by
 obtain ⟨h1,h2⟩:=h
 have hl:pl.length=es.size:=by rw[pm.length_eq,QA]
 have e:acc.toList=pl.map λj=>(es[j]?.map (·.2)).getD .none:=by
  apply Ru
  intro i
  rw[OF,Pk]
  by_cases q:i < es.size
  ·have e:=Oh (xs:=acc) (i:=i) (by omega)
   obtain ⟨j,y,e0,e1,e2⟩:=h2 i _ e
   rw[e,e0,e2]
   simp[e1]
  ·rw[O9 (by omega),QD (by omega)]
   rfl
 rw[e]
 refine (pm.map _).trans ?_
 have:(OR es.size).map (λj=>(es[j]?.map (·.2)).getD Pe)=es.toList.map (·.2):=by
  apply Ru
  intro i
  rw[OF,OF,Pk (xs:=es)]
  by_cases q:i < es.size
  ·rw[List.getElem?_range q,Oh q]
   simp[q]
  ·rw[QD (by simpa using q),O9 (by omega)]
   rfl
 rw[this]
theorem Ia {prog:NR}{w:N6}{A:N7}(hA:A.handled=none){s:ND}{S L:Addr}{o:Obj}{es:Array (Int×NC)}{ep:Nat}{t:OT}(ho:s.heap.get? S=some o)(hc:o.cls=.type "set")(hd:o.data=.set es ep t)(ft:t.fits es.size=true)(zs:es.size<=sizeLine)
  (ld:t.led = !w.params.followText "set-order") (pl:es.size=0∨t.plain=false) (ne:L≠S) (hL:L < s.heap.objs.size) (E':NC->ND->Prop) (Q':NC->ND->Prop)
  (q:∀ (I:Addr) (h1:Heap) (d:Drawn) (fp:List Addr) (P:Nat->NC->Prop) (St:Nat->Heap->Prop),Walks prog w A I fp [I] es.size P St->St 0 h1->L ∉ fp->(∀ b o,s.heap.get? b=some o->b≠I/\h1.get? b=some o)->(∀ acc,ItemsOf P acc es.size->acc.toList.Perm (es.toList.map (·.2)))->Q' (.ref I) { s with heap:=h1,drawn:=d }):NU (N3 prog w) A (Uc (.ref S)) Q' E' s:=by
 have lS:S < s.heap.objs.size:=NP ho
 refine BU ho hc hd ft zs (λc=>?_) λbt pl' d pm g eg=>?_
 ·by_cases bt:w.params.followText "set-order" = true
  ·refine q s.heap.objs.size _ s.drawn _ _ _ (xP hA bt (I:=s.heap.objs.size) (S:=S) (NY lS) hd ft rfl) ⟨⟨_,NT _ rfl,rfl,rfl⟩,NF _ ho⟩ ?_ (λb o e=>⟨NY (NP e),NF _ e⟩) λacc h=>?_
   ·simp only[N9,OL,or_false,not_or];exact ⟨NY hL,ne⟩
   ·rw[qM (by have:=(iR (w.params.setOrder S ep) es).length_eq;simpa using this) h]
    exact (iR _ _).map _
  ·have bt':w.params.followText "set-order" = false:=by simpa using bt
   have z1:es.size<=1:=by
    rcases c with c | c | c
    ·exact absurd c bt
    ·rcases pl with e | e
     ·omega
     ·rw[e] at c;cases c
    ·exact c
   refine q s.heap.objs.size _ s.drawn _ _ _ (zB hA bt' (I:=s.heap.objs.size) (S:=S) (NY lS) hd ft rfl (by rw[ld,bt'];rfl) z1) ⟨⟨_,NT _ rfl,rfl,rfl⟩,NF _ ho⟩ ?_ (λb o e=>⟨NY (NP e),NF _ e⟩) λacc h=>?_
   ·simp only[N9,OL,or_false,not_or];exact ⟨NY hL,ne⟩
   ·rw[qM rfl h]
 ·have eg1:s.heap.objs.size < g.objs.size:=by rw[eg,Heap.size_push];omega
  have kg:∀ b o,s.heap.get? b=some o->g.get? b=some o:=λb o e=>by rw[eg];exact NF _ e
  have tg:g.get? s.heap.objs.size=some { cls:=.type "tuple", data:=.seq (pl'.map λj:Nat=>Qa j).toArray }:=by rw[eg];exact NT _ rfl
  refine q g.objs.size _ d _ _ _ (uz hA (I:=g.objs.size) (S:=S) (tp:=s.heap.objs.size) (NY (Qy lS eg1)) (NY eg1) hd ft rfl rfl rfl pm) ⟨⟨_,NT _ rfl,rfl,rfl⟩,NF _ (kg _ _ ho),NF _ tg⟩ ?_ (λb o e=>⟨NY (Qy (NP e) eg1),NF _ (kg _ _ e)⟩) λacc h=>Bh pm h
  simp only[N9,OL,or_false,not_or]
  exact ⟨NY (Qy hL eg1),ne,NY hL⟩
end
section
open PySem PySem.Spec PyProof PyProof.Rows L2
theorem tV {prog:NR}{w:N6}{A:N7}{E:NC->ND->Prop}(hA:A.handled=none){s:ND}{S:Addr}{o:Obj}{es:Array (Int×NC)}{ep:Nat}{t:OT}{K:NC->ND->Prop}(ho:s.heap.get? S=some o)(hc:o.cls=.type "set")(hd:o.data=.set es ep t)(ft:t.fits es.size=true)(zs:es.size<=sizeLine)
  (ld:t.led = !w.params.followText "set-order") (pl:es.size=0∨t.plain=false)
  (h:∀ h' tk d acc c,(∀ b o,s.heap.get? b=some o->h'.get? b=some o)->h'.get? s.heap.objs.size=some { cls:=.type "list", data:=.seq acc c }->acc.toList.Perm (es.toList.map (·.2))->K (.ref s.heap.objs.size) { s with heap:=h',toks:=tk,drawn:=d }):NU (N3 prog w) A (runValue (.builtin "proto.collect" { pos:=[.ref S] })) K E s:=by
 have lS:S < s.heap.objs.size:=NP ho
 refine wpAny_runValue <| codeAny_builtin F.entry_proto_collect ?_
 rw[P1 (A:=A) F.plain_proto_collect ⟨[.ref S],[]⟩]
 refine (show NU _ A.in1 (newList [] >>= λl=>again (.builtin "list.__iadd__" ⟨[l,.ref S],[]⟩)) _ _ s from wpAny_bind (wpAny_newList (wpAny_pure ⟨QP T7 _,codeAny_builtin F.entry_list_iadd ?_⟩)))
 rw[P1 (A:=A) T7 ⟨[.ref s.heap.objs.size,.ref S],[]⟩]
 refine (show NU _ A.in1 (PV (.ref s.heap.objs.size) (.ref S) (.ref s.heap.objs.size)) _ _ _ from ?_)
 have hL:(s.heap.push (Qj "list" ([]:List NC).toArray 0)).get? s.heap.objs.size=some { cls:=.type "list", data:=.seq #[] 0 }:=NT _ rfl
 have ho':(s.heap.push (Qj "list" ([]:List NC).toArray 0)).get? S=some o:=NF _ ho
 refine Ep (prog:=prog) (R:=λr s'=>match r with | .ok (.ret v)=>K v s' | .ok _=>False | .error e=>E e s') (s:={ s with heap:=s.heap.push (Qj "list" ([]:List NC).toArray 0) }) (res:=.ref s.heap.objs.size) (es:=es) hA zs (Tz lS) (λE' Q' q=>Ia (A:=A.in1) hA (s:={ s with heap:=s.heap.push (Qj "list" ([]:List NC).toArray 0) }) (L:=s.heap.objs.size) ho' hc hd ft zs ld pl (Tz lS) (NP hL) E' Q' q) ⟨o,ho',hc⟩ hL λh' tk d acc c kp hl pm=>?_
 exact h h' tk d acc c (λb o e=>kp b o (NY (NP e)) (NF _ e)) hl pm
theorem vx {prog:NR}{w:N6}{A:N7}{E:NC->ND->Prop}(hA:A.handled=none){s:ND}{S:Addr}{o:Obj}{es:Array (Int×NC)}{ep:Nat}{t:OT}{Q:List NC->ND->Prop}(ho:s.heap.get? S=some o)(hc:o.cls=.type "set")(hd:o.data=.set es ep t)(ft:t.fits es.size=true)(zs:es.size<=sizeLine)
  (ld:t.led = !w.params.followText "set-order") (pl:es.size=0∨t.plain=false)
  (h:∀ h' tk d vs,(∀ b o,s.heap.get? b=some o->h'.get? b=some o)->vs.Perm (es.toList.map (·.2))->Q vs { s with heap:=h',toks:=tk,drawn:=d }):NU (N3 prog w) A (collect (.ref S)) Q E s:=by
 unfold collect
 refine wpAny_bind (tV hA ho hc hd ft zs ld pl λh' tk d acc c kp hl pm=>?_)
 exact wpAny_bind (wpAny_load hl (wpAny_pure (h h' tk d acc.toList kp pm)))
end
section
open PySem PySem.Spec PyProof PyProof.Rows L2
theorem Aa {vs us:List NC}(pm:vs.Perm us):∀ {ss:List Str},QO us ss->∃ ss1,QO vs ss1/\ss1.Perm ss:=by
 induction pm with
 | nil=>intro ss h;cases h;exact ⟨[],.nil,.refl _⟩
 | cons x _ ih=>
  intro ss h
  cases h with
  | cons y t h=>
  obtain ⟨r,h1,h2⟩:=ih h
  exact ⟨y::r,.cons y t h1,h2.cons y⟩
 | swap a b l=>
  intro ss h
  cases h with
  | cons y t h=>
  cases h with
  | cons y2 t2 h=>exact ⟨_,.cons y2 t2 (.cons y t h),.swap ..⟩
 | trans _ _ ih1 ih2=>
  intro ss h
  obtain ⟨r,h1,h2⟩:=ih2 h
  obtain ⟨r',h3,h4⟩:=ih1 h1
  exact ⟨r',h3,h4.trans h2⟩
theorem Cc {vs:List NC}{ss:List Str}(h:QO vs ss):vs.length=ss.length:=by
 induction h with
 | nil=>rfl
 | cons y t _ ih=>rw[NN,NN,ih]
theorem xT {prog:NR}{w:N6}{A:N7}{E:NC->ND->Prop}(hA:A.handled=none){s:ND}{S:Addr}{o:Obj}{es:Array (Int×NC)}{ep:Nat}{t:OT}{Q:NC->ND->Prop}{ss:List Str}(ho:s.heap.get? S=some o)(hc:o.cls=.type "set")(hd:o.data=.set es ep t)(ft:t.fits es.size=true)(few:es.size < 64)
  (ld:t.led = !w.params.followText "set-order") (pl:es.size=0∨t.plain=false) (hS:QO (es.toList.map (·.2)) ss)
  (h:∀ (g g1:Heap) tk d (out:Array NC) (n:Nat) (ss':List Str),(∀ b o,s.heap.get? b=some o->g.get? b=some o)->(∀ b o,g.get? b=some o->g1.get? b=some o)->g1.get? g.objs.size=some (Qj "list" out n)->QO out.toList ss'->ss'.Perm ss->sortedS ss'=true->Q (.ref g.objs.size) { s with heap:=g1,toks:=tk,drawn:=d }) :
  NU (N3 prog w) A (Rg (Value.builtin "sorted") [.ref S]) Q E s:=by
 refine Calls.call_function_entry (b:=Qh.«sorted») kind_sorted plain_sorted entry_sorted (args_sorted1 _) ?_
 refine (show NU _ _ (do checkCount "sorted" 1 1 1;let xs ← collect (.ref S);let z ← newList xs;let _ ← Rr [z] (call (.builtin "list.sort") [z]);ret z) _ _ s from ?_)
 refine wpAny_bind (wpAny_pure (wpAny_bind (vx (A:=A.in1) hA ho hc hd ft (by rw[QS];omega) ld pl λg tk d vs kp pm=>?_)))
 obtain ⟨s1,i1,i2⟩:=Aa pm hS
 have lv:vs.length < 64:=by rw[pm.length_eq,NK,OM];exact few
 have at':(g.push (Qj "list" vs.toArray 0)).get? g.objs.size=some (Qj "list" vs.toArray 0):=NT _ rfl
 refine wpAny_bind (wpAny_newList (wpAny_bind (wpAny_holding (OK slot_list_sort ⟨_,at',rfl⟩ entry_list_sort (list_sort_treeK strKind_oneLt at' i1.keysOf (λv₁ v₂ rest e=>keyKind_strs (by rw[← e];exact i1)) lv λst' hp hs=>⟨_,rfl,wpAny_pure ⟨_,rfl,?_⟩⟩) (args_list_sort _)))) (by rw[QS];omega))
 obtain ⟨ss',a1,a2,a3⟩:=sorted_out_str i1 hp hs
 obtain ⟨⟨m,e⟩,old⟩:=sortedHeap_at (out:=Array.map (λx=>x.2) (arrOf st')) at'
 exact h g _ tk d _ m ss' kp old e a1 (a2.trans i2) a3
end
section
open PySem PySem.Spec PyProof PyProof.Rows L2
theorem uj {α:Type} [DecidableEq α]:∀ (D l:List α),D.Nodup->(∀ d∈D,d∈l)->l.length=D.length->l.Perm D:=by
 intro D
 induction D with
 | nil=>
  intro l _ _ hl
  rw[PF hl]
 | cons d D ih=>
  intro l nd sub hl
  have ⟨n1,n2⟩:=Po.mp nd
  have hd:=sub d NJ
  refine (List.perm_cons_erase hd).trans ((ih (l.erase d) n2 (λx hx=>?_) ?_).cons d)
  ·exact (List.mem_erase_of_ne (show x≠d from λz=>n1 (by rw[← z];exact hx))).mpr (sub x (NM _ hx))
  ·rw[List.length_erase_of_mem hd,hl]
   rfl
theorem EZ {κ:Type} [DecidableEq κ]:∀ (ks σ:List κ) (k:κ),k∈ddS σ ks↔k∈σ∨k∈ks:=by
 intro ks
 induction ks with
 | nil=>intro σ k;unfold ddS;simp
 | cons a r ih=>
  intro σ k
  unfold ddS
  rw[ih]
  by_cases q:a∈σ
  ·rw[if_pos q,N9]
   constructor
   ·rintro (h | h)
    ·exact .inl h
    ·exact .inr (.inr h)
   ·rintro (h | h | h)
    ·exact .inl h
    ·exact .inl (h ▸ q)
    ·exact .inr h
  ·rw[if_neg q,Oo,NZ,N9,or_assoc]
theorem HJ {κ:Type} [DecidableEq κ]:∀ (ks σ:List κ),σ.Nodup->(ddS σ ks).Nodup:=by
 intro ks
 induction ks with
 | nil=>intro σ h;exact h
 | cons a r ih=>
  intro σ h
  unfold ddS
  refine ih _ ?_
  by_cases q:a∈σ
  ·rw[if_pos q];exact h
  ·rw[if_neg q]
   refine Pu.mpr ⟨h,by simp,λx hx y hy e=>q ?_⟩
   rw[NZ] at hy
   rw[← hy,← e];exact hx
theorem EO {α β:Type} [DecidableEq α] [DecidableEq β] {f:α->β}(inj:∀ a b,f a=f b->a=b):∀ (ks σ:List α),ddS (σ.map f) (ks.map f)=(ddS σ ks).map f:=by
 intro ks
 induction ks with
 | nil=>intro σ;rfl
 | cons a r ih=>
  intro σ
  rw[Ob]
  unfold ddS
  have:(f a∈σ.map f)↔a∈σ:=⟨λh=>by obtain ⟨b,hb,e⟩:=Od.mp h;rw[inj _ _ e] at hb;exact hb,λh=>Od.mpr ⟨a,h,rfl⟩⟩
  by_cases q:a∈σ
  ·rw[if_pos q,if_pos (this.mpr q),ih]
  ·rw[if_neg q,if_neg (λz=>q (this.mp z)),← ih,O7];rfl
theorem EH:∀ (l:List (Int×NC)),(∀ e∈l,∃ y t,e.2=.str y t)->∃ ss,QO (l.map (·.2)) ss/\∀ y t,(∃ e∈l,e.2=.str y t)->y∈ss:=by
 intro l
 induction l with
 | nil=>intro _;exact ⟨[],.nil,λy t ⟨e,h,_⟩=>nomatch h⟩
 | cons e l ih=>
  intro h
  obtain ⟨ss,h1,h2⟩:=ih λe he=>h e (NM _ he)
  obtain ⟨y,t,e1⟩:=h e NJ
  refine ⟨y::ss,?_,λy' t' ⟨e',he',q⟩=>?_⟩
  ·rw[Ob,e1];exact .cons y t h1
  ·rcases N9.mp he' with (rfl | he')
   ·rw[e1] at q;cases q;exact NJ
   ·exact NM _ (h2 y' t' ⟨e',he',q⟩)
theorem z7 {prog:NR}{w:N6}{led:Bool}{h:Heap}{a:Addr}{D:List Str}(nd:D.Nodup)(hm:oU (b5 prog w) led h a (D.map Qr)) :
  ∃ o es ep t ss,h.get? a=some o/\o.cls=.type "set" /\ o.data=.set es ep t/\t.fits es.size=true/\es.size=D.length/\t.led=led/\(es.size=0∨t.plain=false)/\QO (es.toList.map (·.2)) ss/\ss.Perm D:=by
 obtain ⟨o,es,ep,t,ho,ex,hd,el,ks,zs,ft,zl,ld,pl⟩:=hm
 rw[NK] at zl
 have all:∀ e∈es.toList,∃ y t,e.2=.str y t:=λe he=>by
  obtain ⟨⟨k,hk,_⟩,_⟩:=el e he
  have:=(ks k).mpr ⟨e,he,hk⟩
  obtain ⟨y,_,rfl⟩:=Od.mp this
  rcases bC (show lU (.inr y) e.2=true from hk) with ⟨i,t,e1,e2⟩ | ⟨x,t,e1,e2⟩
  ·cases e1
  ·exact ⟨x,t,e2⟩
 obtain ⟨ss,h1,h2⟩:=EH es.toList all
 refine ⟨o,es,ep,t,ss,ho,ex.1,hd,ft,zl,ld,pl,h1,uj D ss nd (λd hd'=>?_) ?_⟩
 ·obtain ⟨e,he,hk⟩:=(ks (.inr d)).mp (Od.mpr ⟨d,hd',rfl⟩)
  rcases bC (show lU (.inr d) e.2=true from hk) with ⟨i,t,e1,e2⟩ | ⟨x,t,e1,e2⟩
  ·cases e1
  ·cases e1;exact h2 d t ⟨e,he,e2⟩
 ·rw[← Cc h1,NK,OM,zl]
end
section
open PySem PySem.Spec PyProof PyProof.Rows L2
abbrev ddT (ss:List Str):List Str:=ddS [] ss
theorem BJ (ss:List Str):(ddT ss).Nodup:=HJ ss [] .nil
theorem ER {ss:List Str}{s:Str}:s∈ddT ss↔s∈ss:=by rw[ddT,EZ];simp
theorem AF {X:Cx}{pins:List (Addr×Obj)}{σ:List (Option V)}{H:Hp}{s:ND}{d:Drawn}(I:Inv X pins σ H s):Inv X pins σ H { s with drawn:=d }:=⟨I.ok,I.os,I.bare,I.base,I.loc,I.cell,I.free,I.g6,I.pin,I.hok,I.len⟩
theorem z4:∀ {us:List NC} {ss:List Str},QO us ss->∀ u∈us,u.scannable=true/\SD 8 u=pure false:=by
 intro us ss h
 induction h with
 | nil=>intro u hu;cases hu
 | cons y t _ ih=>
  intro u hu
  rcases N9.mp hu with (rfl | hu)
  ·exact ⟨rfl,hashByValue.eq_5 ..⟩
  ·exact ih u hu
section
variable {X:Cx} {e:N1} {x y:Str} {p p' pos cpos:Pos}
theorem C5 {te:TE}{pins:List (Addr×Obj)}{σ:L2.St}{H:Hp}{s:ND}{R:NC->ND->Prop}(hc:X.calm=true)(hg:Gl X y)(hm:X.mg y=none)(hv:Of y=some (.type "set"))(ho:PE X e te)(I:Inv X pins σ H s)
  {K:VK} (h:te σ H K) (hk:∀ v H1,K v H1->∃ (l:Addr) (ss:List Str),v=.ref l/\SqL X.K H1 l (ss.map V.str)/\ss.length < 4000/\∀ S s2,Inv X pins σ H1 s2->oU (b5 X.prog X.w) (!X.w.params.followText "set-order") s2.heap S ((ddT ss).map Qr)->R (.ref S) s2)
  (hn:y ≠ "__name__" := by decide) (hdb:(y == ("__debug__" : Str))=false:=by decide)
  (he:NL [e] X.env=(false,O4 e X.env)::NL [] X.env:=by rfl) (hpl:(OB cpos (NL [] X.env)).any (·.1)=false:=by rfl) (hnil:OB cpos (NL [] X.env)=[]:=by rfl) :
  NU (N3 X.prog X.w) X.A (O4 (.Call (.Name y p') [e] [] cpos) X.env) R X.xe s:=by
 refine Pg (jA I hg hm hv ?_ hn hdb)
 refine PQ ?_ he hpl
 rw[he]
 show NU _ _ (UC ((false,O4 _ X.env)::OB cpos (NL [] X.env))) _ _ s
 rw[hnil]
 refine Qi (thn (ho pins s σ H _ I h) λv s1 ⟨w1,H1,I1,r1,hK⟩=>Qu ?_)
 obtain ⟨l,ss,ey,sq,hz,q⟩:=hk _ _ hK
 subst ey
 cases (show v=OX l from r1)
 obtain ⟨its,rv,pl,_⟩:=I1.list sq
 obtain ⟨o,e1,e2,n,e3⟩:=pl.isList
 have ri:UN (b5 X.prog X.w) (ss.map Qr) its:=qS (by rw[OG];exact rv)
 refine pI (I1.ok.hd hc) e1 e2 e3 (by simpa using ri) (by simpa using z4 (rz rv)) (by rw[NK];unfold scanBound;omega) λh' tk hq kp=>?_
 refine q _ _ (I1.kept (t':=tk) kp) ?_
 rw[show ddS ([]:List Key) (ss.map Qr)=(ddT ss).map Qr from EO (σ:=[]) (λa b e=>by injection e) ss] at hq
 exact hq
theorem wX {te:TE}(hc:X.calm=true)(hg:Gl X x)(hm:X.mg x=none)(hv:Of x=some (.builtin "sorted"))(hg':Gl X y)(hm':X.mg y=none)(hv':Of y=some (.type "set"))(ho:PE X e te)
  (hn:x ≠ "__name__" := by decide) (hdb:(x == ("__debug__" : Str))=false:=by decide) (hn':y ≠ "__name__" := by decide) (hdb':(y == ("__debug__" : Str))=false:=by decide)
  (he:NL [e] X.env=(false,O4 e X.env)::NL [] X.env:=by rfl) (hpl:(OB cpos (NL [] X.env)).any (·.1)=false:=by rfl) (hnil:OB cpos (NL [] X.env)=[]:=by rfl)
  (he':NL [.Call (.Name y p') [e] [] cpos] X.env=(false,O4 (.Call (.Name y p') [e] [] cpos) X.env)::NL [] X.env:=by rfl) (hpl':(OB pos (NL [] X.env)).any (·.1)=false:=by rfl) (hnil':OB pos (NL [] X.env)=[]:=by rfl) :
  PE X (.Call (.Name x p) [.Call (.Name y p') [e] [] cpos] [] pos) (λσ H Q=>te σ H λv H1=>∃ (l:Addr) (ss:List Str),v=.ref l/\SqL X.K H1 l (ss.map V.str)/\(ss.length < 4000/\(ddT ss).length < 64)/\∀ ss':List Str,ss'.Perm (ddT ss)->ss'.Pairwise (λa b=>ltS b a=false)->∀ q,H1 q=none->Q (.ref q) (upd H1 q (.lst (ss'.map V.str)))):=by
 intro pins s σ H Q I h
 refine Pg (jA I hg hm hv ?_ hn hdb)
 refine PC ?_ he' hpl'
 rw[he']
 show NU _ _ (UC ((false,O4 _ X.env)::OB pos (NL [] X.env))) _ _ s
 rw[hnil']
 refine Qi (C5 hc hg' hm' hv' ho I h (λv H1 ⟨l,ss,e1,sq,⟨z1,z2⟩,q⟩=>⟨l,ss,e1,sq,z1,λS s2 I2 hq=>Qu ?_⟩) hn' hdb' he hpl hnil)
 obtain ⟨o,es,ep,t,us,a1,a2,a3,a4,a5,a6,a7,a8,a9⟩:=z7 (BJ ss) hq
 refine xT (I2.ok.hd hc) a1 a2 a3 a4 (by omega) a6 a7 a8 λg g1 tk d out n ss' k1 k2 k3 k4 k5 k6=>?_
 have I3:Inv X pins σ H1 { s2 with heap:=g }:=I2.kept (t':=s2.toks) k1
 have I4:=I3.laid (t':=tk) (h':=g1) (o:=.lst (ss'.map V.str)) k2 (NV _) (a:=g.objs.size) ⟨by
  have:ss'.length=(ddT ss).length:=(k5.trans a9).length_eq
  rw[NK,this,QS];omega,out.toList,n,fE k4,by simpa[Qj] using k3⟩
 exact ⟨.ref _,_,AF (d:=d) I4,rfl,q ss' (k5.trans a9) (qh _ k6) _ (I3.hok.fresh (NV _))⟩
theorem AE {te:TE}(hc:X.calm=true)(hg:Gl X x)(hm:X.mg x=none)(hv:Of x=some (.builtin "len"))(hg':Gl X y)(hm':X.mg y=none)(hv':Of y=some (.type "set"))(ho:PE X e te)
  (hn:x ≠ "__name__" := by decide) (hdb:(x == ("__debug__" : Str))=false:=by decide) (hn':y ≠ "__name__" := by decide) (hdb':(y == ("__debug__" : Str))=false:=by decide)
  (he:NL [e] X.env=(false,O4 e X.env)::NL [] X.env:=by rfl) (hpl:(OB cpos (NL [] X.env)).any (·.1)=false:=by rfl) (hnil:OB cpos (NL [] X.env)=[]:=by rfl)
  (he':NL [.Call (.Name y p') [e] [] cpos] X.env=(false,O4 (.Call (.Name y p') [e] [] cpos) X.env)::NL [] X.env:=by rfl) (hpl':(OB pos (NL [] X.env)).any (·.1)=false:=by rfl) (hnil':OB pos (NL [] X.env)=[]:=by rfl) :
  PE X (.Call (.Name x p) [.Call (.Name y p') [e] [] cpos] [] pos) (λσ H Q=>te σ H λv H1=>∃ (l:Addr) (ss:List Str),v=.ref l/\SqL X.K H1 l (ss.map V.str)/\ss.length < 4000/\Q (.int (ddT ss).length) H1):=by
 intro pins s σ H Q I h
 refine Pg (jA I hg hm hv ?_ hn hdb)
 refine PC ?_ he' hpl'
 rw[he']
 show NU _ _ (UC ((false,O4 _ X.env)::OB pos (NL [] X.env))) _ _ s
 rw[hnil']
 refine Qi (C5 hc hg' hm' hv' ho I h (λv H1 ⟨l,ss,e1,sq,z1,q⟩=>⟨l,ss,e1,sq,z1,λS s2 I2 hq=>Qu ?_⟩) hn' hdb' he hpl hnil)
 obtain ⟨o,es,ep,t,a1,ex,a3,_,_,zs,a4,a5,_⟩:=hq
 rw[NK] at a5
 have zz:(es.size:Int) < 2 ^ 63:=by unfold scanBound at zs;omega
 refine call_len_set a1 ex a3 a4 zz ?_
 rw[a5]
 exact ⟨.int _,H1,I2.kept (h':=s2.heap) λ_ _ e=>e,⟨_,rfl⟩,q⟩
def kLz (x:D)(f:List D->Prop):Prop:=match x with
 | .ls ds=>f ds
 | _=>False
def nF (Te:ETr):ETr:=λρ μ Q=>Te ρ μ λx μ1=>kLz x λxs=>∃ ss:List Str,(xs=ss.map .str/\ss.length < 4000/\(ddT ss).length < 64)/\∀ ss':List Str,ss'.Perm (ddT ss)->ss'.Pairwise (λa b=>ltS b a=false)->Q (.ls (ss'.map .str)) μ1
def rM (Te:ETr):ETr:=λρ μ Q=>Te ρ μ λx μ1=>kLz x λxs=>∃ ss:List Str,(xs=ss.map .str/\ss.length < 4000)/\Q (.int (ddT ss).length) μ1
theorem xl {Te:ETr}(hc:X.calm=true)(hg:Gl X x)(hm:X.mg x=none)(hv:Of x=some (.builtin "sorted"))(hg':Gl X y)(hm':X.mg y=none)(hv':Of y=some (.type "set"))(ho:LE X e Te)
  (hn:x ≠ "__name__" := by decide) (hdb:(x == ("__debug__" : Str))=false:=by decide) (hn':y ≠ "__name__" := by decide) (hdb':(y == ("__debug__" : Str))=false:=by decide)
  (he:NL [e] X.env=(false,O4 e X.env)::NL [] X.env:=by rfl) (hpl:(OB cpos (NL [] X.env)).any (·.1)=false:=by rfl) (hnil:OB cpos (NL [] X.env)=[]:=by rfl)
  (he':NL [.Call (.Name y p') [e] [] cpos] X.env=(false,O4 (.Call (.Name y p') [e] [] cpos) X.env)::NL [] X.env:=by rfl) (hpl':(OB pos (NL [] X.env)).any (·.1)=false:=by rfl) (hnil':OB pos (NL [] X.env)=[]:=by rfl) :
  LE X (.Call (.Name x p) [.Call (.Name y p') [e] [] cpos] [] pos) (nF Te):=by
 obtain ⟨te,pe,se⟩:=ho.ex
 refine ⟨_,jC (wX hc hg hm hv hg' hm' hv' pe hn hdb hn' hdb' he hpl hnil he' hpl' hnil'),λσ H ρ μ Q Q' rl h k=>se σ H ρ μ _ _ rl h λv H1 dx μ1 t1 m1 p1 h1=>?_⟩
 cases p1 with
 | @ls q xs ds sq l=>
  obtain ⟨ss,⟨rfl,z⟩,h2⟩:=h1
  cases DpL.fE l
  exact ⟨q,ss,rfl,sq.sq,z,λss' a2 a3 z hz=>gE m1 (DpL.strs ss') (h2 ss' a2 a3) (k.go t1) hz⟩
 | _=>exact NG h1
theorem zM {Te:ETr}(hc:X.calm=true)(hg:Gl X x)(hm:X.mg x=none)(hv:Of x=some (.builtin "len"))(hg':Gl X y)(hm':X.mg y=none)(hv':Of y=some (.type "set"))(ho:LE X e Te)
  (hn:x ≠ "__name__" := by decide) (hdb:(x == ("__debug__" : Str))=false:=by decide) (hn':y ≠ "__name__" := by decide) (hdb':(y == ("__debug__" : Str))=false:=by decide)
  (he:NL [e] X.env=(false,O4 e X.env)::NL [] X.env:=by rfl) (hpl:(OB cpos (NL [] X.env)).any (·.1)=false:=by rfl) (hnil:OB cpos (NL [] X.env)=[]:=by rfl)
  (he':NL [.Call (.Name y p') [e] [] cpos] X.env=(false,O4 (.Call (.Name y p') [e] [] cpos) X.env)::NL [] X.env:=by rfl) (hpl':(OB pos (NL [] X.env)).any (·.1)=false:=by rfl) (hnil':OB pos (NL [] X.env)=[]:=by rfl) :
  LE X (.Call (.Name x p) [.Call (.Name y p') [e] [] cpos] [] pos) (rM Te):=by
 obtain ⟨te,pe,se⟩:=ho.ex
 refine ⟨_,AE hc hg hm hv hg' hm' hv' pe hn hdb hn' hdb' he hpl hnil he' hpl' hnil',λσ H ρ μ Q Q' rl h k=>se σ H ρ μ _ _ rl h λv H1 dx μ1 t1 m1 p1 h1=>?_⟩
 cases p1 with
 | @ls q xs ds sq l=>
  obtain ⟨ss,⟨rfl,z⟩,h2⟩:=h1
  cases DpL.fE l
  exact ⟨q,ss,rfl,sq.sq,z,k _ H1 _ μ1 t1 m1 (.int _) h2⟩
 | _=>exact NG h1
end
end
section
open PySem PySem.Spec PyProof.Rows L2
section
variable {X:Cx} {a b:N1} {Ta Tb:ETr} {pos:Pos}
end
end
section
open PySem PySem.Spec PyProof.Rows L2
end
section
open PySem PySem.Spec PyProof.Rows L2
def k3 (ds:List D)(f:D->D->D->Prop):Prop:=match ds with
 | [u,v,w]=>f u v w
 | _=>False
end
theorem dX (i:Decidable (NA "still" = NA "step")):@decide (NA "still" = NA "step") i=false:=by cases i with | isTrue h=>exact absurd h (by rw[jo];exact not_false) | isFalse _=>rfl
theorem dB (i:Decidable (NA "still" = NA "swell")):@decide (NA "still" = NA "swell") i=false:=by cases i with | isTrue h=>exact absurd h (by rw[ia];exact not_false) | isFalse _=>rfl
theorem dW (i:Decidable (NA "still" = NA "heed")):@decide (NA "still" = NA "heed") i=false:=by cases i with | isTrue h=>exact absurd h (by rw[ji];exact not_false) | isFalse _=>rfl
theorem ee (i:Decidable (NA "still" = NA "calm")):@decide (NA "still" = NA "calm") i=false:=by cases i with | isTrue h=>exact absurd h (by rw[jq];exact not_false) | isFalse _=>rfl
theorem dU (i:Decidable (NA "step" = NA "still")):@decide (NA "step" = NA "still") i=false:=by cases i with | isTrue h=>exact absurd h (by rw[pF];exact not_false) | isFalse _=>rfl
theorem d8 (i:Decidable (NA "step" = NA "swell")):@decide (NA "step" = NA "swell") i=false:=by cases i with | isTrue h=>exact absurd h (by rw[fH];exact not_false) | isFalse _=>rfl
theorem eV (i:Decidable (NA "step" = NA "heed")):@decide (NA "step" = NA "heed") i=false:=by cases i with | isTrue h=>exact absurd h (by rw[eU];exact not_false) | isFalse _=>rfl
theorem e6 (i:Decidable (NA "step" = NA "calm")):@decide (NA "step" = NA "calm") i=false:=by cases i with | isTrue h=>exact absurd h (by rw[jU];exact not_false) | isFalse _=>rfl
theorem df (i:Decidable (NA "swell" = NA "still")):@decide (NA "swell" = NA "still") i=false:=by cases i with | isTrue h=>exact absurd h (by rw[oW];exact not_false) | isFalse _=>rfl
theorem dZ (i:Decidable (NA "swell" = NA "step")):@decide (NA "swell" = NA "step") i=false:=by cases i with | isTrue h=>exact absurd h (by rw[pZ];exact not_false) | isFalse _=>rfl
theorem eo (i:Decidable (NA "swell" = NA "heed")):@decide (NA "swell" = NA "heed") i=false:=by cases i with | isTrue h=>exact absurd h (by rw[eh];exact not_false) | isFalse _=>rfl
theorem dS (i:Decidable (NA "swell" = NA "calm")):@decide (NA "swell" = NA "calm") i=false:=by cases i with | isTrue h=>exact absurd h (by rw[jg];exact not_false) | isFalse _=>rfl
theorem dQ (i:Decidable (NA "heed" = NA "still")):@decide (NA "heed" = NA "still") i=false:=by cases i with | isTrue h=>exact absurd h (by rw[pk];exact not_false) | isFalse _=>rfl
theorem e8 (i:Decidable (NA "heed" = NA "step")):@decide (NA "heed" = NA "step") i=false:=by cases i with | isTrue h=>exact absurd h (by rw[tj];exact not_false) | isFalse _=>rfl
theorem dR (i:Decidable (NA "heed" = NA "swell")):@decide (NA "heed" = NA "swell") i=false:=by cases i with | isTrue h=>exact absurd h (by rw[jn];exact not_false) | isFalse _=>rfl
theorem eT (i:Decidable (NA "heed" = NA "calm")):@decide (NA "heed" = NA "calm") i=false:=by cases i with | isTrue h=>exact absurd h (by rw[kh];exact not_false) | isFalse _=>rfl
theorem dP (i:Decidable (NA "calm" = NA "still")):@decide (NA "calm" = NA "still") i=false:=by cases i with | isTrue h=>exact absurd h (by rw[p9];exact not_false) | isFalse _=>rfl
theorem eX (i:Decidable (NA "calm" = NA "step")):@decide (NA "calm" = NA "step") i=false:=by cases i with | isTrue h=>exact absurd h (by rw[tI];exact not_false) | isFalse _=>rfl
theorem dY (i:Decidable (NA "calm" = NA "swell")):@decide (NA "calm" = NA "swell") i=false:=by cases i with | isTrue h=>exact absurd h (by rw[jt];exact not_false) | isFalse _=>rfl
theorem fb (i:Decidable (NA "calm" = NA "heed")):@decide (NA "calm" = NA "heed") i=false:=by cases i with | isTrue h=>exact absurd h (by rw[sU];exact not_false) | isFalse _=>rfl
theorem mF (a:Str)(i:Decidable (a=a)):@decide (a=a) i=true:=by cases i with | isTrue _=>rfl | isFalse h=>exact absurd rfl h
theorem IsPart.of_eq {a b c d x y:Int}(h:IsPart a b x y)(hb:0 < b)(hd:0 < d)(e:a*d=c*b):IsPart c d x y:=by
 have xd:x*d=c*y:=by
  refine Int.eq_of_mul_eq_mul_right (a:=b) (by omega) ?_
  calc x*d*b=(x*b)*d:=by ac_rfl
   _=(a*y)*d:=by rw[h.e]
   _=(a*d)*y:=by ac_rfl
   _=(c*b)*y:=by rw[e]
   _=c*y*b:=by ac_rfl
 have y0:=h.q0
 have dx:x ∣ c:=by
  have:x ∣ y*c:=⟨d,by rw[T8 y c];exact xd.symm⟩
  have h':=Q5.mpr this
  rw[h.g] at h'
  simpa using h'
 have dy:y ∣ d:=by
  have:y ∣ x*d:=⟨c,by rw[xd,T8]⟩
  have h':=Q5.mpr this
  rw[Vd,h.g] at h'
  simpa using h'
 refine ⟨h.q0,h.g,xd,?_,U7 (by omega) (Ss.mpr dy)⟩
 by_cases hc:c=0
 ·subst hc
  have:x=0:=by
   rcases Int.mul_eq_zero.mp (show x*d=0 by rw[xd,Int.zero_mul]) with z | z
   ·exact z
   ·omega
  rw[this];exact NV _
 ·exact U7 (by omega) (Ss.mpr dx)
structure Vl (d:D) (a b:Int):Prop where
 ex:∃ p q,d=fr p q/\IsPart a b p q
 b0:0 < b
theorem Vl.of_eq {d:D}{a b a' b':Int}(h:Vl d a b)(hb:0 < b')(e:a*b'=a'*b):Vl d a' b':=by
 obtain ⟨⟨p,q,rfl,P⟩,b0⟩:=h
 exact ⟨⟨p,q,rfl,P.of_eq b0 hb e⟩,hb⟩
def Le (a A:Int):Prop:=-A<=a/\a<=A
theorem Le.mono {a A B:Int}(h:Le a A)(hb:A<=B):Le a B:=⟨by have:=h.1;omega,by have:=h.2;omega⟩
theorem Le.neg {a A:Int}(h:Le a A):Le (-a) A:=⟨by have:=h.2;omega,by have:=h.1;omega⟩
theorem Le.abs {a A:Int}(h:Le a A):(a.natAbs:Int)<=A:=by have:=h.1;have:=h.2;omega
theorem Le.Ny {a A:Int}(h:(a.natAbs:Int)<=A):Le a A:=⟨by omega,by omega⟩
abbrev Bd (a:Int):Prop:=Le a 1000000000000000000000000000000
theorem Bd.m {a:Int}(h:Bd a):bx a:=by have:=h.1;have:=h.2;unfold bx;omega
theorem Bd.mul {a b:Int}(h:Bd a)(k:Bd b):MulOk a b:=.inr ⟨h.m,k.m⟩
inductive Wd | lG | step | mS | Cn | calm
 deriving DecidableEq
structure RN where
 wd:Wd
 p:Int
 q:Int
 x:Int
 y:Int
 a:Int
 b:Int
 l:Int
 h:Int
 r:Int
 s:Int
def Wd.str:Wd->Str
 | .lG=>NA "still"
 | .step=>NA "step"
 | .mS=>NA "swell"
 | .Cn=>NA "heed"
 | .calm=>NA "calm"
def RN.toD (R:RN):D:=match R.wd with
 | .lG=>.tup [.str "still", fr R.p R.q]
 | .step=>.tup [.str "step", fr R.p R.q,fr R.x R.y,fr R.a R.b,fr R.r R.s]
 | .mS=>.tup [.str "swell", fr R.p R.q,fr R.x R.y,fr R.a R.b,fr R.r R.s]
 | .Cn=>.tup [.str "heed", fr R.p R.q,fr R.x R.y,fr R.a R.b,fr R.r R.s]
 | .calm=>.tup [.str "calm", fr R.p R.q,fr R.x R.y,.int R.l,.int R.h,fr R.r R.s]
structure RN.Ok (R:RN):Prop where
 w:FrB 1 60 R.p R.q
 t:FrB 1 60 R.r R.s
 wt:R.p*R.s<=R.r*R.q
 u:FrA 0 60 R.x R.y
 u1:R.wd=.mS->R.y < R.x
 g:FrA 0 1 R.a R.b
 d1:R.wd=.step∨R.wd=.mS->R.a < R.b
 l0:0<=R.l
 lh:R.l<=R.h
 h1:R.h<=60
 st:R.wd=.lG->R.r=R.p/\R.s=R.q
structure Hd where
 good:Int
 mark:Int
 D5:Int
 wt:Int
structure Hd.Ok (h:Hd):Prop where
 g0:0<=h.good
 g1:h.good<=1000000
 m0:0<=h.mark
 m1:h.mark<=1000000
 l0:0<=h.D5
 l1:h.D5<=1000000
 w0:0<=h.wt
def Hd.toD (h:Hd):D:=.tup [.int h.good,.int h.mark,.int h.D5,.int h.wt]
def Hd.bad (h:Hd):Int:=h.mark+h.D5
def Hd.many (h:Hd):Int:=h.good+h.bad
def RN.idle (R:RN)(h:Hd):Prop:=R.wd=.lG∨h.good+h.mark+h.D5=0
instance (R:RN) (h:Hd):Decidable (R.idle h):=by unfold RN.idle;infer_instance
local macro_rules | `(tactic| walk_at "rd")=>zzS "L3.ai L3.TC L3.aq L3.TUn L3.cZ L3.An L3.lr L3.TB L3.Jr L3.TOr L3.cg L3.Ar L3.fK L3.ar L3.af L3.aP L3.cF L3.xc L3.au L3.aY L3.aE L3.wC L3.Bt L3.lD L3.aR L3.DA L3.bI L3.az L3.aU L3.xx L3.ff L3.qa L3.cz L3.iC L3.cu L3.ik L3.jY L3.gh L3.LH L3.ILs L3.DN L3.A8 L3.By L3.DL L3.DW L3.xy L3.sO L3.wj L3.Dt L3.wH L3.rJ L3.y3 L3.oF L3.tL L3.sv L3.tO L3.sN L3.ud L3.kK L3.AQ L3.nK L3.ou L3.nc L3.oG L3.nu L3.mO L3.nv L3.oE L3.nU L3.TSl L3.ONo L3.jd L3.Dr L3.BQ L3.Ds L3.A9 L3.Cg L3.Ce L3.wZ L3.wN L3.CD L3.Bm L3.BM L3.mV L3.nX L3.mX L3.xH L3.xK L3.ym L3.yo L3.wc L3.xr L3.xO L3.yd L3.xN L3.Eg L3.C1 L3.Cs L3.BH L3.DX L3.CF L3.kx L3.Dh L3.Dl L3.yj L3.yg L3.wW L3.xb L3.xf L3.xX L3.xa L3.xu L3.wJ L3.yf L3.lk L3.ini Vj PY N8 Uo Vk QK Qg TU S2 RE L3.yN L3.yu L3.yS L3.yJ L3.yE L3.yU L3.yD L3.zp L3.yM Qn Qo L3.aX L3.mW R7 RM if_true if_false true_and and_true S3 Sy Sz RO QV Sf decide_eq_true_eq PL ite_false ite_true ne_eq not_false_eq_true Sg S4 S5 S6 S7 S8 TV L3.okD L3.bR L3.eqD L3.fY S9 RF N5 L3.sQ L3.kF decide_true decide_false Bool.or_true SY Vc U3 Og NQ and_self L3.dX L3.dB L3.dW L3.ee L3.dU L3.d8 L3.eV L3.e6 L3.df L3.dZ L3.eo L3.dS L3.dQ L3.e8 L3.dR L3.eT L3.dP L3.eX L3.dY L3.fb L3.mF L3.kA L3.mZ L3.kY L3.mP L3.n5 L3.iU L3.iS L3.iO L3.iP L3.iT L3.iW L3.iX"
theorem RN.tup (R:RN)(hst:R.wd=.lG->R.r=R.p/\R.s=R.q):∃ xs,R.toD=.tup xs/\xs[0]? = some (.str R.wd.str)/\xs[1]? = some (fr R.p R.q)/\xs[xs.length - 1]? = some (fr R.r R.s)/\xs≠[]:=by
 obtain ⟨wd,p,q,x,y,a,b,l,h,r,s⟩:=R
 cases wd
 ·obtain ⟨e1,e2⟩:=hst rfl
  dsimp only at e1 e2
  subst e1 e2
  exact ⟨_,rfl,rfl,rfl,rfl,nofun⟩
 all_goals exact ⟨_,rfl,rfl,rfl,rfl,nofun⟩
def kLs (x:D)(f:List D->Prop):Prop:=match x with
 | .ls ds=>f ds
 | _=>False
def iA (sp:FSp)(ds:List D)(μ:Mu)(Q:DK):Prop:=sp ds μ Q
def LEN (ds:List D)(P:Prop):Prop:=ds.length<=1000000/\P
theorem Kp (d:D)(r:ST)(μ:Mu)(Q:DK):ai 0 (some d::r) μ Q=Q d μ:=propext NH
theorem F1 (x0:Option D)(r:ST)(d:D)(μ:Mu)(k:ST->Mu->Prop):az 0 d (x0::r) μ k=k (some d::r) μ:=propext NH
theorem JN (x0:Option D)(d:D)(r:ST)(μ:Mu)(Q:DK):ai 1 (x0::some d::r) μ Q=Q d μ:=propext NH
theorem F3 (x0 x1:Option D)(r:ST)(d:D)(μ:Mu)(k:ST->Mu->Prop):az 1 d (x0::x1::r) μ k=k (x0::some d::r) μ:=propext NH
theorem Kb (x0 x1:Option D)(d:D)(r:ST)(μ:Mu)(Q:DK):ai 2 (x0::x1::some d::r) μ Q=Q d μ:=propext NH
theorem Gx (x0 x1 x2:Option D)(r:ST)(d:D)(μ:Mu)(k:ST->Mu->Prop):az 2 d (x0::x1::x2::r) μ k=k (x0::x1::some d::r) μ:=propext NH
theorem HS (x0 x1 x2:Option D)(d:D)(r:ST)(μ:Mu)(Q:DK):ai 3 (x0::x1::x2::some d::r) μ Q=Q d μ:=propext NH
theorem Fq (x0 x1 x2 x3:Option D)(r:ST)(d:D)(μ:Mu)(k:ST->Mu->Prop):az 3 d (x0::x1::x2::x3::r) μ k=k (x0::x1::x2::some d::r) μ:=propext NH
theorem HD (x0 x1 x2 x3:Option D)(d:D)(r:ST)(μ:Mu)(Q:DK):ai 4 (x0::x1::x2::x3::some d::r) μ Q=Q d μ:=propext NH
theorem Gi (x0 x1 x2 x3 x4:Option D)(r:ST)(d:D)(μ:Mu)(k:ST->Mu->Prop):az 4 d (x0::x1::x2::x3::x4::r) μ k=k (x0::x1::x2::x3::some d::r) μ:=propext NH
theorem J6 (x0 x1 x2 x3 x4:Option D)(d:D)(r:ST)(μ:Mu)(Q:DK):ai 5 (x0::x1::x2::x3::x4::some d::r) μ Q=Q d μ:=propext NH
theorem Gn (x0 x1 x2 x3 x4 x5:Option D)(r:ST)(d:D)(μ:Mu)(k:ST->Mu->Prop):az 5 d (x0::x1::x2::x3::x4::x5::r) μ k=k (x0::x1::x2::x3::x4::some d::r) μ:=propext NH
theorem Jl (x0 x1 x2 x3 x4 x5:Option D)(d:D)(r:ST)(μ:Mu)(Q:DK):ai 6 (x0::x1::x2::x3::x4::x5::some d::r) μ Q=Q d μ:=propext NH
theorem Fy (x0 x1 x2 x3 x4 x5 x6:Option D)(r:ST)(d:D)(μ:Mu)(k:ST->Mu->Prop):az 6 d (x0::x1::x2::x3::x4::x5::x6::r) μ k=k (x0::x1::x2::x3::x4::x5::some d::r) μ:=propext NH
theorem Ip (x0 x1 x2 x3 x4 x5 x6:Option D)(d:D)(r:ST)(μ:Mu)(Q:DK):ai 7 (x0::x1::x2::x3::x4::x5::x6::some d::r) μ Q=Q d μ:=propext NH
theorem FQ (x0 x1 x2 x3 x4 x5 x6 x7:Option D)(r:ST)(d:D)(μ:Mu)(k:ST->Mu->Prop):az 7 d (x0::x1::x2::x3::x4::x5::x6::x7::r) μ k=k (x0::x1::x2::x3::x4::x5::x6::some d::r) μ:=propext NH
theorem HN (x0 x1 x2 x3 x4 x5 x6 x7:Option D)(d:D)(r:ST)(μ:Mu)(Q:DK):ai 8 (x0::x1::x2::x3::x4::x5::x6::x7::some d::r) μ Q=Q d μ:=propext NH
theorem FF (x0 x1 x2 x3 x4 x5 x6 x7 x8:Option D)(r:ST)(d:D)(μ:Mu)(k:ST->Mu->Prop):az 8 d (x0::x1::x2::x3::x4::x5::x6::x7::x8::r) μ k=k (x0::x1::x2::x3::x4::x5::x6::x7::some d::r) μ:=propext NH
theorem JK (x0 x1 x2 x3 x4 x5 x6 x7 x8:Option D)(d:D)(r:ST)(μ:Mu)(Q:DK):ai 9 (x0::x1::x2::x3::x4::x5::x6::x7::x8::some d::r) μ Q=Q d μ:=propext NH
theorem F4 (x0 x1 x2 x3 x4 x5 x6 x7 x8 x9:Option D)(r:ST)(d:D)(μ:Mu)(k:ST->Mu->Prop):az 9 d (x0::x1::x2::x3::x4::x5::x6::x7::x8::x9::r) μ k=k (x0::x1::x2::x3::x4::x5::x6::x7::x8::some d::r) μ:=propext NH
theorem F8 (x0 x1 x2 x3 x4 x5 x6 x7 x8 x9:Option D)(d:D)(r:ST)(μ:Mu)(Q:DK):ai 10 (x0::x1::x2::x3::x4::x5::x6::x7::x8::x9::some d::r) μ Q=Q d μ:=propext NH
theorem A0 (x0 x1 x2 x3 x4 x5 x6 x7 x8 x9 x10:Option D)(r:ST)(d:D)(μ:Mu)(k:ST->Mu->Prop):az 10 d (x0::x1::x2::x3::x4::x5::x6::x7::x8::x9::x10::r) μ k=k (x0::x1::x2::x3::x4::x5::x6::x7::x8::x9::some d::r) μ:=propext NH
theorem M3 (d:D)(ρ:ST)(μ:Mu)(Q:DK):TC d ρ μ Q=Q d μ:=propext NH
theorem JY (r:DR2)(a b:ETr)(ρ:ST)(μ:Mu)(Q:DK):aq r a b ρ μ Q=a ρ μ λx μ1=>b ρ μ1 λy μ2=>r x y μ2 Q:=propext NH
theorem Mp (r:DR)(a:ETr)(ρ:ST)(μ:Mu)(Q:DK):TUn r a ρ μ Q=a ρ μ λx μ1=>r x μ1 Q:=propext NH
theorem EX (a b:ETr)(ρ:ST)(μ:Mu)(Q:DK):cZ a b ρ μ Q=a ρ μ λx μ1=>kB x λc=>kIf c (b ρ μ1 Q) (Q (.bl false) μ1):=propext NH
theorem Ka (a b:ETr)(ρ:ST)(μ:Mu)(Q:DK):An a b ρ μ Q=a ρ μ λx μ1=>kB x λc=>kIf c (Q (.bl true) μ1) (b ρ μ1 Q):=propext NH
theorem EW (a:ETr)(ρ:ST)(μ:Mu)(Q:DK):lr a ρ μ Q=a ρ μ λx μ1=>kB x λc=>Q (.bl (!c)) μ1:=propext NH
theorem M7 (t:ETr)(ρ:ST)(μ:Mu)(Q:Bool->Mu->Prop):TB t ρ μ Q=t ρ μ λx μ1=>kB x λc=>Q c μ1:=propext NH
theorem MB (t u:TTr)(ρ:ST)(μ:Mu)(Q:Bool->Mu->Prop):TOr t u ρ μ Q=t ρ μ λc μ1=>kIf c (Q true μ1) (u ρ μ1 Q):=propext NH
theorem HQ (t:TTr)(ρ:ST)(μ:Mu)(Q:Bool->Mu->Prop):cg t ρ μ Q=t ρ μ λc μ1=>Q (!c) μ1:=propext NH
theorem HW (c:TTr)(a b:ETr)(ρ:ST)(μ:Mu)(Q:DK):Ar c a b ρ μ Q=c ρ μ λk μ1=>kIf k (a ρ μ1 Q) (b ρ μ1 Q):=propext NH
theorem C0 (r r':DR2)(a b c:ETr)(ρ:ST)(μ:Mu)(Q:DK):fK r r' a b c ρ μ Q=a ρ μ λx μ1=>b ρ μ1 λy μ2=>r x y μ2 λz μ3=>kB z λk=>kIf k (c ρ μ3 λy' μ4=>r' y y' μ4 Q) (Q (.bl false) μ3):=propext NH
theorem J1 (ρ:ST)(μ:Mu)(Q:List D->Mu->Prop):ar ρ μ Q=Q [] μ:=propext NH
theorem EC (a:ETr)(r:ATr)(ρ:ST)(μ:Mu)(Q:List D->Mu->Prop):af a r ρ μ Q=a ρ μ λx μ1=>r ρ μ1 λxs μ2=>Q (x::xs) μ2:=propext NH
theorem IX (t:ATr)(ρ:ST)(μ:Mu)(Q:DK):aP t ρ μ Q=t ρ μ λds μ1=>LEN ds (Q (.tup ds) μ1):=propext NH
theorem Iq (t:ATr)(ρ:ST)(μ:Mu)(Q:DK):cF t ρ μ Q=t ρ μ λds μ1=>LEN ds (Q (.ls ds) μ1):=propext NH
theorem Kz (t:ATr)(ρ:ST)(μ:Mu)(Q:DK):xc t ρ μ Q=t ρ μ λds μ1=>LEN ds (∀ p,μ1 p=none->Q (.obj p) (up μ1 p (.lst ds))):=propext NH
theorem FZ (sp:FSp)(t:ATr)(ρ:ST)(μ:Mu)(Q:DK):au sp t ρ μ Q=t ρ μ λds μ1=>iA sp ds μ1 Q:=propext NH
theorem Ek (nx:ST->Mu->Prop)(rt:DK)(bk ct:ST->Mu->Prop)(ρ:ST)(μ:Mu):aY ⟨nx,rt,bk,ct⟩ ρ μ=nx ρ μ:=propext NH
theorem JO (t u:STr)(nx:ST->Mu->Prop)(rt:DK)(bk ct:ST->Mu->Prop)(ρ:ST)(μ:Mu):aE t u ⟨nx,rt,bk,ct⟩ ρ μ=t ⟨u ⟨nx,rt,bk,ct⟩,rt,bk,ct⟩ ρ μ:=propext NH
theorem FL (e:ETr)(nx:ST->Mu->Prop)(rt:DK)(bk ct:ST->Mu->Prop)(ρ:ST)(μ:Mu):lD e ⟨nx,rt,bk,ct⟩ ρ μ=e ρ μ λ_ μ1=>nx ρ μ1:=propext NH
theorem IZ (e:ETr)(nx:ST->Mu->Prop)(rt:DK)(bk ct:ST->Mu->Prop)(ρ:ST)(μ:Mu):aR e ⟨nx,rt,bk,ct⟩ ρ μ=e ρ μ rt:=propext NH
theorem Iz (c:TTr)(t u:STr)(nx:ST->Mu->Prop)(rt:DK)(bk ct:ST->Mu->Prop)(ρ:ST)(μ:Mu):bI c t u ⟨nx,rt,bk,ct⟩ ρ μ=c ρ μ λb μ1=>kIf b (t ⟨nx,rt,bk,ct⟩ ρ μ1) (u ⟨nx,rt,bk,ct⟩ ρ μ1):=propext NH
theorem Kw (e:ETr)(g:GTr)(nx:ST->Mu->Prop)(rt:DK)(bk ct:ST->Mu->Prop)(ρ:ST)(μ:Mu):aU e g ⟨nx,rt,bk,ct⟩ ρ μ=e ρ μ λd μ1=>g d ρ μ1 nx:=propext NH
theorem Jh (i j:Nat)(a:ATr)(nx:ST->Mu->Prop)(rt:DK)(bk ct:ST->Mu->Prop)(ρ:ST)(μ:Mu):xx i j a ⟨nx,rt,bk,ct⟩ ρ μ=a ρ μ λds μ1=>k2 ds λv w=>az i v ρ μ1 λρ2 μ2=>az j w ρ2 μ2 nx:=propext NH
theorem DP (o k e:ETr)(nx:ST->Mu->Prop)(rt:DK)(bk ct:ST->Mu->Prop)(ρ:ST)(μ:Mu):ff o k e ⟨nx,rt,bk,ct⟩ ρ μ=e ρ μ λy μ1=>o ρ μ1 λx μ2=>k ρ μ2 λz μ3=>EY x z y μ3 λμ4=>nx ρ μ4:=propext NH
theorem IW (it:ATr)(g:GTr)(b:STr)(nx:ST->Mu->Prop)(rt:DK)(bk ct:ST->Mu->Prop)(ρ:ST)(μ:Mu):qa it g b ⟨nx,rt,bk,ct⟩ ρ μ=it ρ μ λds μ1=>forR g b ⟨nx,rt,bk,ct⟩ ds ρ μ1:=propext NH
theorem Az (a:ETr)(ρ:ST)(μ:Mu)(Q:List D->Mu->Prop):cz a ρ μ Q=a ρ μ λx μ1=>kI x λj=>(-4611686018427387904<=j/\j < 4611686018427387904)/\Q (dm 0 j.toNat) μ1:=propext NH
theorem tF (a:ETr)(ρ:ST)(μ:Mu)(Q:List D->Mu->Prop):KD (af a ar) ρ μ Q=a ρ μ λx μ1=>kLs x λds=>Q (GL ds) μ1:=propext (Iff.of_eq (congrArg (a ρ μ) (funext λx=>funext λμ1=>by cases x<;>rfl)))
theorem Kx (a:ETr)(ρ:ST)(μ:Mu)(Q:DK):AQ a ρ μ Q=a ρ μ λx μ1=>kObj x λb=>kL μ1 b λds=>Q (.ls ds) (dn μ1 b):=propext NH
theorem IG (To Te:ETr)(ρ:ST)(μ:Mu)(Q:DK):ud To Te ρ μ Q=To ρ μ λx μ1=>kObj x λa=>kL μ1 a λ_=>Te ρ μ1 λy μ2=>kL μ2 a λds=>ds.length < 1000000/\Q .non (up μ2 a (.lst (ds++[y]))):=propext NH
theorem Lw (a:ETr)(lo hi:OTr)(ρ:ST)(μ:Mu)(Q:DK):TSl a lo hi ρ μ Q=a ρ μ λx μ1=>lo ρ μ1 λl μ2=>hi ρ μ2 λh μ3=>rSl x l h μ3 Q:=propext NH
theorem Mh (ρ:ST)(μ:Mu)(Q:Option Int->Mu->Prop):ONo ρ μ Q=Q none μ:=propext NH
theorem Jc (T:ETr)(ρ:ST)(μ:Mu)(Q:Option Int->Mu->Prop):jd T ρ μ Q=T ρ μ λx μ1=>kI x λi=>Q (some i) μ1:=propext NH
theorem Kh (i0 i1 i2:Nat)(d0 d1 d2:D)(ρ:ST)(μ:Mu)(k:ST->Mu->Prop):sQ [i0,i1,i2] (.tup [d0,d1,d2]) ρ μ k=az i0 d0 ρ μ λρ1 _=>az i1 d1 ρ1 μ λρ2 _=>az i2 d2 ρ2 μ λρ3 _=>k ρ3 μ:=by simp[sQ,kF,az]
theorem Il (i0 i1 i2 i3 i4:Nat)(d0 d1 d2 d3 d4:D)(ρ:ST)(μ:Mu)(k:ST->Mu->Prop):sQ [i0,i1,i2,i3,i4] (.tup [d0,d1,d2,d3,d4]) ρ μ k=az i0 d0 ρ μ λρ1 _=>az i1 d1 ρ1 μ λρ2 _=>az i2 d2 ρ2 μ λρ3 _=>az i3 d3 ρ3 μ λρ4 _=>az i4 d4 ρ4 μ λρ5 _=>k ρ5 μ:=by simp[sQ,kF,az]
theorem Mq (P:Prop):LEN [] P=P:=by simp[LEN]
theorem Gj (μ:Mu)(Q:DK):iA e7 [.tup []] μ Q=Q (.int 0) μ:=propext NH
theorem La (x0:D)(P:Prop):LEN [x0] P=P:=by simp[LEN]
theorem LC (x0 x1:D)(P:Prop):LEN [x0,x1] P=P:=by simp[LEN]
theorem Mo (x0 x1 x2:D)(P:Prop):LEN [x0,x1,x2] P=P:=by simp[LEN]
theorem Mz (x0 x1 x2 x3:D)(P:Prop):LEN [x0,x1,x2,x3] P=P:=by simp[LEN]
theorem KW (x0 x1 x2 x3 x4:D)(P:Prop):LEN [x0,x1,x2,x3,x4] P=P:=by simp[LEN]
theorem Mg (x0 x1 x2 x3 x4 x5:D)(P:Prop):LEN [x0,x1,x2,x3,x4,x5] P=P:=by simp[LEN]
theorem Ld (x0 x1 x2 x3 x4 x5 x6 x7:D)(P:Prop):LEN [x0,x1,x2,x3,x4,x5,x6,x7] P=P:=by simp[LEN]
theorem Li (x0 x1 x2 x3 x4 x5 x6 x7 x8:D)(P:Prop):LEN [x0,x1,x2,x3,x4,x5,x6,x7,x8] P=P:=by simp[LEN]
theorem JI (x0 x1 x2 x3 x4 x5 x6 x7 x8 x9:D)(P:Prop):LEN [x0,x1,x2,x3,x4,x5,x6,x7,x8,x9] P=P:=by simp[LEN]
theorem J3 (x0 x1 x2 x3 x4 x5 x6 x7 x8 x9 x10 x11:D)(P:Prop):LEN [x0,x1,x2,x3,x4,x5,x6,x7,x8,x9,x10,x11] P=P:=by simp[LEN]
theorem Hz (x0:D)(r:List D)(μ:Mu)(Q:DK):L3.rIx (.tup (x0::r)) (.int 0) μ Q=Q x0 μ:=by rw[kx];exact congrArg (λo=>kO o λd=>Q d μ) (b6 0 _)
theorem Ji (x0 x1:D)(r:List D)(μ:Mu)(Q:DK):L3.rIx (.tup (x0::x1::r)) (.int 1) μ Q=Q x1 μ:=by rw[kx];exact congrArg (λo=>kO o λd=>Q d μ) (b6 1 _)
theorem Ke (x0 x1 x2:D)(r:List D)(μ:Mu)(Q:DK):L3.rIx (.tup (x0::x1::x2::r)) (.int 2) μ Q=Q x2 μ:=by rw[kx];exact congrArg (λo=>kO o λd=>Q d μ) (b6 2 _)
theorem Jj (x0 x1 x2 x3:D)(r:List D)(μ:Mu)(Q:DK):L3.rIx (.tup (x0::x1::x2::x3::r)) (.int 3) μ Q=Q x3 μ:=by rw[kx];exact congrArg (λo=>kO o λd=>Q d μ) (b6 3 _)
theorem Iv (x0 x1 x2 x3 x4:D)(r:List D)(μ:Mu)(Q:DK):L3.rIx (.tup (x0::x1::x2::x3::x4::r)) (.int 4) μ Q=Q x4 μ:=by rw[kx];exact congrArg (λo=>kO o λd=>Q d μ) (b6 4 _)
theorem JL (x0 x1 x2 x3 x4 x5:D)(r:List D)(μ:Mu)(Q:DK):L3.rIx (.tup (x0::x1::x2::x3::x4::x5::r)) (.int 5) μ Q=Q x5 μ:=by rw[kx];exact congrArg (λo=>kO o λd=>Q d μ) (b6 5 _)
theorem Ib (i j:Int)(μ:Mu)(Q:DK):L3.rEq (.int i) (.int j) μ Q=Q (.bl (decide (i=j))) μ:=by simp[L3.rEq,okD,eqD]
theorem Ir (i j:Str)(μ:Mu)(Q:DK):L3.rEq (.str i) (.str j) μ Q=((Oe i=true/\Oe j=true)/\Q (.bl (decide (i=j))) μ):=by simp[L3.rEq,okD,eqD]
theorem Kl (i:Int)(μ:Mu)(Q:DK):iA sG [.int i] μ Q=Q (.int (if i < 0 then -i else i)) μ:=propext NH
theorem IY (i:Bool)(μ:Mu)(Q:DK):iA Ay [.bl i] μ Q=Q (.int (if i then 1 else 0)) μ:=propext NH
theorem CI (a:List D)(μ:Mu)(Q:DK):iA cI [.ls a] μ Q=Q (.tup a) μ:=propext NH
theorem Cb (a:List D)(μ:Mu)(Q:DK):iA fk [.tup a] μ Q=Q (.ls a) μ:=propext NH
theorem Kn (a:Addr)(μ:Mu)(Q:DK):iA e7 [.obj a] μ Q=kL μ a λxs=>Q (.int xs.length) μ:=propext NH
theorem IK (x:Str)(μ:Mu)(Q:DK):iA e7 [.str x] μ Q=(x.length<=1000000/\Q (.int x.length) μ):=propext NH
theorem yh (a:List D)(μ:Mu)(Q:DK):iA e7 [.tup a] μ Q=Q (.int a.length) μ:=propext NH
theorem yk (a:List D)(μ:Mu)(Q:DK):iA e7 [.ls a] μ Q=Q (.int a.length) μ:=propext NH
theorem Ku (n:Nat)(i:Int):okD n (.int i)=true:=by cases n<;>simp[okD]
theorem IB (n:Nat)(i:Bool):okD n (.bl i)=true:=by cases n<;>simp[okD]
theorem JX (n:Nat):okD n .non=true:=by cases n<;>simp[okD]
theorem JA (n:Nat)(x:Str):okD n (.str x)=Oe x:=by cases n<;>simp[okD]
theorem Iw (n:Nat)(ds:List D):okD (n+1) (.tup ds)=bR n ds:=by simp[okD]
theorem Kj (n:Nat)(ds:List D):okD (n+1) (.ls ds)=bR n ds:=by simp[okD]
theorem rB (n:Nat):bR n []=true:=by simp[bR]
theorem o7 (n:Nat)(d:D)(r:List D):bR n (d::r)=(okD n d&&bR n r):=by simp[bR]
theorem qv (i j:Int):eqD (.int i) (.int j)=decide (i=j):=by simp[eqD]
theorem lH (i j:Str):eqD (.str i) (.str j)=decide (i=j):=by simp[eqD]
theorem Dc (i j:Bool):eqD (.bl i) (.bl j)=(i == j):=by simp[eqD]
theorem A5 (a b:List D):eqD (.tup a) (.tup b)=fY a b:=by simp[eqD]
theorem yL (a b:List D):eqD (.ls a) (.ls b)=fY a b:=by simp[eqD]
theorem sT  : fY [] []=true:=by simp[fY]
theorem jR (a b:D)(r s:List D):fY (a::r) (b::s)=(eqD a b&&fY r s):=by simp[fY]
theorem yb (b:D)(s:List D):fY (b::s) []=false:=by simp[fY]
theorem FI (A B:Prop):kIf true A B=A:=propext NH
theorem EF (A B:Prop):kIf false A B=B:=propext NH
theorem Er (c:Bool)(f):kB (.bl c) f=f c:=propext NH
theorem DH (c:Int)(f):kI (.int c) f=f c:=propext NH
theorem AI (c:D)(f):kO (some c) f=f c:=propext NH
theorem CP (c:List D)(f):kS (.tup c) f=f c:=propext NH
theorem E5 (c:List D)(f):kS (.ls c) f=f c:=propext NH
theorem Cm (a b:D)(f):k2 [a,b] f=f a b:=propext NH
theorem qU (c:Nat)(f):kN (some c) f=f c:=propext NH
theorem xn (a:Addr)(n:Int)(y:D)(μ:Mu)(f):EY (.obj a) (.int n) y μ f=kL μ a λds=>kN (L2.ixN ds.length n) λj=>f (up μ a (.lst (ds.set j y))):=propext NH
theorem Ag (i j:Int)(μ Q):aM (.int i) (.int j) μ Q=Q (.int (i+j)) μ:=propext NH
theorem Av (i j:Str)(μ Q):aM (.str i) (.str j) μ Q=(i.length+j.length<=1000000/\Q (.str (i++j)) μ):=propext NH
theorem Aj (a b:List D)(μ Q):aM (.tup a) (.tup b) μ Q=(a.length+b.length<=1000000/\Q (.tup (a++b)) μ):=propext NH
theorem zE (a b:List D)(μ Q):aM (.ls a) (.ls b) μ Q=(a.length+b.length<=1000000/\Q (.ls (a++b)) μ):=propext NH
theorem DM (i j:Int)(μ Q):uF (.int i) (.int j) μ Q=Q (.int (i - j)) μ:=propext NH
theorem Co (i j:Int)(μ Q):gB (.int i) (.int j) μ Q=(MulOk i j/\Q (.int (i*j)) μ):=propext NH
theorem CU (i j:Int)(μ Q):jc (.int i) (.int j) μ Q=(iJ j/\Q (.int (i.fdiv j)) μ):=propext NH
theorem Bc (i j:Int)(μ Q):fR (.int i) (.int j) μ Q=(j≠0/\Q (.int (i.fmod j)) μ):=propext NH
theorem D9 (i j:Int)(μ Q):uc (.int i) (.int j) μ Q=(o8 i j/\Q (.int (i ^ j.toNat)) μ):=propext NH
theorem Ba (i:Int)(μ Q):AJ (.int i) μ Q=Q (.int (-i)) μ:=propext NH
theorem EU (i j:Int)(μ Q):rLt (.int i) (.int j) μ Q=Q (.bl (decide (i < j))) μ:=propext NH
theorem Ew (i j:Int)(μ Q):rLe (.int i) (.int j) μ Q=Q (.bl (decide (i<=j))) μ:=propext NH
theorem Gs (i j:Int)(μ Q):rGt (.int i) (.int j) μ Q=Q (.bl (decide (j < i))) μ:=propext NH
theorem FV (i j:Int)(μ Q):rGe (.int i) (.int j) μ Q=Q (.bl (decide (j<=i))) μ:=propext NH
theorem Fo (a:Addr)(i:Int)(μ Q):L3.rIx (.obj a) (.int i) μ Q=kL μ a λds=>kO (atD ds i) λd=>Q d μ:=propext NH
theorem FP (μ Q):rIs .non .non μ Q=Q (.bl true) μ:=propext NH
theorem Ez (i:Int)(μ Q):rIs (.int i) .non μ Q=Q (.bl false) μ:=propext NH
theorem Gz (i:List D)(μ Q):rIs (.tup i) .non μ Q=Q (.bl false) μ:=propext NH
theorem FG (a:List D)(lo hi)(μ Q):rSl (.tup a) lo hi μ Q=Q (.tup (cutD a lo hi)) μ:=propext NH
theorem Fw (a:List D)(lo hi)(μ Q):rSl (.ls a) lo hi μ Q=Q (.ls (cutD a lo hi)) μ:=propext NH
theorem tE (ds:List D)(i:Int)(μ Q):L3.rIx (.tup ds) (.int i) μ Q=kO (atD ds i) λd=>Q d μ:=propext NH
theorem sF (ds:List D)(i:Int)(μ Q):L3.rIx (.ls ds) (.int i) μ Q=kO (atD ds i) λd=>Q d μ:=propext NH
theorem r9 (x y:D)(μ Q):L3.rEq x y μ Q=((okD 40 x=true/\okD 40 y=true)/\Q (.bl (eqD x y)) μ):=propext NH
theorem sH (x y:D)(μ Q):L3.rNe x y μ Q=((okD 40 x=true/\okD 40 y=true)/\Q (.bl (!eqD x y)) μ):=propext NH
theorem kif {p:Prop} [Decidable p] {A B:Prop}(h1:p->A)(h2:¬ p->B):kIf (decide p) A B:=by
 by_cases h:p
 ·rw[decide_eq_true h];exact h1 h
 ·rw[decide_eq_false h];exact h2 h
theorem tU {p:Prop} [Decidable p] {A B:Prop}(h1:¬ p->A)(h2:p->B):kIf (!decide p) A B:=by
 by_cases h:p
 ·rw[decide_eq_true h];exact h2 h
 ·rw[decide_eq_false h];exact h1 h
theorem Mx {p:Prop} [Decidable p] {A B:Prop}(h:¬ p)(hB:B):kIf (decide p) A B:=by rw[decide_eq_false h];exact hB
theorem nD {c:Bool}{A B:Prop}(h1:c=true->A)(h2:c=false->B):kIf c A B:=by
 cases c
 ·exact h2 rfl
 ·exact h1 rfl
theorem g9 {o:Option D}{d:D}{f:D->Prop}(e:o=some d)(h:f d):kO o f:=by rw[e];exact h
theorem qu {μ:Mu}{a:Addr}{ds:List D}{f:List D->Prop}(e:μ a=some (.lst ds))(h:f ds):kL μ a f:=by rw[Hn e];exact h
def LK:=Jn @Kp <| Jn @F1 <| Jn @JN <| Jn @F3 <| Jn @Kb <| Jn @Gx <| Jn @HS <| Jn @Fq <| Jn @HD <| Jn @Gi <| Jn @J6 <| Jn @Gn <| Jn @Jl <| Jn @Fy <| Jn @Ip <| Jn @FQ <| Jn @HN <| Jn @FF <| Jn @JK <| Jn @F4 <| Jn @F8 <| Jn @A0 <| Jn @M3 <| Jn @JY <| Jn @Mp <| Jn @EX <| Jn @Ka <| Jn @EW <| Jn @M7 <| Jn @MB <| Jn @HQ <| Jn @HW <| Jn @C0 <| Jn @J1 <| Jn @EC <| Jn @IX <| Jn @Iq <| Jn @Kz <| Jn @FZ <| Jn @Ek <| Jn @JO <| Jn @FL <| Jn @IZ <| Jn @Iz <| Jn @Kw <| Jn @Jh <| Jn @DP <| Jn @IW <| Jn @Az <| Jn @Kx <| Jn @IG <| Jn @Lw <| Jn @Mh <| Jn @Jc <| Jn @Kh <| Jn @Il <| Jn @Mq <| Jn @Gj <| Jn @La <| Jn @LC <| Jn @Mo <| Jn @Mz <| Jn @KW <| Jn @Mg <| Jn @Ld <| Jn @Li <| Jn @JI <| Jn @J3 <| Jn @Hz <| Jn @Ji <| Jn @Ke <| Jn @Jj <| Jn @Iv <| Jn @JL <| Jn @FI <| Jn @EF <| Jn @Er <| Jn @DH <| Jn @AI <| Jn @CP <| Jn @E5 <| Jn @Cm <| Jn @qU <| Jn @y3 <| Jn @xn <| Jn @Ag <| Jn @Av <| Jn @Aj <| Jn @zE <| Jn @DM <| Jn @Co <| Jn @CU <| Jn @Bc <| Jn @D9 <| Jn @Ba <| Jn @EU <| Jn @Ew <| Jn @Gs <| Jn @FV <| Jn @Fo <| Jn @FP <| Jn @Ez <| Jn @Gz <| Jn @FG <| Jn @Fw <| Jn @Ib <| Jn @Ir <| Jn @Kl <| Jn @IY <| Jn @CI <| Jn @Cb <| Jn @Kn <| @IK
def Ky:=Jn @kA <| Jn @mZ <| Jn @kY <| Jn @mP <| @n5
local macro_rules | `(tactic| walk_at "go")=>zzS "↓L3.LK L3.Ky ↓L3.tF ↓L3.kK L3.dX L3.dB L3.dW L3.ee L3.dU L3.d8 L3.eV L3.e6 L3.df L3.dZ L3.eo L3.dS L3.dQ L3.e8 L3.dR L3.eT L3.dP L3.eX L3.dY L3.fb L3.mF L3.Ku L3.IB L3.JX L3.JA L3.Iw L3.Kj L3.rB L3.o7 L3.qv L3.lH L3.Dc L3.A5 L3.yL L3.sT L3.jR L3.yb L3.yh L3.yk L3.tE L3.sF L3.r9 L3.sH true_and and_true and_self Bool.not_true Bool.not_false decide_true decide_false Bool.or_true Bool.or_false Bool.true_or Bool.false_or Bool.and_false Bool.false_and Bool.and_true Bool.true_and Int.reduceToNat Int.reducePow Int.reduceNeg Int.reduceSub Int.reduceAdd Int.reduceMul Int.reduceEq Int.reduceLT Int.reduceLE Int.reduceBEq L3.mW L3.iU L3.iS L3.iO L3.iP L3.iT L3.iW L3.iX if_true if_false Bool.false_eq_true reduceCtorEq decide_eq_true_eq"
local macro_rules | `(tactic| walk_at "ini")=>`(tactic| simp only[ini,List.map,List.length,List.replicate,Nat.reduceSub,Nat.reduceAdd,Nat.sub_self,List.cons_append,List.nil_append,List.append_nil])
theorem cQ {xs:List D}{P:D->Prop}(h:∀ d∈xs,P d){k:Int}(k0:0<=k)(k1:k < xs.length):∃ d,atD xs k=some d/\P d:=by
 obtain ⟨j,rfl⟩:=Ou k0
 rw[b6]
 have hj:j < xs.length:=by omega
 exact ⟨xs[j],by simp[hj],h _ (RP hj)⟩
def IsL (hi:Int)(d:D):Prop:=∃ p q,d=fr p q/\FrL hi p q
def IsI (lo hi:Int)(d:D):Prop:=∃ i:Int,d=.int i/\lo<=i/\i<=hi
theorem aD {P:D->Prop}:∀ d∈([]:List D),P d:=λ_ h=>nomatch h
theorem ah {P:D->Prop}{a:D}{xs:List D}(h:P a)(k:∀ d∈xs,P d):∀ d∈a::xs,P d:=λd hd=>by
 rcases N9.mp hd with e | e
 ·rw[e];exact h
 ·exact k d e
local macro_rules | `(tactic| walk_at "all")=>`(tactic| repeat' (first | exact aD | refine ah ?_ ?_))
structure pN (b p:Addr) (xs:List D) (μ μ':Mu):Prop where
 box:Box μ' b
 ne:p≠b
 new:μ p=none
 at':μ' p=some (.lst xs)
 oth:∀ a,a≠b->a≠p->μ' a=μ a
theorem pN.go {b p:Addr}{xs:List D}{μ μ1 μ2:Mu}(h:pN b p xs μ μ1)(B:cE b μ1 μ2):pN b p xs μ μ2:=
 ⟨B.box,h.ne,h.new,by rw[B.oth p h.ne];exact h.at',λa h1 h2=>by rw[B.oth a h1];exact h.oth a h1 h2⟩
theorem pN.set {b p:Addr}{xs ys:List D}{μ μ1:Mu}(h:pN b p xs μ μ1):pN b p ys μ (up μ1 p (.lst ys)):=by
 obtain ⟨g,s,c,e,hh⟩:=h.box
 exact ⟨⟨g,s,c,by rw[cJ h.ne.symm];exact e,hh⟩,h.ne,h.new,aX,λa h1 h2=>by rw[cJ h2];exact h.oth a h1 h2⟩
theorem Kc (μ:Mu)(p:Addr):Sub (dn μ p) μ:=λa o e=>by
 unfold dn at e
 split at e
 ·cases e
 ·exact e
theorem pN.fin {b p:Addr}{xs:List D}{μ μ1:Mu}(h:pN b p xs μ μ1):cE b μ (dn μ1 p):=by
 obtain ⟨g,s,c,e,hh⟩:=h.box
 refine ⟨⟨g,s,c,?_,hh⟩,λa ha=>?_⟩
 ·unfold dn;rw[if_neg h.ne.symm];exact e
 ·unfold dn
  split
  ·rename_i z;subst z;exact h.new.symm
  ·rename_i z;exact h.oth a ha z
theorem pN.rt {b p:Addr}{xs:List D}{μ μ1:Mu}{Q:DK}{d:D}(h:pN b p xs μ μ1)(k:∀ μ',cE b μ μ'->Q d μ'):RT Q d μ1:=⟨_,Kc μ1 p,k _ h.fin⟩
theorem iQ {p:Addr}{G:GTr}{tt:TTr}{te:ETr}{ρc:ST}{K:Mu->Prop}(P:List D->Mu->Prop)(hnil:∀ μ,P [] μ->K μ)
  (hcons:∀ d r μ (N:Mu->Prop),P (d::r) μ->(∀ μ',P r μ'->N μ')->G d ρc μ λρ1 μ1=>tt ρ1 μ1 λb μ2=>kIf b (te ρ1 μ2 λy μ3=>kL μ3 p λzs=>zs.length < 1000000/\N (up μ3 p (.lst (zs++[y])))) (N μ2)) :
  ∀ (ds:List D) (μ:Mu),P ds μ->ik p G tt te ρc K ds μ
 | [],μ,h=>hnil μ h
 | d::r,μ,h=>hcons d r μ _ h λμ' q=>iQ P hnil hcons r μ' q
theorem DT (kvs:List (Str×D))(e:ETr)(ρ:ST)(μ:Mu)(Q:DK):wb kvs e ρ μ Q=e ρ μ λx μ1=>BF x λs=>kO (bN kvs s) λd=>Q d μ1:=propext NH
theorem DQ (n:Bool)(kvs:List (Str×D))(e:ETr)(ρ:ST)(μ:Mu)(Q:DK):rm n kvs e ρ μ Q=e ρ μ λx μ1=>BF x λs=>Q (.bl (if n then !(bN kvs s).isSome else (bN kvs s).isSome)) μ1:=propext NH
theorem CC (s:Str)(f:Str->Prop):BF (.str s) f=f s:=propext NH
theorem EE (ks:List L2.Key)(t:ATr)(ρ:ST)(μ:Mu)(Q:DK):Bw ks t ρ μ Q = ∀ p,μ p=none->t ρ (up μ p (.dct [])) λds μ2=>kD μ2 p λkvs=>kvs=[]/\Q (.obj p) (up μ2 p (.dct (ks.zip ds))):=propext NH
theorem Bj (a b:ETr)(ρ:ST)(μ:Mu)(Q:DK):xW a b ρ μ Q=a ρ μ λx μ1=>Af μ1 x λ_=>b ρ μ1 λy μ2=>Af μ2 x λds=>(bR 38 ds=true/\okD 38 y=true)/\kN (zw ds y) λj=>j < 1000000/\Q (.int j) μ2:=propext NH
theorem Ii (a:ETr)(ρ:ST)(μ:Mu)(Q:List D->Mu->Prop):iC a ρ μ Q=a ρ μ λx μ1=>kS x λds=>Q ds μ1:=propext NH
theorem Hq (n:Bool)(x:D)(ds:List D)(μ:Mu)(Q:DK):wF n x (.tup ds) μ Q=((bR 38 ds=true/\okD 38 x=true)/\Q (.bl (if n then !inG x ds else inG x ds)) μ):=propext NH
theorem JP (n:Bool)(x:D)(ds:List D)(μ:Mu)(Q:DK):wF n x (.ls ds) μ Q=((bR 38 ds=true/\okD 38 x=true)/\Q (.bl (if n then !inG x ds else inG x ds)) μ):=propext NH
theorem Hv (μ:Mu)(ds:List D)(f:List D->Prop):Af μ (.ls ds) f=f ds:=propext NH
theorem Lu {μ:Mu}{a:Addr}{ds:List (L2.Key×D)}(h:μ a=some (.dct ds))(f):kD μ a f=f ds:=by unfold kD;rw[h]
theorem LR (μ:Mu)(a:Addr)(ds:List (L2.Key×D))(f:List (L2.Key×D)->Prop):kD (up μ a (.dct ds)) a f=f ds:=Lu aX f
theorem GI (d0:D)(r:List D)(f:D->Prop):kO (atD (d0::r) 0) f=f d0:=by rw[yN];rfl
theorem G7 (d0 d1:D)(r:List D)(f:D->Prop):kO (atD (d0::d1::r) 1) f=f d1:=by rw[yu];rfl
theorem GJ (d0 d1 d2:D)(r:List D)(f:D->Prop):kO (atD (d0::d1::d2::r) 2) f=f d2:=by rw[yS];rfl
theorem G5 (d0 d1 d2 d3:D)(r:List D)(f:D->Prop):kO (atD (d0::d1::d2::d3::r) 3) f=f d3:=by rw[yJ];rfl
theorem GU (d0 d1 d2 d3 d4:D)(r:List D)(f:D->Prop):kO (atD (d0::d1::d2::d3::d4::r) 4) f=f d4:=by rw[yE];rfl
theorem G3 (d0 d1 d2 d3 d4 d5:D)(r:List D)(f:D->Prop):kO (atD (d0::d1::d2::d3::d4::d5::r) 5) f=f d5:=by rw[yU];rfl
def wR (G:GTr)(tt:TTr)(te:ETr)(ρc:ST)(ds:List D)(μ:Mu)(Q:DK):Prop:=∀ p,μ p=none->ik p G tt te ρc (λμ'=>kL μ' p λzs=>Q (.ls zs) (dn μ' p)) ds (up μ p (.lst []))
theorem E9 (it:ATr)(G:GTr)(tt:TTr)(te:ETr)(n:Nat)(caps:List Nat)(ρ:ST)(μ:Mu)(Q:DK):cu it G tt te n caps ρ μ Q=it ρ μ λds μ1=>wR G tt te (jY ρ n caps) ds μ1 Q:=propext NH
theorem Iy (ρ:ST)(μ:Mu)(Q:Bool->Mu->Prop):gh ρ μ Q=Q true μ:=propext NH
theorem IT {μ:Mu}{a:Addr}{o:MO}(h:μ a=none):dn (up μ a o) a=μ:=Ee h
section
variable {G:GTr} {tt:TTr} {te:ETr} {ρc:ST} {ds:List D} {μ:Mu} {Q:DK}
theorem EA (f:D->Option D)(hl:ds.length<=999999)
  (step:∀ d∈ds,∀ μ',Sub μ μ'->∀ (N:Option D->Mu->Prop),N (f d) μ'->G d ρc μ' λρ1 μ1=>tt ρ1 μ1 λb μ2=>kIf b (te ρ1 μ2 λy μ3=>N (some y) μ3) (N none μ2))
  (k:Q (.ls (ds.filterMap f)) μ):wR G tt te ρc ds μ Q:=by
 intro p hp
 refine iQ (λr μ'=>∃ done,ds=done++r/\μ'=up μ p (.lst (done.filterMap f))) ?_ ?_ _ _ ⟨[],rfl,rfl⟩
 ·rintro μ' ⟨done,e,rfl⟩
  rw[OI] at e
  subst e
  refine qu aX ?_
  rw[Ee hp];exact k
 ·rintro d r μ' N ⟨done,e,rfl⟩ hN
  have hd:d∈ds:=by rw[e];simp
  have e':ds=(done++[d])++r:=by rw[e];simp
  have lf:(done.filterMap f).length < 1000000:=by
   have h1:=List.length_filterMap_le f done
   have h2:ds.length=done.length+(d::r).length:=by rw[e,NW]
   rw[NN] at h2;omega
  refine step d hd _ (Sub.new hp) (λoy μ3=>match oy with
   | some y=>kL μ3 p λzs=>zs.length < 1000000/\N (up μ3 p (.lst (zs++[y])))
   | none=>N μ3) ?_
  cases hf:f d with
  | none=>
   refine hN _ ⟨done++[d],e',?_⟩
   rw[QE];simp[hf]
  | some y=>
   refine qu aX ⟨lf,hN _ ⟨done++[d],e',?_⟩⟩
   rw[QE,mW];simp[hf]
theorem comp_map (f:D->D)(hl:ds.length<=999999)
  (step:∀ d∈ds,∀ μ',Sub μ μ'->∀ (N:DK),N (f d) μ'->G d ρc μ' λρ1 μ1=>te ρ1 μ1 N)
  (k:Q (.ls (ds.map f)) μ):wR G gh te ρc ds μ Q:=by
 refine EA (λd=>some (f d)) hl (λd hd μ' s N n=>?_) (by rw[show (λd=>some (f d))=some ∘ f from rfl,Su];exact k)
 exact step d hd μ' s (λy μ3=>N (some y) μ3) n
theorem Bb (I:List D->List D->Prop)(h0:I ds [])(hl:ds.length<=999999)
  (step:∀ d r zs μ',Sub μ μ'->I (d::r) zs->∀ (N:Option D->Mu->Prop),(∀ oy,I r (zs++oy.toList)->N oy μ')->G d ρc μ' λρ1 μ1=>tt ρ1 μ1 λb μ2=>kIf b (te ρ1 μ2 λy μ3=>N (some y) μ3) (N none μ2))
  (k:∀ zs,I [] zs->Q (.ls zs) μ):wR G tt te ρc ds μ Q:=by
 intro p hp
 refine iQ (λr μ'=>∃ zs,I r zs/\zs.length+r.length<=ds.length/\μ'=up μ p (.lst zs)) ?_ ?_ _ _ ⟨[],h0,by simp,rfl⟩
 ·rintro μ' ⟨zs,hI,_,rfl⟩
  refine qu aX ?_
  rw[Ee hp];exact k zs hI
 ·rintro d r μ' N ⟨zs,hI,hz,rfl⟩ hN
  rw[NN] at hz
  refine step d r zs _ (Sub.new hp) hI (λoy μ3=>match oy with
   | some y=>kL μ3 p λzs=>zs.length < 1000000/\N (up μ3 p (.lst (zs++[y])))
   | none=>N μ3) ?_
  intro oy hoy
  cases oy with
  | none=>exact hN _ ⟨zs,by simpa using hoy,by omega,rfl⟩
  | some y=>
   refine qu aX ⟨by omega,hN _ ⟨zs++[y],hoy,by rw[NW];simp;omega,?_⟩⟩
   rw[mW]
theorem Cf {α:Type}(xs:List α)(t:α->D)(h:α->Option D)(hds:ds=xs.map t)(hl:xs.length<=999999)
  (step:∀ x∈xs,∀ μ',Sub μ μ'->∀ (N:Option D->Mu->Prop),N (h x) μ'->G (t x) ρc μ' λρ1 μ1=>tt ρ1 μ1 λb μ2=>kIf b (te ρ1 μ2 λy μ3=>N (some y) μ3) (N none μ2))
  (k:Q (.ls (xs.filterMap h)) μ):wR G tt te ρc ds μ Q:=by
 subst hds
 refine Bb (λr zs=>∃ a c,xs=a++c/\r=c.map t/\zs=a.filterMap h) ⟨[],xs,rfl,rfl,rfl⟩ (by simpa using hl) ?_ ?_
 ·rintro d r zs μ' sb ⟨a,c,e,er,rfl⟩ N hN
  cases c with
  | nil=>cases er
  | cons x c=>
  cases er
  refine step x (by rw[e];simp) μ' sb N (hN _ ⟨a++[x],c,by rw[e];simp,rfl,?_⟩)
  rw[QE]
  cases hx:h x<;>simp[hx]
 ·rintro zs ⟨a,c,e,er,rfl⟩
  have:c=[]:=by cases c with | nil=>rfl | cons=>cases er
  subst this
  rw[OI] at e
  subst e;exact k
theorem zQ {α:Type}(xs:List α)(t:α->D)(h:α->D)(hds:ds=xs.map t)(hl:xs.length<=999999)
  (step:∀ x∈xs,∀ μ',Sub μ μ'->∀ (N:DK),N (h x) μ'->G (t x) ρc μ' λρ1 μ1=>te ρ1 μ1 N)
  (k:Q (.ls (xs.map h)) μ):wR G gh te ρc ds μ Q:=by
 refine Cf xs t (λx=>some (h x)) hds hl (λx hx μ' s N n=>?_) (by rw[show (λx=>some (h x))=some ∘ h from rfl,Su];exact k)
 exact step x hx μ' s (λy μ3=>N (some y) μ3) n
end
section
open PySem PySem.Spec PyProof.Rows L2
section
variable {X:Cx} {o i e:N1} {apos cpos:Pos} {To Ti Te:ETr}
end
end
section
open PySem PySem.Spec PyProof.Rows L2
section
variable {X:Cx} {a b m o i:N1} {p1 p2 pos apos cpos:Pos} {ta tb tm:TE} {Ta Tb Tm To Ti:ETr}
def kIn (x:D)(f:Int->Prop):Prop:=match x with
 | .int i=>i.natAbs.log2 < 1920/\f i
 | _=>False
def MK (x:D)(f:Str->Prop):Prop:=match x with
 | .str z=>f z
 | _=>False
def DJ (To Ti:ETr):ETr:=λρ μ Q=>To ρ μ λx μ1=>MK x λsep=>Ti ρ μ1 λy μ2=>match y with
  | .tup ds=>∃ zs,u4 ds=some zs/\(zs.map (·.length)).sum+zs.length*sep.length<=16777216/\Q (.str (Txt.join sep zs)) μ2
  | _=>False
end
end
def itS (i:Int):Str:=toString i
def shw:D->Str
 | .str z=>z
 | .int i=>itS i
 | .tup [.int a,.int b]=>if b=1 then itS a else itS a++NA "/" ++ itS b
 | _=>NA "-"
def lW (d:D):Prop:=(∃ i:Int,d=.int i/\0<=i/\i < 10000000000)∨∃ a b:Int,d=.tup [.int a,.int b]/\(0<=a/\a < 10000000000)/\0<=b/\b < 10000000000
def J4 (d:D):Prop:=d=.non∨(∃ z,d=.str z/\Oe z=true/\z.length<=200)∨lW d
structure WT where
 nm:Str
 p:Int
 r:Int
 m:Option Int
 so:Str
def oD:Option Int->D
 | none=>.non
 | some i=>.int i
def WT.toD (w:WT):D:=.tup [.str w.nm,.int w.p,.int w.r,oD w.m,.str w.so]
structure la (z:Str):Prop where
 o:Oe z=true
 l:z.length<=8
structure iZ (i:Int):Prop where
 l:0<=i
 u:i < 10000000000
structure WT.Ok (w:WT):Prop where
 n:la w.nm
 p:iZ w.p
 r:iZ w.r
 m:∀ i,w.m=some i->iZ i
 s:la w.so
structure ST' where
 nm:Str
 rd:List Str
 bt:Int
 bg:Int
 mn:Option Int
 wd:Str
 ps:List D
def ST'.toD (s:ST'):D:=.tup [.str s.nm,.tup (s.rd.map .str),.int s.bt,.int s.bg,oD s.mn,.tup (.str s.wd::s.ps)]
structure ST'.Ok (s:ST'):Prop where
 n:la s.nm
 r:∀ z∈s.rd,la z
 rl:s.rd.length<=8
 b:iZ s.bt
 g:iZ s.bg
 m:∀ i,s.mn=some i->iZ i
 w:la s.wd
 p:∀ d∈s.ps,lW d
 pl:s.ps.length<=6
def sp1:Str:=NA " "
def WT.ds (w:WT):List D:=[.str "way", .str w.nm,.int w.p,.int w.r,oD w.m,.str w.so]
def ST'.ds (s:ST'):List D:=[.str "sender", .str s.nm,.str (Str.join (NA ",") s.rd),.int s.bt,.int s.bg,oD s.mn,.str s.wd]++s.ps
theorem MY {z:Str}(h:la z):J4 (.str z):=.inr (.inl ⟨z,rfl,h.o,OJ h.l (by decide)⟩)
theorem Nm {i:Int}(h:iZ i):J4 (.int i):=.inr (.inr (.inl ⟨i,rfl,h.l,h.u⟩))
def J7 (ds:List D):Str:=Str.join sp1 (ds.map shw)
structure PT where
 g:Int
 ws:List WT
 ss:List ST'
def PT.toD (p:PT):D:=.tup [.int p.g,.tup (p.ws.map WT.toD),.tup (p.ss.map ST'.toD)]
structure PT.Ok (p:PT):Prop where
 g:iZ p.g
 w:∀ w∈p.ws,w.Ok
 s:∀ s∈p.ss,s.Ok
 wl:p.ws.length<=8
 sl:p.ss.length<=8
def PT.gd (p:PT):List D:=[.str "grid", .int p.g]
def PT.rows (p:PT):List Str:=J7 p.gd::(p.ws.map (λw=>J7 w.ds)++p.ss.map λs=>J7 s.ds)
theorem PT.Ok.gd {p:PT}(h:p.Ok):∀ d∈p.gd,J4 d:=ah (MY ⟨by decide +kernel,by decide +kernel⟩) (ah (Nm h.g) aD)
theorem PT.Ok.len {p:PT}(h:p.Ok):p.rows.length<=17:=by
 have:=h.wl
 have:=h.sl
 unfold PT.rows
 rw[NN,NW,NK,NK]
 omega
def nl:Str:=NA "\n"
theorem uG:br "NoneType" "int" = false:=by decide +kernel
theorem qI:br "NoneType" "bool" = false:=by decide +kernel
theorem vd:br "NoneType" "str" = false:=by decide +kernel
theorem oB:br "NoneType" "tuple" = false:=by decide +kernel
theorem uR:br "bool" "int" = true:=by decide +kernel
theorem qT:br "bool" "bool" = true:=by decide +kernel
theorem vI:br "bool" "str" = false:=by decide +kernel
theorem oA:br "bool" "tuple" = false:=by decide +kernel
theorem vk:br "int" "int" = true:=by decide +kernel
theorem qz:br "int" "bool" = false:=by decide +kernel
theorem tR:br "int" "str" = false:=by decide +kernel
theorem nV:br "int" "tuple" = false:=by decide +kernel
theorem ui:br "str" "int" = false:=by decide +kernel
theorem qL:br "str" "bool" = false:=by decide +kernel
theorem vp:br "str" "str" = true:=by decide +kernel
theorem om:br "str" "tuple" = false:=by decide +kernel
theorem uI:br "tuple" "int" = false:=by decide +kernel
theorem qE:br "tuple" "bool" = false:=by decide +kernel
theorem uM:br "tuple" "str" = false:=by decide +kernel
theorem og:br "tuple" "tuple" = true:=by decide +kernel
theorem ub:br "list" "int" = false:=by decide +kernel
theorem qp:br "list" "bool" = false:=by decide +kernel
theorem uK:br "list" "str" = false:=by decide +kernel
theorem ni:br "list" "tuple" = false:=by decide +kernel
theorem tT:br "dict" "int" = false:=by decide +kernel
theorem qD:br "dict" "bool" = false:=by decide +kernel
theorem vi:br "dict" "str" = false:=by decide +kernel
theorem oZ:br "dict" "tuple" = false:=by decide +kernel
def kTx (x:D)(f:Str->Prop):Prop:=match x with
 | .str z=>f z
 | _=>False
section
variable (c:String) (μ:Mu) (Q:DK)
theorem K8:cU c .non μ Q=Q (.bl (br "NoneType" c)) μ:=propext NH
theorem KY (b:Bool):cU c (.bl b) μ Q=Q (.bl (br "bool" c)) μ:=propext NH
theorem LN (b:Int):cU c (.int b) μ Q=Q (.bl (br "int" c)) μ:=propext NH
theorem K1 (b:Str):cU c (.str b) μ Q=Q (.bl (br "str" c)) μ:=propext NH
theorem Ln (b:List D):cU c (.tup b) μ Q=Q (.bl (br "tuple" c)) μ:=propext NH
theorem LX (b:List D):cU c (.ls b) μ Q=Q (.bl (br "list" c)) μ:=propext NH
theorem jZ {c μ Q}{a:Addr}{k:List (L2.Key×D)}(e:μ a=some (.dct k)):cU c (.obj a) μ Q=Q (.bl (br "dict" c)) μ:=by unfold cU;simp only[tyO,e]
theorem GB (b:Bool):rIs (.bl b) .non μ Q=Q (.bl false) μ:=propext NH
theorem E6 (b:Str):rIs (.str b) .non μ Q=Q (.bl false) μ:=propext NH
theorem EG (b:List D):rIs (.ls b) .non μ Q=Q (.bl false) μ:=propext NH
theorem Gp (b:Addr):rIs (.obj b) .non μ Q=Q (.bl false) μ:=propext NH
theorem J8 (x y:Str):Fx (.str x) (.str y) μ Q=Q (.bl (Ed y x)) μ:=propext NH
theorem Gf (x:Str)(i:Int):jk (.str x) (.int i) μ Q=(x.length<=1000000/\kN (L2.atI x.cps.toList i) λc=>Q (.str ⟨#[c]⟩) μ):=propext NH
theorem F2 (x:Str)(i:Int):lg (.str x) (.int i) μ Q=((i<=1000/\-1000<=i/\x.length<=1000)/\Q (.str (mv x i.toNat)) μ):=propext NH
theorem Cw (a:ETr)(ρ:ST)(Q:List D->Mu->Prop):Fs a ρ μ Q=a ρ μ λx μ1=>kTx x λz=>z.cps.all (· < 128)=true/\Q (vt z) μ1:=by
 unfold Fs kTx;rfl
theorem Cj (a:ETr)(lo hi:OTr)(ρ:ST):KP a lo hi ρ μ Q=a ρ μ λx μ1=>lo ρ μ1 λi μ2=>hi ρ μ2 λj μ3=>kTx x λz=>z.length<=1000000/\Q (.str (Txt.slice z i j)) μ3:=by
 unfold KP kTx;rfl
theorem KS (z:Str)(f:Str->Prop):kTx (.str z) f=f z:=propext NH
theorem E4 (ρ:ST):u3 ρ μ Q = ∀ p,μ p=none->Q (.obj p) (up μ p (.dct [])):=propext NH
end
theorem LL (z:List D)(f:List D->Prop):kLz (.ls z) f=f z:=propext NH
theorem we (a:ETr)(ρ:ST)(μ:Mu)(Q:DK):nF a ρ μ Q=a ρ μ λx μ1=>kLz x λxs=>∃ ss:List Str,(xs=ss.map .str/\ss.length < 4000/\(ddT ss).length < 64)/\∀ ss':List Str,ss'.Perm (ddT ss)->ss'.Pairwise (λa b=>ltS b a=false)->Q (.ls (ss'.map .str)) μ1:=propext NH
theorem Al (a:ETr)(ρ:ST)(μ:Mu)(Q:DK):rM a ρ μ Q=a ρ μ λx μ1=>kLz x λxs=>∃ ss:List Str,(xs=ss.map .str/\ss.length < 4000)/\Q (.int (ddT ss).length) μ1:=propext NH
theorem yB (a i:ETr)(ρ:ST)(μ:Mu)(Q:DK):GR a i ρ μ Q=a ρ μ λx μ1=>kTx x λsep=>i ρ μ1 λy μ2=>kLz y λds=>∃ zs,u4 ds=some zs/\JoinOk sep zs=true/\Q (.str (Txt.join sep zs)) μ2:=by
 unfold GR kTx kLz;rfl
def kTz (x:D)(f:List D->Prop):Prop:=match x with
 | .tup z=>f z
 | _=>False
theorem ua (a i:ETr)(ρ:ST)(μ:Mu)(Q:DK):DJ a i ρ μ Q=a ρ μ λx μ1=>kTx x λsep=>i ρ μ1 λy μ2=>kTz y λds=>∃ zs,u4 ds=some zs/\(zs.map (·.length)).sum+zs.length*sep.length<=16777216/\Q (.str (Txt.join sep zs)) μ2:=by
 unfold DJ kTx kTz;rfl
def LZ:=Jn @we <| Jn @Al <| Jn @LL <| Jn @K8 <| Jn @KY <| Jn @LN <| Jn @K1 <| Jn @Ln <| Jn @LX <| Jn @GB <| Jn @E6 <| Jn @EG <| Jn @Gp <| Jn @J8 <| Jn @Gf <| Jn @F2 <| Jn @KS <| Jn @E4 <| Jn @E9 <| Jn @Iy <| Jn @DT <| Jn @DQ <| Jn @CC <| Jn @EE <| Jn @Bj <| Jn @Ii <| Jn @Hq <| Jn @JP <| Jn @Hv <| Jn @LR <| @LK
local macro_rules | `(tactic| walk_at "go")=>zzS "↓L3.LZ L3.Ky ↓L3.yB ↓L3.ua ↓L3.Cw ↓L3.Cj ↓L3.GI ↓L3.G7 ↓L3.GJ ↓L3.G5 ↓L3.GU ↓L3.G3 ↓L3.tF ↓L3.kK L3.dX L3.dB L3.dW L3.ee L3.dU L3.d8 L3.eV L3.e6 L3.df L3.dZ L3.eo L3.dS L3.dQ L3.e8 L3.dR L3.eT L3.dP L3.eX L3.dY L3.fb L3.mF L3.uG L3.qI L3.vd L3.oB L3.uR L3.qT L3.vI L3.oA L3.vk L3.qz L3.tR L3.nV L3.ui L3.qL L3.vp L3.om L3.uI L3.qE L3.uM L3.og L3.ub L3.qp L3.uK L3.ni L3.tT L3.qD L3.vi L3.oZ L3.jY List.map_cons List.map_nil List.replicate List.cons_append List.nil_append L3.lk L3.Ku L3.IB L3.JX L3.JA L3.Iw L3.Kj L3.rB L3.o7 L3.qv L3.lH L3.Dc L3.A5 L3.yL L3.sT L3.jR L3.yb L3.yh L3.yk L3.tE L3.sF L3.r9 L3.sH true_and and_true and_self Bool.not_true Bool.not_false decide_true decide_false Bool.or_true Bool.or_false Bool.true_or Bool.false_or Bool.and_false Bool.false_and Bool.and_true Bool.true_and Int.reduceToNat Int.reducePow Int.reduceNeg Int.reduceSub Int.reduceAdd Int.reduceMul Int.reduceEq Int.reduceLT Int.reduceLE Int.reduceBEq L3.mW L3.iU L3.iS L3.iO L3.iP L3.iT L3.iW L3.iX if_true if_false Bool.false_eq_true reduceCtorEq decide_eq_true_eq"
inductive Any (μ:Mu):D->Prop
 | non:Any μ .non
 | bl (b:Bool):Any μ (.bl b)
 | int {i:Int} (h:bx i):Any μ (.int i)
 | str {z:Str} (h:z.cps.all (· < 128)=true) (hl:z.length<=1000):Any μ (.str z)
 | tup {ds:List D} (h:∀ d∈ds,Any μ d) (hl:ds.length<=1000):Any μ (.tup ds)
 | ls (ds:List D):Any μ (.ls ds)
 | dct {a:Addr} {k:List (L2.Key×D)} (e:μ a=some (.dct k)):Any μ (.obj a)
theorem Any.bW {μ:Mu}{ds:List D}(h:Any μ (.tup ds)):∀ d∈ds,Any μ d:=by cases h;assumption
theorem Any.sub {μ μ':Mu}{d:D}(s:Sub μ μ')(h:Any μ d):Any μ' d:=by
 induction h with
 | non=>exact .non
 | bl b=>exact .bl b
 | int h=>exact .int h
 | str h hl=>exact .str h hl
 | tup _ hl ih=>exact .tup ih hl
 | ls ds=>exact .ls ds
 | dct e=>exact .dct (s _ _ e)
theorem Any.m {μ:Mu}{i:Int}(h:Any μ (.int i)):bx i:=by cases h;assumption
theorem bx.mul {p q:Int}(h:bx p)(h':bx q):MulOk p q:=.inr ⟨h,h'⟩
def isI:D->Bool
 | .int _=>true
 | _=>false
def wiI (lo hi:Int):D->Bool
 | .int i=>decide (lo<=i)&&decide (i<=hi)
 | _=>false
def isT (m:Int):D->Bool
 | .tup ds=>decide ((ds.length:Int)=m)
 | _=>false
theorem fL {c:Bool}{A B:Prop}(h1:c=true->B)(h2:c=false->A):kIf (!c) A B:=by
 cases c with
 | true=>exact h1 rfl
 | false=>exact h2 rfl
def cf:FSp:=λds μ Q=>kcA ds λd ds=>kcN ds (Any μ d/\Q (.bl (isI d)) μ)
theorem nJ:∀ ds μ Q,cf ds μ Q->ds.length=1:=λ_ _ _ h=>lcA h λ_ _ h=>by rw[(ecN h).1];rfl
def km:STr:=aR (cZ (TUn (cU "int") (ai 0)) (lr (TUn (cU "bool") (ai 0))))
theorem pj:∀ ds μ Q,cf ds μ Q->km { nx:=λ_ μ'=>RT Q .non μ',rt:=RT Q } (ini 1 ds) μ:=by
 intro ds μ Q h
 replace h:=ecA h
 obtain ⟨d,ds,rfl,h⟩:=h
 replace h:=ecN h
 obtain ⟨rfl,h⟩:=h
 walk_at "ini"
 unfold km
 walk_at "go"
 obtain ⟨t,k⟩:=h
 cases t
 all_goals
  walk_at "go"
  try (rw[jZ (by assumption)];walk_at "go")
  exact ⟨_,.refl _,k⟩
def aL:FSp:=λds μ Q=>kcA ds λd ds=>kcI ds λlo ds=>kcI ds λhi ds=>kcN ds (Any μ d/\Q (.bl (wiI lo hi d)) μ)
theorem hE:∀ ds μ Q,aL ds μ Q->ds.length=3:=λ_ _ _ h=>lcA h λ_ _ h=>lcI h λ_ _ h=>lcI h λ_ _ h=>by rw[(ecN h).1];rfl
def eQ:STr:=aR (cZ (au cf (af (ai 0) (ar))) (fK rLe rLe (ai 1) (ai 0) (ai 2)))
theorem ip:∀ ds μ Q,aL ds μ Q->eQ { nx:=λ_ μ'=>RT Q .non μ',rt:=RT Q } (ini 3 ds) μ:=by
 intro ds μ Q h
 replace h:=ecA h
 obtain ⟨d,ds,rfl,h⟩:=h
 replace h:=ecI h
 obtain ⟨lo,ds,rfl,h⟩:=h
 replace h:=ecI h
 obtain ⟨hi,ds,rfl,h⟩:=h
 replace h:=ecN h
 obtain ⟨rfl,h⟩:=h
 walk_at "ini"
 unfold eQ
 walk_at "go"
 obtain ⟨t,k⟩:=h
 refine ⟨t,?_⟩
 cases t with
 | int hi'=>
  walk_at "go"
  simp only[isI]
  walk_at "go"
  simp only[wiI] at k
  refine kif (λh=>?_) λh=>?_
  ·rw[decide_eq_true h,N5] at k;exact ⟨_,.refl _,k⟩
  ·rw[decide_eq_false h,NQ] at k;exact ⟨_,.refl _,k⟩
 | _=>
  walk_at "go"
  simp only[isI]
  walk_at "go"
  exact ⟨_,.refl _,k⟩
def bw:FSp:=λds μ Q=>kcA ds λd ds=>kcI ds λm ds=>kcN ds (Any μ d/\Q (.bl (isT m d)) μ)
theorem j7:∀ ds μ Q,bw ds μ Q->ds.length=2:=λ_ _ _ h=>lcA h λ_ _ h=>lcI h λ_ _ h=>by rw[(ecN h).1];rfl
def g8:STr:=aR (cZ (TUn (cU "tuple") (ai 0)) (aq rEq (au e7 (af (ai 0) (ar))) (ai 1)))
theorem kU:∀ ds μ Q,bw ds μ Q->g8 { nx:=λ_ μ'=>RT Q .non μ',rt:=RT Q } (ini 2 ds) μ:=by
 intro ds μ Q h
 replace h:=ecA h
 obtain ⟨d,ds,rfl,h⟩:=h
 replace h:=ecI h
 obtain ⟨m,ds,rfl,h⟩:=h
 replace h:=ecN h
 obtain ⟨rfl,h⟩:=h
 walk_at "ini"
 unfold g8
 walk_at "go"
 obtain ⟨t,k⟩:=h
 cases t with
 | tup hd hl=>
  walk_at "go"
  exact ⟨_,.refl _,k⟩
 | _=>
  walk_at "go"
  try (rw[jZ (by assumption)];walk_at "go")
  exact ⟨_,.refl _,k⟩
def sm (c:Nat):Bool:=decide (97<=c)&&decide (c<=122)
def nmS (z:Str):Bool:=(decide (1<=z.cps.toList.length)&&decide (z.cps.toList.length<=8))&&z.cps.toList.all sm
def nmB:D->Bool
 | .str z=>nmS z
 | _=>false
def LET:Str:=NA "abcdefghijklmnopqrstuvwxyz"
theorem FE:∀ c:Nat,c < 128->Ed LET ⟨#[c]⟩=sm c:=by
 have:∀ c:Fin 128,Ed LET ⟨#[c.val]⟩=sm c.val:=by decide +kernel
 exact λc h=>this ⟨c,h⟩
theorem iB (z:Str):z.cps.toList.length=z.length:=OM
def sgB:D->D
 | .str ⟨a⟩=>.bl (sm (a.getD 0 0))
 | d=>d
def cA:FSp:=λds μ Q=>kcA ds λd ds=>kcN ds (Any μ d/\Q (.bl (nmB d)) μ)
theorem pH:∀ ds μ Q,cA ds μ Q->ds.length=1:=λ_ _ _ h=>lcA h λ_ _ h=>by rw[(ecN h).1];rfl
def lV:STr:=aE (bI (TOr (cg (TB (TUn (cU "str") (ai 0)))) (cg (TB (fK rLe rLe (TC (.int 1)) (au e7 (af (ai 0) (ar))) (TC (.int 8)))))) (aR (TC (.bl false))) (aY)) (aR (au BI (af (cu (Fs (ai 0)) (az 0) (gh) (aq Fx (ai 0) (TC (.str "abcdefghijklmnopqrstuvwxyz"))) 1 []) (ar))))
theorem qX:∀ ds μ Q,cA ds μ Q->lV { nx:=λ_ μ'=>RT Q .non μ',rt:=RT Q } (ini 1 ds) μ:=by
 intro ds μ Q h
 replace h:=ecA h
 obtain ⟨d,ds,rfl,h⟩:=h
 replace h:=ecN h
 obtain ⟨rfl,h⟩:=h
 walk_at "ini"
 unfold lV
 walk_at "go"
 obtain ⟨t,k⟩:=h
 cases t with
 | @str z hz hl=>
  walk_at "go"
  refine ⟨by omega,?_⟩
  walk_at "go"
  have e1:((1:Int)<=(z.length:Nat))↔1<=z.cps.toList.length:=by rw[iB];omega
  have e2:(((z.length:Nat):Int)<=8)↔z.cps.toList.length<=8:=by rw[iB];omega
  have no:¬ (1<=z.cps.toList.length/\z.cps.toList.length<=8)->RT Q (.bl false) μ:=λh=>by
   have:nmB (.str z)=false:=by
    show nmS z=false
    unfold nmS
    rw[← UB,decide_eq_false h,NQ]
   rw[this] at k
   exact ⟨_,.refl _,k⟩
  refine kif (λh1=>?_) λh1=>no λh=>h1 (e1.mpr h.1)
  refine tU (λh2=>no λh=>h2 (e2.mpr h.2)) λh2=>?_
  refine ⟨hz,?_⟩
  refine comp_map sgB (by rw[rN];have:z.cps.size=z.length:=rfl;omega) (λd hd μ' _ N n=>?_) ?_
  ·unfold vt at hd
   obtain ⟨c,hc,rfl⟩:=Od.mp hd
   have c1:c < 128:=by
    have:=OW.mp hz c (by simpa using hc)
    simpa using this
   walk_at "go"
   rw[show Ed (NA "abcdefghijklmnopqrstuvwxyz") ⟨#[c]⟩=sm c from FE c c1]
   exact n
  ·walk_at "go"
   refine ⟨z.cps.toList.map sm,?_,_,.refl _,?_⟩
   ·unfold vt
    rw[OG,OG];rfl
   ·have:nmB (.str z)=(z.cps.toList.map sm).all id:=by
     show nmS z=_
     unfold nmS
     rw[decide_eq_true (e1.mp h1),decide_eq_true (e2.mp h2),N5,N5,Q6];rfl
    rw[this] at k;exact k
 | _=>
  walk_at "go"
  try (rw[jZ (by assumption)];walk_at "go")
  exact ⟨_,.refl _,k⟩
def isF:D->Bool
 | .tup [.int p,.int q]=>decide (0 < q)&&decide (Oj p q=1)
 | _=>false
theorem two {d:D}(h:isT 2 d=true):∃ a b,d=.tup [a,b]:=by
 unfold isT at h
 split at h
 ·rename_i ds
  have h:=of_decide_eq_true h
  match ds,(show ds.length=2 by omega) with
  | [n,p],_=>exact ⟨n,p,rfl⟩
 ·cases h
theorem Ej {d:D}(h:isI d=true):∃ i,d=.int i:=by
 cases d with
 | int i=>exact ⟨i,rfl⟩
 | _=>cases h
theorem K2 {d:D}(h:isT 2 d=false):isF d=false:=by
 unfold isF
 split
 ·simp[isT] at h
 ·rfl
theorem Ml {a b:D}(h:isI a=false):isF (.tup [a,b])=false:=by
 cases a with
 | int i=>cases h
 | _=>rfl
theorem KO {a b:D}(h:isI b=false):isF (.tup [a,b])=false:=by
 cases b with
 | int i=>cases h
 | _=>cases a<;>rfl
def cw:FSp:=λds μ Q=>kcA ds λd ds=>kcN ds (Any μ d/\Q (.bl (isF d)) μ)
theorem jI:∀ ds μ Q,cw ds μ Q->ds.length=1:=λ_ _ _ h=>lcA h λ_ _ h=>by rw[(ecN h).1];rfl
def gY:STr:=aE (bI (TOr (cg (TB (au bw (af (ai 0) (af (TC (.int 2)) (ar)))))) (TOr (cg (TB (au cf (af (aq L3.rIx (ai 0) (TC (.int 0))) (ar))))) (cg (TB (au cf (af (aq L3.rIx (ai 0) (TC (.int 1))) (ar))))))) (aR (TC (.bl false))) (aY)) (aR (cZ (aq rGt (aq L3.rIx (ai 0) (TC (.int 1))) (TC (.int 0))) (aq rEq (au eR (af (aq L3.rIx (ai 0) (TC (.int 0))) (af (aq L3.rIx (ai 0) (TC (.int 1))) (ar)))) (TC (.int 1)))))
theorem kR:∀ ds μ Q,cw ds μ Q->gY { nx:=λ_ μ'=>RT Q .non μ',rt:=RT Q } (ini 1 ds) μ:=by
 intro ds μ Q h
 replace h:=ecA h
 obtain ⟨d,ds,rfl,h⟩:=h
 replace h:=ecN h
 obtain ⟨rfl,h⟩:=h
 walk_at "ini"
 unfold gY
 walk_at "go"
 obtain ⟨t,k⟩:=h
 have fin:∀ {b},isF d=b->RT Q (.bl b) μ:=λ{b} e=>by rw[e] at k;exact ⟨_,.refl _,k⟩
 refine ⟨t,?_⟩
 walk_at "go"
 refine fL (λh=>?_) λh=>fin (K2 h)
 obtain ⟨a,b,rfl⟩:=two h
 have ta:=t.bW a (by simp)
 have tb:=t.bW b (by simp)
 walk_at "go"
 refine ⟨ta,?_⟩
 walk_at "go"
 refine fL (λh1=>?_) λh1=>fin (Ml h1)
 refine ⟨tb,?_⟩
 walk_at "go"
 refine fL (λh2=>?_) λh2=>fin (KO h2)
 obtain ⟨p,rfl⟩:=Ej h1
 obtain ⟨q,rfl⟩:=Ej h2
 walk_at "go"
 refine kif (λh=>?_) λh=>fin (by simp only[isF,decide_eq_false h,NQ])
 refine ⟨rfl,fin ?_⟩
 simp only[isF,decide_eq_true h,N5,qv]
 exact decide_eq_decide.mpr (by omega)
def cc:FSp:=λds μ Q=>match ds with
 | [.tup [.int p,.int q],.tup [.int r,.int s]]=>((bx p/\bx q)/\bx r/\bx s)/\Q (.bl (decide (p*s < r*q))) μ
 | _=>False
theorem xG:∀ ds μ Q,cc ds μ Q->ds.length=2:=by
 unfold cc
 walk_at "ln"
def va:STr:=aR (aq rLt (aq gB (aq L3.rIx (ai 0) (TC (.int 0))) (aq L3.rIx (ai 1) (TC (.int 1)))) (aq gB (aq L3.rIx (ai 1) (TC (.int 0))) (aq L3.rIx (ai 0) (TC (.int 1)))))
theorem zL:∀ ds μ Q,cc ds μ Q->va { nx:=λ_ μ'=>RT Q .non μ',rt:=RT Q } (ini 2 ds) μ:=by
 intro ds μ Q h
 unfold cc at h
 split at h
 case h_2=>exact h.elim
 rename_i p q r s
 walk_at "ini"
 unfold va
 walk_at "go"
 obtain ⟨⟨⟨h1,h2⟩,h3,h4⟩,k⟩:=h
 exact ⟨h1.mul h4,h3.mul h2,_,.refl _,k⟩
theorem Dy {xs:List D}{c:Int}(c0:0<=c):atD xs c=xs[c.toNat]?:=by
 have:=b6 c.toNat xs
 rwa [Int.toNat_of_nonneg c0] at this
def cV:FSp:=λds μ Q=>kcT ds λxs ds=>kcN ds (∃ d,(xs[xs.length - 1]? = some d/\xs≠[]/\xs.length<=1000)/\Q d μ)
theorem rR:∀ ds μ Q,cV ds μ Q->ds.length=1:=λ_ _ _ h=>lcT h λ_ _ h=>by rw[(ecN h).1];rfl
def mQ:STr:=aR (aq L3.rIx (ai 0) (aq uF (au e7 (af (ai 0) (ar))) (TC (.int 1))))
theorem uX:∀ ds μ Q,cV ds μ Q->mQ { nx:=λ_ μ'=>RT Q .non μ',rt:=RT Q } (ini 1 ds) μ:=by
 intro ds μ Q h
 replace h:=ecT h
 obtain ⟨xs,ds,rfl,h⟩:=h
 replace h:=ecN h
 obtain ⟨rfl,h⟩:=h
 walk_at "ini"
 unfold mQ
 walk_at "go"
 obtain ⟨d,⟨h1,h2,h3⟩,k⟩:=h
 have l0:0 < xs.length:=List.length_pos_iff.mpr h2
 rw[Dy (by omega),show ((xs.length:Int) - 1).toNat=xs.length - 1 by omega,h1]
 exact ⟨_,.refl _,k⟩
def geF (a b:Int):D->Bool
 | .tup [.int p,.int q]=>decide (a*q<=p*b)
 | _=>false
def leF (c e:Int):D->Bool
 | .tup [.int p,.int q]=>decide (p*e<=c*q)
 | _=>false
def gtF (a b:Int):D->Bool
 | .tup [.int p,.int q]=>decide (a*q < p*b)
 | _=>false
def wiF (a b c e:Int)(d:D):Bool:=isF d&&(geF a b d&&leF c e d)
def aI:FSp:=λds μ Q=>match ds with
 | [d,.tup [.int a,.int b],.tup [.int c,.int e]]=>(Any μ d/\(bx a/\bx b)/\bx c/\bx e)/\Q (.bl (wiF a b c e d)) μ
 | _=>False
theorem ny (x y:Int):(!decide (x < y))=decide (y<=x):=by
 rw[← decide_not];exact decide_eq_decide.mpr (by omega)
theorem Hu {d:D}(h:isF d=true):∃ p q,d=.tup [.int p,.int q]:=by
 unfold isF at h
 split at h
 ·exact ⟨_,_,rfl⟩
 ·cases h
theorem Any.two {μ:Mu}{p q:Int}(t:Any μ (.tup [.int p,.int q])):bx p/\bx q:=⟨(t.bW (.int p) (by simp)).m,(t.bW (.int q) (by simp)).m⟩
theorem fO:∀ ds μ Q,aI ds μ Q->ds.length=3:=by
 unfold aI
 walk_at "ln"
def dA:STr:=aR (cZ (au cw (af (ai 0) (ar))) (cZ (lr (au cc (af (ai 0) (af (ai 1) (ar))))) (lr (au cc (af (ai 2) (af (ai 0) (ar)))))))
theorem gb:∀ ds μ Q,aI ds μ Q->dA { nx:=λ_ μ'=>RT Q .non μ',rt:=RT Q } (ini 3 ds) μ:=by
 intro ds μ Q h
 unfold aI at h
 split at h
 case h_2=>exact h.elim
 rename_i d a b c e
 walk_at "ini"
 unfold dA
 walk_at "go"
 obtain ⟨⟨t,⟨ha,hb⟩,hc,he⟩,k⟩:=h
 refine ⟨t,?_⟩
 walk_at "go"
 unfold wiF at k
 refine nD (λh=>?_) λh=>?_
 ·rw[h,N5] at k
  obtain ⟨p,q,rfl⟩:=Hu h
  obtain ⟨h1,h2⟩:=t.two
  refine ⟨⟨⟨h1,h2⟩,ha,hb⟩,?_⟩
  walk_at "go"
  rw[ny]
  refine kif (λh'=>?_) λh'=>?_
  ·simp only[geF,decide_eq_true h',N5,leF] at k
   refine ⟨⟨⟨hc,he⟩,h1,h2⟩,?_⟩
   walk_at "go"
   rw[ny]
   exact ⟨_,.refl _,k⟩
  ·simp only[geF,decide_eq_false h',NQ] at k
   exact ⟨_,.refl _,k⟩
 ·rw[h,NQ] at k;exact ⟨_,.refl _,k⟩
def aK:FSp:=λds μ Q=>match ds with
 | [d,.tup [.int a,.int b],.tup [.int c,.int e]]=>(Any μ d/\(bx a/\bx b)/\bx c/\bx e)/\Q (.bl (wiF a b c e d&&gtF a b d)) μ
 | _=>False
theorem xC {a b c e:Int}{d:D}(h:wiF a b c e d=true):∃ p q,d=.tup [.int p,.int q]:=by
 unfold wiF isF at h
 split at h
 ·exact ⟨_,_,rfl⟩
 ·cases h
theorem fQ:∀ ds μ Q,aK ds μ Q->ds.length=3:=by
 unfold aK
 walk_at "ln"
def dH:STr:=aR (cZ (au aI (af (ai 0) (af (ai 1) (af (ai 2) (ar))))) (au cc (af (ai 1) (af (ai 0) (ar)))))
theorem gw:∀ ds μ Q,aK ds μ Q->dH { nx:=λ_ μ'=>RT Q .non μ',rt:=RT Q } (ini 3 ds) μ:=by
 intro ds μ Q h
 unfold aK at h
 split at h
 case h_2=>exact h.elim
 rename_i d a b c e
 walk_at "ini"
 unfold dH
 walk_at "go"
 obtain ⟨⟨t,⟨ha,hb⟩,hc,he⟩,k⟩:=h
 refine ⟨⟨t,⟨ha,hb⟩,hc,he⟩,?_⟩
 walk_at "go"
 refine nD (λh=>?_) λh=>?_
 ·rw[h,N5] at k
  obtain ⟨p,q,rfl⟩:=xC h
  exact ⟨⟨⟨ha,hb⟩,t.two⟩,_,.refl _,k⟩
 ·rw[h,NQ] at k;exact ⟨_,.refl _,k⟩
theorem Hg {w:Str}(h:w∈dN):Oe w=true:=by
 simp only[dN,N9,OL,or_false] at h
 rcases h with rfl | rfl | rfl | rfl | rfl
 ·exact kA
 ·exact mZ
 ·exact kY
 ·exact mP
 ·exact n5
def lo2 (w:Str):Int:=if w=NA "swell" then 1 else 0
def grw (w:Str)(a u t:D):Bool:=wiF 1 1 60 1 t&&((match t with
 | .tup [.int r,.int s]=>wiF 1 1 r s a
 | _=>false)&&(wiF (lo2 w) 1 60 1 u&&gtF (lo2 w) 1 u))
def bF:FSp:=λds μ Q=>match ds with
 | [.tup (.str w::a::u::xs)]=>∃ t,(w∈dN/\xs[xs.length - 1]? = some t/\(xs≠[]/\xs.length<=50)/\Any μ a/\Any μ u/\Any μ t)/\Q (.bl (grw w a u t)) μ
 | _=>False
theorem k7:∀ ds μ Q,bF ds μ Q->ds.length=1:=by
 unfold bF
 walk_at "ln"
def iF:STr:=aE (aU (aP (af (TC (.int 60)) (af (TC (.int 1)) (ar)))) (az 1)) (aE (bI (cg (TB (au aI (af (au cV (af (ai 0) (ar))) (af (TC (.tup [.int 1,.int 1])) (af (ai 1) (ar))))))) (aR (TC (.bl false))) (aY)) (aE (aU (Ar (TB (aq rEq (aq L3.rIx (ai 0) (TC (.int 0))) (TC (.str "swell")))) (TC (.tup [.int 1,.int 1])) (TC (.tup [.int 0,.int 1]))) (az 2)) (aR (cZ (au aI (af (aq L3.rIx (ai 0) (TC (.int 1))) (af (TC (.tup [.int 1,.int 1])) (af (au cV (af (ai 0) (ar))) (ar))))) (au aK (af (aq L3.rIx (ai 0) (TC (.int 2))) (af (ai 2) (af (ai 1) (ar)))))))))
theorem ml:∀ ds μ Q,bF ds μ Q->iF { nx:=λ_ μ'=>RT Q .non μ',rt:=RT Q } (ini 3 ds) μ:=by
 intro ds μ Q h
 unfold bF at h
 split at h
 case h_2=>exact h.elim
 rename_i w a u xs
 walk_at "ini"
 unfold iF
 walk_at "go"
 obtain ⟨t,⟨hw,hx,⟨hx0,hx1⟩,ta,tu,tt⟩,k⟩:=h
 have hl:((.str w:D)::a::u::xs)[((.str w:D)::a::u::xs).length - 1]? = some t:=by
  have:xs.length≠0:=λz=>hx0 (RS.mp z)
  rw[show ((.str w:D)::a::u::xs).length - 1=(xs.length - 1)+3 by simp;omega]
  simpa using hx
 have n1:bx 1:=by unfold bx;omega
 have n0:bx 0:=by unfold bx;omega
 have n60:bx 60:=by unfold bx;omega
 refine ⟨t,⟨hl,by simp,by simp;omega⟩,?_⟩
 refine ⟨⟨tt,⟨n1,n1⟩,n60,n1⟩,?_⟩
 walk_at "go"
 unfold grw at k
 refine fL (λh=>?_) λh=>?_
 rotate_left
 ·rw[h,NQ] at k;exact ⟨_,.refl _,k⟩
 rw[h,N5] at k
 obtain ⟨r,s,rfl⟩:=xC h
 obtain ⟨h1,h2⟩:=tt.two
 refine ⟨Hg hw,?_⟩
 have key:∀ lw,lo2 w=lw->bx lw->iA cV [.tup (.str w::a::u::xs)] μ λx μ1=>iA aI [a,.tup [.int 1,.int 1],x] μ1 λx μ1=>kB x λc=>kIf c (iA aK [u,.tup [.int lw,.int 1],.tup [.int 60,.int 1]] μ1 (RT Q)) (RT Q (.bl false) μ1):=λlw el nl=>by
  rw[el] at k
  refine ⟨_,⟨hl,by simp,by simp;omega⟩,⟨ta,⟨n1,n1⟩,h1,h2⟩,?_⟩
  walk_at "go"
  refine nD (λh'=>?_) λh'=>?_
  ·simp only[h',N5] at k
   exact ⟨⟨tu,⟨nl,n1⟩,n60,n1⟩,_,.refl _,k⟩
  ·simp only[h',NQ] at k
   exact ⟨_,.refl _,k⟩
 exact kif (λc=>key 1 (by unfold lo2;rw[if_pos c]) n1) λc=>key 0 (by unfold lo2;rw[if_neg c]) n0
def yW (l h:D):Bool:=wiI 0 60 h&&(match h with
 | .int i=>wiI 0 i l
 | _=>false)
def cn:FSp:=λds μ Q=>kcA ds λl ds=>kcA ds λh ds=>kcN ds ((Any μ l/\Any μ h)/\Q (.bl (yW l h)) μ)
theorem jw:∀ ds μ Q,cn ds μ Q->ds.length=2:=λ_ _ _ h=>lcA h λ_ _ h=>lcA h λ_ _ h=>by rw[(ecN h).1];rfl
def fZ:STr:=aR (cZ (au aL (af (ai 1) (af (TC (.int 0)) (af (TC (.int 60)) (ar))))) (au aL (af (ai 0) (af (TC (.int 0)) (af (ai 1) (ar))))))
theorem jS:∀ ds μ Q,cn ds μ Q->fZ { nx:=λ_ μ'=>RT Q .non μ',rt:=RT Q } (ini 2 ds) μ:=by
 intro ds μ Q h
 replace h:=ecA h
 obtain ⟨l,ds,rfl,h⟩:=h
 replace h:=ecA h
 obtain ⟨hx,ds,rfl,h⟩:=h
 replace h:=ecN h
 obtain ⟨rfl,h⟩:=h
 walk_at "ini"
 unfold fZ
 walk_at "go"
 obtain ⟨⟨tl,th⟩,k⟩:=h
 unfold yW at k
 refine ⟨th,?_⟩
 walk_at "go"
 refine nD (λh'=>?_) λh'=>?_
 ·simp only[h',N5] at k
  cases hx with
  | int i=>exact ⟨tl,_,.refl _,k⟩
  | _=>cases h'
 ·simp only[h',NQ] at k
  exact ⟨_,.refl _,k⟩
def four (w:Str):Prop:=w=NA "step" ∨ w=NA "swell" ∨ w=NA "heed"
def abF (d:D):Bool:=wiF 0 1 1 1 d&&gtF 0 1 d
def GQ:D->Bool
 | .tup [.int p,.int q]=>decide (p*1 < 1*q)
 | _=>false
def okR (w:Str):List D->Bool
 | [a]=>wiF 1 1 60 1 a
 | [a,u,g,t]=>grw w a u t&&(if w=NA "heed" then abF g else abF g&&GQ g)
 | [a,u,l,h,t]=>grw w a u t&&yW l h
 | _=>false
abbrev gx:List (Str×D):=[((NA "still"),(.int 2:D)),((NA "step"),(.int 5:D)),((NA "swell"),(.int 5:D)),((NA "heed"),(.int 5:D)),((NA "calm"),(.int 6:D))]
def EV (o:Option D)(xs:List D):Bool:=match o with
 | some d=>eqD (.int ((xs.length+1:Nat):Int)) d
 | none=>false
def fj:D->Bool
 | .tup (.str w::xs)=>EV (bN gx w) xs&&okR w xs
 | _=>false
theorem mH (w:Str)(xs:List D):fj (.tup (.str w::xs))=(EV (bN gx w) xs&&okR w xs):=rfl
theorem Hm {w:Str}{d:D}(h:bN gx w=some d):(w=NA "still" /\ d=.int 2)∨(four w/\d=.int 5)∨(w=NA "calm" /\ d=.int 6):=by
 unfold bN gx at h
 rw[R8] at h
 obtain ⟨x,hx,rfl⟩:=h
 have h1:=Rm hx
 have h2:x.1=w:=by have:=Uu hx;simpa using this
 simp only[N9,OL,or_false] at h1
 rcases h1 with rfl | rfl | rfl | rfl | rfl<;>simp only at h2<;>subst h2
 ·exact .inl ⟨rfl,rfl⟩
 ·exact .inr (.inl ⟨.inl rfl,rfl⟩)
 ·exact .inr (.inl ⟨.inr (.inl rfl),rfl⟩)
 ·exact .inr (.inl ⟨.inr (.inr rfl),rfl⟩)
 ·exact .inr (.inr ⟨rfl,rfl⟩)
theorem Bl {w:Str}{xs:List D}(h:bN gx w=none):fj (.tup (.str w::xs))=false:=by rw[mH,h];rfl
theorem gf {w:Str}{xs:List D}{n:Int}(h:bN gx w=some (.int n))(hl:¬ ((xs.length+1:Nat):Int)=n):fj (.tup (.str w::xs))=false:=by rw[mH,h];simp only[EV,qv,decide_eq_false hl,NQ]
theorem b7 {w:Str}{xs:List D}{n:Int}(h:bN gx w=some (.int n))(hl:((xs.length+1:Nat):Int)=n):fj (.tup (.str w::xs))=okR w xs:=by rw[mH,h];simp only[EV,qv,decide_eq_true hl,N5]
theorem yI {w:Str}(h:four w):w∈dN:=by rcases h with rfl | rfl | rfl<;>simp[dN]
def eZ:FSp:=λds μ Q=>kcA ds λd ds=>kcN ds (Any μ d/\Q (.bl (fj d)) μ)
theorem pE:∀ ds μ Q,eZ ds μ Q->ds.length=1:=λ_ _ _ h=>lcA h λ_ _ h=>by rw[(ecN h).1];rfl
def lO:STr:=aE (bI (TOr (cg (TB (TUn (cU "tuple") (ai 0)))) (TOr (TB (aq rEq (au e7 (af (ai 0) (ar))) (TC (.int 0)))) (cg (TB (TUn (cU "str") (aq L3.rIx (ai 0) (TC (.int 0)))))))) (aR (TC (.bl false))) (aY)) (aE (aU (aq L3.rIx (ai 0) (TC (.int 0))) (az 1)) (aE (bI (TOr (TB (rm true [((NA "still"),(.int 2:D)),((NA "step"),(.int 5:D)),((NA "swell"),(.int 5:D)),((NA "heed"),(.int 5:D)),((NA "calm"),(.int 6:D))] (ai 1))) (TB (aq rNe (au e7 (af (ai 0) (ar))) (wb [((NA "still"),(.int 2:D)),((NA "step"),(.int 5:D)),((NA "swell"),(.int 5:D)),((NA "heed"),(.int 5:D)),((NA "calm"),(.int 6:D))] (ai 1))))) (aR (TC (.bl false))) (aY)) (aE (bI (TB (aq rEq (ai 1) (TC (.str "still")))) (aR (au aI (af (aq L3.rIx (ai 0) (TC (.int 1))) (af (TC (.tup [.int 1,.int 1])) (af (aP (af (TC (.int 60)) (af (TC (.int 1)) (ar)))) (ar)))))) (aY)) (aE (bI (cg (TB (au bF (af (ai 0) (ar))))) (aR (TC (.bl false))) (aY)) (aE (bI (TB (aq rEq (ai 1) (TC (.str "calm")))) (aR (au cn (af (aq L3.rIx (ai 0) (TC (.int 3))) (af (aq L3.rIx (ai 0) (TC (.int 4))) (ar))))) (aY)) (aE (bI (TB (aq rEq (ai 1) (TC (.str "heed")))) (aR (au aK (af (aq L3.rIx (ai 0) (TC (.int 3))) (af (TC (.tup [.int 0,.int 1])) (af (TC (.tup [.int 1,.int 1])) (ar)))))) (aY)) (aR (cZ (au aK (af (aq L3.rIx (ai 0) (TC (.int 3))) (af (TC (.tup [.int 0,.int 1])) (af (TC (.tup [.int 1,.int 1])) (ar))))) (au cc (af (aq L3.rIx (ai 0) (TC (.int 3))) (af (TC (.tup [.int 1,.int 1])) (ar))))))))))))
theorem rQ:∀ ds μ Q,eZ ds μ Q->lO { nx:=λ_ μ'=>RT Q .non μ',rt:=RT Q } (ini 2 ds) μ:=by
 intro ds μ Q h
 replace h:=ecA h
 obtain ⟨d,ds,rfl,h⟩:=h
 replace h:=ecN h
 obtain ⟨rfl,h⟩:=h
 walk_at "ini"
 unfold lO
 walk_at "go"
 obtain ⟨t,k⟩:=h
 have fin:∀ {b},fj d=b->RT Q (.bl b) μ:=λ{b} e=>by rw[e] at k;exact ⟨_,.refl _,k⟩
 have n1:bx 1:=by unfold bx;omega
 have n0:bx 0:=by unfold bx;omega
 have n60:bx 60:=by unfold bx;omega
 cases t with
 | @tup ds hd hl=>
  cases ds with
  | nil=>
   walk_at "go"
   exact fin rfl
  | cons x xs=>
   walk_at "go"
   refine Mx (by simp;omega) ?_
   have tx:=hd x NJ
   cases tx with
   | @str w hw hwl=>
    walk_at "go"
    cases e:bN gx w with
    | none=>exact fin (Bl e)
    | some d=>
     have hx:∀ d∈xs,Any μ d:=λd h=>hd d (NM _ h)
     rcases Hm e with ⟨rfl,rfl⟩ | ⟨h4,rfl⟩ | ⟨rfl,rfl⟩
     ·walk_at "go"
      refine tU (λhne=>fin (gf e (by simpa using hne))) λhe=>?_
      obtain ⟨a,rfl⟩:∃ a,xs=[a]:=by
       simp only[NN] at he
       match xs,(show xs.length=1 by omega) with
       | [a],_=>exact ⟨a,rfl⟩
      have ta:=hx a (by simp)
      walk_at "go"
      exact ⟨⟨ta,⟨n1,n1⟩,n60,n1⟩,fin (b7 e rfl)⟩
     ·have h5:=yI h4
      have h6:=Hg h5
      have gr:((xs.length+1:Nat):Int)=5->∃ a u g t,xs=[a,u,g,t]/\(Any μ a/\Any μ u/\Any μ g/\Any μ t):=λhe=>by
       match xs,(show xs.length=4 by omega) with
       | [a,u,g,t],_=>exact ⟨a,u,g,t,rfl,hx a (by simp),hx u (by simp),hx g (by simp),hx t (by simp)⟩
      have two:∀ g t a u,xs=[a,u,g,t]->Any μ g->grw w a u t=true->¬ w=NA "heed" -> iA aK [g,.tup [.int 0,.int 1],.tup [.int 1,.int 1]] μ λx μ1=>kB x λc=>kIf c (iA cc [g,.tup [.int 1,.int 1]] μ1 (RT Q)) (RT Q (.bl false) μ1):=λg t a u ex tg hg nh=>by
       subst ex
       have ek:=b7 (xs:=[a,u,g,t]) e rfl
       simp only[okR,hg,N5,nh,if_false] at ek
       refine ⟨⟨tg,⟨n0,n1⟩,n1,n1⟩,?_⟩
       show kIf (abF g) _ _
       refine nD (λh2=>?_) λh2=>fin (by rw[ek,h2];rfl)
       obtain ⟨p,q,rfl⟩:=xC (Bool.and_eq_true_iff.mp h2).1
       obtain ⟨h3,h4⟩:=tg.two
       exact ⟨⟨⟨h3,h4⟩,n1,n1⟩,fin (by rw[ek,h2];rfl)⟩
      have grow:∀ (a u g t:D) (A B:Mu->Prop),xs=[a,u,g,t]->Any μ a->Any μ u->Any μ t->(grw w a u t=true->B μ)->(grw w a u t=false->A μ)->iA bF [.tup (.str w::xs)] μ λx μ1=>kB x λc=>kIf (!c) (A μ1) (B μ1):=λa u g t A B ex ta tu tt h1 h2=>by
       subst ex
       refine ⟨t,⟨h5,rfl,⟨by simp,by simp⟩,ta,tu,tt⟩,?_⟩
       show kIf _ _ _
       exact fL h1 h2
      rcases h4 with rfl | rfl | rfl
      ·walk_at "go"
       refine tU (λhne=>fin (gf e (by simpa using hne))) λhe=>?_
       obtain ⟨a,u,g,t,ex,ta,tu,tg,tt⟩:=gr (by simpa using he)
       refine grow a u g t _ _ ex ta tu tt (λh=>?_) λh=>fin (by subst ex;rw[b7 e rfl];simp only[okR,h,NQ])
       have tw2:=two g t a u ex tg h (of_eq_false eU)
       subst ex
       walk_at "go"
       exact tw2
      ·walk_at "go"
       refine tU (λhne=>fin (gf e (by simpa using hne))) λhe=>?_
       obtain ⟨a,u,g,t,ex,ta,tu,tg,tt⟩:=gr (by simpa using he)
       refine grow a u g t _ _ ex ta tu tt (λh=>?_) λh=>fin (by subst ex;rw[b7 e rfl];simp only[okR,h,NQ])
       have tw2:=two g t a u ex tg h (of_eq_false eh)
       subst ex
       walk_at "go"
       exact tw2
      ·walk_at "go"
       refine tU (λhne=>fin (gf e (by simpa using hne))) λhe=>?_
       obtain ⟨a,u,g,t,ex,ta,tu,tg,tt⟩:=gr (by simpa using he)
       refine grow a u g t _ _ ex ta tu tt (λh=>?_) λh=>fin (by subst ex;rw[b7 e rfl];simp only[okR,h,NQ])
       subst ex
       walk_at "go"
       exact ⟨⟨tg,⟨n0,n1⟩,n1,n1⟩,fin (by rw[b7 e rfl];simp only[okR,h,N5,if_true];rfl)⟩
     ·walk_at "go"
      refine tU (λhne=>fin (gf e (by simpa using hne))) λhe=>?_
      obtain ⟨a,u,l,h,t,rfl⟩:∃ a u l h t,xs=[a,u,l,h,t]:=by
       simp only[NN] at he
       match xs,(show xs.length=5 by omega) with
       | [a,u,l,h,t],_=>exact ⟨a,u,l,h,t,rfl⟩
      have ta:=hx a (by simp)
      have tu:=hx u (by simp)
      have tl:=hx l (by simp)
      have th:=hx h (by simp)
      have tt:=hx t (by simp)
      have ek:=b7 (xs:=[a,u,l,h,t]) e rfl
      walk_at "go"
      refine ⟨t,⟨by simp[dN],rfl,⟨by simp,by simp⟩,ta,tu,tt⟩,?_⟩
      show kIf _ _ _
      refine fL (λh=>?_) λh=>fin (by rw[ek];simp only[okR,h,NQ])
      walk_at "go"
      exact ⟨⟨tl,th⟩,fin (by rw[ek];simp only[okR,h,N5])⟩
   | _=>
    walk_at "go"
    try (rw[jZ (by assumption)];walk_at "go")
    exact fin rfl
 | _=>
  walk_at "go"
  try (rw[jZ (by assumption)];walk_at "go")
  exact fin rfl
def nwB (hi:Int):D->Bool
 | .non=>true
 | d=>wiI 0 hi d
def bo:FSp:=λds μ Q=>kcA ds λd ds=>kcI ds λhi ds=>kcN ds (Any μ d/\Q (.bl (nwB hi d)) μ)
theorem fP:∀ ds μ Q,bo ds μ Q->ds.length=2:=λ_ _ _ h=>lcA h λ_ _ h=>lcI h λ_ _ h=>by rw[(ecN h).1];rfl
def dI:STr:=aR (An (aq rIs (ai 0) (TC .non)) (au aL (af (ai 0) (af (TC (.int 0)) (af (ai 1) (ar))))))
theorem gu:∀ ds μ Q,bo ds μ Q->dI { nx:=λ_ μ'=>RT Q .non μ',rt:=RT Q } (ini 2 ds) μ:=by
 intro ds μ Q h
 replace h:=ecA h
 obtain ⟨d,ds,rfl,h⟩:=h
 replace h:=ecI h
 obtain ⟨hi,ds,rfl,h⟩:=h
 replace h:=ecN h
 obtain ⟨rfl,h⟩:=h
 walk_at "ini"
 unfold dI
 walk_at "go"
 obtain ⟨t,k⟩:=h
 have t':=t
 cases t with
 | non=>
  walk_at "go"
  exact ⟨_,.refl _,k⟩
 | _=>
  walk_at "go"
  exact ⟨t',_,.refl _,k⟩
def soB:D->Bool
 | .str z=>decide (z=NA "line") || decide (z=NA "turns")
 | _=>false
def e9:FSp:=λds μ Q=>kcA ds λd ds=>kcN ds (Any μ d/\Q (.bl (soB d)) μ)
theorem Ea {z:Str}(h:z.cps.all (· < 128)=true):Oe z=true:=by
 unfold Oe
 rw[OW] at h ⊢
 intro c hc
 have:=h c hc
 simp only[decide_eq_true_eq] at this ⊢
 omega
theorem EB:Oe (NA "line")=true:=by decide +kernel
theorem Br:Oe (NA "turns")=true:=by decide +kernel
theorem pU:∀ ds μ Q,e9 ds μ Q->ds.length=1:=λ_ _ _ h=>lcA h λ_ _ h=>by rw[(ecN h).1];rfl
def lA:STr:=aR (cZ (TUn (cU "str") (ai 0)) (aq (wF false) (ai 0) (aP (af (TC (.str "line")) (af (TC (.str "turns")) (ar))))))
theorem qV:∀ ds μ Q,e9 ds μ Q->lA { nx:=λ_ μ'=>RT Q .non μ',rt:=RT Q } (ini 1 ds) μ:=by
 intro ds μ Q h
 replace h:=ecA h
 obtain ⟨d,ds,rfl,h⟩:=h
 replace h:=ecN h
 obtain ⟨rfl,h⟩:=h
 walk_at "ini"
 unfold lA
 walk_at "go"
 obtain ⟨t,k⟩:=h
 cases t with
 | @str z hz hl=>
  walk_at "go"
  refine ⟨⟨by simp[bR,okD,EB,Br],by simp[okD,Ea hz]⟩,?_⟩
  have e:inG (.str z) [.str "line", .str "turns"]=soB (.str z):=by
   simp only[inG,soB,Qf,List.any_nil,lH,SY]
   first | rfl | (congr 1<;>exact decide_eq_decide.mpr ⟨Eq.symm,Eq.symm⟩)
  rw[← e] at k
  exact ⟨_,.refl _,k⟩
 | _=>
  walk_at "go"
  try (rw[jZ (by assumption)];walk_at "go")
  exact ⟨_,.refl _,k⟩
def cv:D->Bool
 | .tup [n,p,r,m,s]=>nmB n&&(wiI 1 20 p&&(wiI 1 60 r&&(nwB 60 m&&soB s)))
 | _=>false
theorem MM {d:D}(h:isT 5 d=true):∃ n p r m s,d=.tup [n,p,r,m,s]:=by
 unfold isT at h
 split at h
 ·rename_i ds
  have h:=of_decide_eq_true h
  match ds,(show ds.length=5 by omega) with
  | [n,p,r,m,s],_=>exact ⟨n,p,r,m,s,rfl⟩
 ·cases h
theorem MF {d:D}(h:isT 5 d=false):cv d=false:=by
 unfold cv
 split
 ·simp[isT] at h
 ·rfl
def fv:FSp:=λds μ Q=>kcA ds λd ds=>kcN ds (Any μ d/\Q (.bl (cv d)) μ)
theorem qY:∀ ds μ Q,fv ds μ Q->ds.length=1:=λ_ _ _ h=>lcA h λ_ _ h=>by rw[(ecN h).1];rfl
def mT:STr:=aE (bI (TOr (cg (TB (au bw (af (ai 0) (af (TC (.int 5)) (ar)))))) (cg (TB (au cA (af (aq L3.rIx (ai 0) (TC (.int 0))) (ar)))))) (aR (TC (.bl false))) (aY)) (aE (bI (TOr (cg (TB (au aL (af (aq L3.rIx (ai 0) (TC (.int 1))) (af (TC (.int 1)) (af (TC (.int 20)) (ar))))))) (cg (TB (au aL (af (aq L3.rIx (ai 0) (TC (.int 2))) (af (TC (.int 1)) (af (TC (.int 60)) (ar)))))))) (aR (TC (.bl false))) (aY)) (aR (cZ (au bo (af (aq L3.rIx (ai 0) (TC (.int 3))) (af (TC (.int 60)) (ar)))) (au e9 (af (aq L3.rIx (ai 0) (TC (.int 4))) (ar))))))
theorem vD:∀ ds μ Q,fv ds μ Q->mT { nx:=λ_ μ'=>RT Q .non μ',rt:=RT Q } (ini 1 ds) μ:=by
 intro ds μ Q h
 replace h:=ecA h
 obtain ⟨d,ds,rfl,h⟩:=h
 replace h:=ecN h
 obtain ⟨rfl,h⟩:=h
 walk_at "ini"
 unfold mT
 walk_at "go"
 obtain ⟨t,k⟩:=h
 have fin:∀ {b},cv d=b->RT Q (.bl b) μ:=λ{b} e=>by rw[e] at k;exact ⟨_,.refl _,k⟩
 refine ⟨t,?_⟩
 walk_at "go"
 refine fL (λh=>?_) λh=>fin (MF h)
 obtain ⟨n,p,r,m,s,rfl⟩:=MM h
 have tn:=t.bW n (by simp)
 have tp:=t.bW p (by simp)
 have tr:=t.bW r (by simp)
 have tm:=t.bW m (by simp)
 have ts:=t.bW s (by simp)
 walk_at "go"
 refine ⟨tn,?_⟩
 walk_at "go"
 refine fL (λh1=>?_) λh1=>fin (by simp[cv,h1])
 refine ⟨tp,?_⟩
 walk_at "go"
 refine fL (λh2=>?_) λh2=>fin (by simp[cv,h2])
 refine ⟨tr,?_⟩
 walk_at "go"
 refine fL (λh3=>?_) λh3=>fin (by simp[cv,h3])
 refine ⟨tm,?_⟩
 walk_at "go"
 refine nD (λh4=>?_) λh4=>fin (by simp[cv,h4])
 refine ⟨ts,?_⟩
 exact fin (by simp[cv,h1,h2,h3,h4])
def nmD:D->Str
 | .tup (.str z::_)=>z
 | _=>Ue
theorem Di {κ:Type} [DecidableEq κ]:∀ (ks σ:List κ),(ddS σ ks).length<=σ.length+ks.length:=by
 intro ks
 induction ks with
 | nil=>intro σ;exact NV _
 | cons k r ih=>
  intro σ
  unfold ddS
  have:=ih (if k∈σ then σ else σ++[k])
  rw[NN]
  split at this
  ·rename_i h;rw[if_pos h];omega
  ·rename_i h;rw[if_neg h];rw[NW,PN] at this;omega
theorem Bq {κ:Type} [DecidableEq κ]:∀ (ks σ:List κ),(σ++ks).Nodup->ddS σ ks=σ++ks:=by
 intro ks
 induction ks with
 | nil=>intro σ _;simp[ddS]
 | cons k r ih=>
  intro σ h
  unfold ddS
  have nk:k ∉ σ:=λhk=>(Pu.mp h).2.2 k hk k NJ rfl
  rw[if_neg nk,ih _ (by rw[Pw];exact h),Pw];rfl
theorem C9 {κ:Type} [DecidableEq κ]:∀ (ks σ:List κ),σ.Nodup->(ddS σ ks).length=σ.length+ks.length->(σ++ks).Nodup:=by
 intro ks
 induction ks with
 | nil=>intro σ h _;rw[OI];exact h
 | cons k r ih=>
  intro σ h e
  unfold ddS at e
  by_cases hk:k∈σ
  ·rw[if_pos hk] at e
   have:=Di r σ
   rw[NN] at e
   omega
  ·rw[if_neg hk] at e
   have:=ih (σ++[k]) (Pu.mpr ⟨h,by simp,λx hx y hy e=>hk (by rw[NZ] at hy;rw[← hy,← e];exact hx)⟩) (by rw[e,NW,NN];simp;omega)
   rw[Pw] at this
   exact this
theorem Eu (ss:List Str):(ddT ss).length=ss.length↔ss.Nodup:=by
 constructor
 ·intro h;have:=C9 ss [] .nil (by rw[OD,Ve];exact h);exact this
 ·intro h;rw[show ddT ss=ss from Bq ss [] h]
def dh:D->Bool
 | .tup ds=>(decide (1<=ds.length)&&decide (ds.length<=6))&&(ds.all cv&&decide ((ds.map nmD).Nodup))
 | _=>false
theorem sj {d:D}(h:cv d=true):∃ z r,d=.tup (.str z::r)/\nmS z=true:=by
 unfold cv at h
 split at h
 ·rename_i n p r m s
  cases n with
  | str z=>rw[NO] at h;exact ⟨z,_,rfl,h.1⟩
  | _=>simp[nmB] at h
 ·cases h
def d7:FSp:=λds μ Q=>kcA ds λd ds=>kcN ds (Any μ d/\Q (.bl (dh d)) μ)
theorem o6:∀ ds μ Q,d7 ds μ Q->ds.length=1:=λ_ _ _ h=>lcA h λ_ _ h=>by rw[(ecN h).1];rfl
def jQ:STr:=aE (bI (TOr (cg (TB (TUn (cU "tuple") (ai 0)))) (cg (TB (fK rLe rLe (TC (.int 1)) (au e7 (af (ai 0) (ar))) (TC (.int 6)))))) (aR (TC (.bl false))) (aY)) (aE (bI (cg (TB (au BI (af (cu (iC (ai 0)) (az 0) (gh) (au fv (af (ai 0) (ar))) 1 []) (ar))))) (aR (TC (.bl false))) (aY)) (aR (aq rEq (rM (cu (iC (ai 0)) (az 0) (gh) (aq L3.rIx (ai 0) (TC (.int 0))) 1 [])) (au e7 (af (ai 0) (ar))))))
theorem pf:∀ ds μ Q,d7 ds μ Q->jQ { nx:=λ_ μ'=>RT Q .non μ',rt:=RT Q } (ini 1 ds) μ:=by
 intro ds μ Q h
 replace h:=ecA h
 obtain ⟨d,ds,rfl,h⟩:=h
 replace h:=ecN h
 obtain ⟨rfl,h⟩:=h
 walk_at "ini"
 unfold jQ
 walk_at "go"
 obtain ⟨t,k⟩:=h
 have fin:∀ {b},dh d=b->RT Q (.bl b) μ:=λ{b} e=>by rw[e] at k;exact ⟨_,.refl _,k⟩
 cases t with
 | @tup ds hd hl=>
  walk_at "go"
  have e1:((1:Int)<=(ds.length:Nat))↔1<=ds.length:=by omega
  have e2:(((ds.length:Nat):Int)<=6)↔ds.length<=6:=by omega
  refine kif (λh1=>?_) λh1=>fin (by simp only[dh];rw[decide_eq_false (λz=>h1 (e1.mpr z))];rfl)
  refine tU (λh2=>fin (by simp only[dh];rw[decide_eq_false (λz=>h2 (e2.mpr z)),Og];rfl)) λh2=>?_
  have eb:dh (.tup ds)=(ds.all cv&&decide ((ds.map nmD).Nodup)):=by simp only[dh];rw[decide_eq_true (e1.mp h1),decide_eq_true (e2.mp h2)];rfl
  refine comp_map (λd=>.bl (cv d)) (by omega) (λd hd' μ' sb N n=>?_) ?_
  ·walk_at "go"
   exact ⟨(hd d hd').sub sb,n⟩
  ·walk_at "go"
   refine ⟨ds.map cv,by rw[OG];rfl,?_⟩
   walk_at "go"
   have ea:(ds.map cv).all id=ds.all cv:=by rw[Q6];rfl
   rw[ea]
   refine fL (λh3=>?_) λh3=>fin (by rw[eb,h3];rfl)
   have hw:=Ot.mp h3
   refine comp_map (λd=>.str (nmD d)) (by omega) (λd hd' μ' sb N n=>?_) ?_
   ·obtain ⟨z,r,rfl,_⟩:=sj (hw d hd')
    walk_at "go"
    exact n
   ·walk_at "go"
    refine ⟨ds.map nmD,⟨by rw[OG];rfl,by rw[NK];omega⟩,?_⟩
    walk_at "go"
    refine fin ?_
    rw[eb,h3,N5]
    refine decide_eq_decide.mpr ?_
    rw[← Eu,NK]
    omega
 | _=>
  walk_at "go"
  try (rw[jZ (by assumption)];walk_at "go")
  exact fin rfl
theorem u5 {a b:Str}(h:a.cps.toList=b.cps.toList):a=b:=by
 cases a with | mk x=>cases b with | mk y=>exact congrArg Str.mk (Array.toList_inj.mp h)
theorem C7 (w:Str)(os:List Str):inG (.str w) (os.map .str)=decide (w∈os):=by
 unfold inG
 rw[List.any_map]
 refine Uv.mpr ?_
 rw[QL,decide_eq_true_eq]
 constructor
 ·rintro ⟨x,hx,q⟩
  simp only[Qc,lH,decide_eq_true_eq] at q
  rw[← q];exact hx
 ·intro h
  exact ⟨w,h,by simp only[Qc,lH,decide_true]⟩
theorem kj {k:Nat}{zs:List Str}(h:∀ z∈zs,Oe z=true):bR k (zs.map .str)=true:=by
 induction zs with
 | nil=>rfl
 | cons z r ih=>
  rw[Ob,bR,NO]
  exact ⟨by cases k<;>simpa[okD] using h z NJ,ih λy q=>h y (NM _ q)⟩
def nj (ns:List Str)(z:Str):Nat:=ns.findIdx λy=>decide (y=z)
theorem Ca {ns:List Str}{z:Str}(h:z∈ns):zw (ns.map .str) (.str z)=some (nj ns z):=by
 unfold zw nj
 rw[List.findIdx?_map,List.findIdx?_eq_some_iff_findIdx_eq]
 have e:((λy=>eqD y (D.str z)) ∘ D.str)=λy=>decide (y=z):=by funext y;simp only[Qc,lH]
 rw[e]
 exact ⟨QB ⟨z,h,by simp⟩,rfl⟩
def eP (ns:List Str):Nat->List D->Bool
 | _,[]=>true
 | b,.str z::r=>nmS z&&(decide (z∈ns.drop b)&&eP ns (nj ns z+1) r)
 | _,_::_=>false
def fF (ns:List Str):D->Bool
 | .tup ds=>decide (ds≠[])&&eP ns 0 ds
 | _=>false
theorem rE {z:Str}(h:nmS z=true):Oe z=true:=by
 refine Ea ?_
 unfold nmS at h
 simp only[NO,Ot] at h
 rw[OW]
 intro c hc
 have:=h.2 c (Array.mem_toList_iff.mpr hc)
 simp only[sm,NO,decide_eq_true_eq] at this
 exact decide_eq_true (by omega)
theorem Cv {ns:List Str}{b:Nat}{x:D}{r:List D}(h:nmB x=false):eP ns b (x::r)=false:=by
 cases x with
 | str z=>have h:nmS z=false:=h;simp only[eP,h,NQ]
 | _=>rfl
def eW:FSp:=λds μ Q=>kcA ds λd ds=>kcL ds λxs ds=>kcN ds (∃ ns:List Str,(Any μ d/\xs=ns.map .str/\(∀ n∈ns,Oe n=true)/\ns.length<=1000)/\Q (.bl (fF ns d)) μ)
theorem qg:∀ ds μ Q,eW ds μ Q->ds.length=2:=λ_ _ _ h=>lcA h λ_ _ h=>lcL h λ_ _ h=>by rw[(ecN h).1];rfl
def lE:STr:=aE (bI (TOr (cg (TB (TUn (cU "tuple") (ai 0)))) (TB (aq rEq (au e7 (af (ai 0) (ar))) (TC (.int 0))))) (aR (TC (.bl false))) (aY)) (aE (aU (TC (.int 0)) (az 2)) (aE (qa (iC (ai 0)) (az 3) (aE (bI (TOr (cg (TB (au cA (af (ai 3) (ar))))) (TB (aq (wF true) (ai 3) (TSl (ai 1) (jd (ai 2)) (ONo))))) (aR (TC (.bl false))) (aY)) (aU (aq aM (xW (ai 1) (ai 3)) (TC (.int 1))) (az 2)))) (aR (TC (.bl true)))))
theorem tM:∀ ds μ Q,eW ds μ Q->lE { nx:=λ_ μ'=>RT Q .non μ',rt:=RT Q } (ini 4 ds) μ:=by
 intro ds μ Q h
 replace h:=ecA h
 obtain ⟨d,ds,rfl,h⟩:=h
 replace h:=ecL h
 obtain ⟨xs,ds,rfl,h⟩:=h
 replace h:=ecN h
 obtain ⟨rfl,h⟩:=h
 walk_at "ini"
 unfold lE
 walk_at "go"
 obtain ⟨ns,⟨t,rfl,hn,hl⟩,k⟩:=h
 have fin:∀ {b},fF ns d=b->RT Q (.bl b) μ:=λ{b} e=>by rw[e] at k;exact ⟨_,.refl _,k⟩
 cases t with
 | @tup ds hd hl'=>
  walk_at "go"
  refine kif (λh0=>fin ?_) λh0=>?_
  ·have:ds=[]:=RS.mp (by omega)
   subst this;rfl
  have ne:ds≠[]:=λz=>h0 (by rw[z];rfl)
  have e0:fF ns (.tup ds)=eP ns 0 ds:=by simp only[fF];rw[decide_eq_true ne];rfl
  refine f9 (λr ρ μ'=>∃ (b:Nat) (v3:Option D),fF ns (.tup ds)=eP ns b r/\(∀ d∈r,Any μ d)/\ρ=[some (.tup ds),some (.ls (ns.map .str)),some (.int b),v3]/\μ'=μ) ?_ ?_ _ _ _ ⟨0,_,e0,hd,rfl,rfl⟩
  ·rintro ρ μ' ⟨b,v3,eb,_,rfl,rfl⟩
   walk_at "go"
   exact fin eb
  ·rintro x r ρ μ' N ⟨b,v3,eb,hr,rfl,rfl⟩ hN
   walk_at "go"
   refine ⟨hr x NJ,?_⟩
   walk_at "go"
   refine fL (λh1=>?_) λh1=>fin (by rw[eb];exact Cv h1)
   cases x with
   | str z=>
    have h1:nmS z=true:=h1
    have ok:=rE h1
    rw[AG]
    have em:(ns.map D.str).drop b=(ns.drop b).map D.str:=by rw[List.map_drop]
    rw[em,C7]
    refine ⟨⟨kj λy q=>hn y (P4 q),by simpa[okD] using ok⟩,?_⟩
    walk_at "go"
    refine tU (λh2=>fin ?_) λh2=>?_
    ·rw[eb];simp only[eP,h1,decide_eq_false h2,NQ,Og]
    refine ⟨⟨kj hn,by simpa[okD] using ok⟩,?_⟩
    have hm:=P4 h2
    rw[Ca hm]
    walk_at "go"
    have lt:nj ns z < ns.length:=QB ⟨z,hm,by simp⟩
    exact ⟨by omega,hN _ _ ⟨nj ns z+1,_,by rw[eb];simp only[eP,h1,decide_eq_true h2,N5],λd hd=>hr d (NM _ hd),rfl,rfl⟩⟩
   | _=>cases h1
 | _=>
  walk_at "go"
  try (rw[jZ (by assumption)];walk_at "go")
  exact fin rfl
def bD (ns:List Str):D->Bool
 | .tup [n,r,b,g,m,u]=>nmB n&&(fF ns r&&(wiI 1 8 b&&(wiI 0 1000000 g&&(nwB 1000000 m&&fj u))))
 | _=>false
theorem six {d:D}(h:isT 6 d=true):∃ n r b g m u,d=.tup [n,r,b,g,m,u]:=by
 unfold isT at h
 split at h
 ·rename_i ds
  have h:=of_decide_eq_true h
  match ds,(show ds.length=6 by omega) with
  | [n,r,b,g,m,u],_=>exact ⟨n,r,b,g,m,u,rfl⟩
 ·cases h
theorem Nh {ns:List Str}{d:D}(h:isT 6 d=false):bD ns d=false:=by
 unfold bD
 split
 ·simp[isT] at h
 ·rfl
theorem DB {ws:List D}(h:dh (.tup ws)=true):(1<=ws.length/\ws.length<=6)/\(∀ d∈ws,cv d=true)/\(ws.map nmD).Nodup:=by
 simp only[dh,NO,decide_eq_true_eq,Ot] at h
 exact ⟨h.1,h.2.1,h.2.2⟩
theorem CZ {ws:List D}(h:∀ d∈ws,cv d=true):∀ n∈ws.map nmD,Oe n=true:=λn hn=>by
 obtain ⟨d,hd,rfl⟩:=Od.mp hn
 obtain ⟨z,r,rfl,hz⟩:=sj (h d hd)
 exact rE hz
def dk:FSp:=λds μ Q=>kcA ds λd ds=>kcT ds λws ds=>kcN ds ((Any μ d/\dh (.tup ws)=true)/\Q (.bl (bD (ws.map nmD) d)) μ)
theorem mx:∀ ds μ Q,dk ds μ Q->ds.length=2:=λ_ _ _ h=>lcA h λ_ _ h=>lcT h λ_ _ h=>by rw[(ecN h).1];rfl
def jr:STr:=aE (bI (TOr (cg (TB (au bw (af (ai 0) (af (TC (.int 6)) (ar)))))) (cg (TB (au cA (af (aq L3.rIx (ai 0) (TC (.int 0))) (ar)))))) (aR (TC (.bl false))) (aY)) (aE (bI (TOr (cg (TB (au eW (af (aq L3.rIx (ai 0) (TC (.int 1))) (af (cu (iC (ai 1)) (az 0) (gh) (aq L3.rIx (ai 0) (TC (.int 0))) 1 []) (ar)))))) (cg (TB (au aL (af (aq L3.rIx (ai 0) (TC (.int 2))) (af (TC (.int 1)) (af (TC (.int 8)) (ar)))))))) (aR (TC (.bl false))) (aY)) (aE (bI (TOr (cg (TB (au aL (af (aq L3.rIx (ai 0) (TC (.int 3))) (af (TC (.int 0)) (af (TC (.int 1000000)) (ar))))))) (cg (TB (au bo (af (aq L3.rIx (ai 0) (TC (.int 4))) (af (TC (.int 1000000)) (ar))))))) (aR (TC (.bl false))) (aY)) (aR (au eZ (af (aq L3.rIx (ai 0) (TC (.int 5))) (ar))))))
theorem nP:∀ ds μ Q,dk ds μ Q->jr { nx:=λ_ μ'=>RT Q .non μ',rt:=RT Q } (ini 2 ds) μ:=by
 intro ds μ Q h
 replace h:=ecA h
 obtain ⟨d,ds,rfl,h⟩:=h
 replace h:=ecT h
 obtain ⟨ws,ds,rfl,h⟩:=h
 replace h:=ecN h
 obtain ⟨rfl,h⟩:=h
 walk_at "ini"
 unfold jr
 walk_at "go"
 obtain ⟨⟨t,hw⟩,k⟩:=h
 have fin:∀ {b},bD (ws.map nmD) d=b->RT Q (.bl b) μ:=λ{b} e=>by rw[e] at k;exact ⟨_,.refl _,k⟩
 obtain ⟨⟨w1,w6⟩,wa,wn⟩:=DB hw
 refine ⟨t,?_⟩
 walk_at "go"
 refine fL (λh=>?_) λh=>fin (Nh h)
 obtain ⟨n,r,b,g,m,u,rfl⟩:=six h
 have tn:=t.bW n (by simp)
 have tr:=t.bW r (by simp)
 have tb:=t.bW b (by simp)
 have tg:=t.bW g (by simp)
 have tm:=t.bW m (by simp)
 have tu:=t.bW u (by simp)
 walk_at "go"
 refine ⟨tn,?_⟩
 walk_at "go"
 refine fL (λh1=>?_) λh1=>fin (by simp only[bD,h1,NQ])
 refine comp_map (λd=>.str (nmD d)) (by omega) (λd hd' μ' sb N n=>?_) ?_
 ·obtain ⟨z,r,rfl,_⟩:=sj (wa d hd')
  walk_at "go"
  exact n
 walk_at "go"
 refine ⟨ws.map nmD,⟨tr,by rw[OG];rfl,CZ wa,by rw[NK];omega⟩,?_⟩
 walk_at "go"
 refine fL (λh2=>?_) λh2=>fin (by simp only[bD,h1,h2,N5,NQ])
 refine ⟨tb,?_⟩
 walk_at "go"
 refine fL (λh3=>?_) λh3=>fin (by simp only[bD,h1,h2,h3,N5,NQ])
 refine ⟨tg,?_⟩
 walk_at "go"
 refine fL (λh4=>?_) λh4=>fin (by simp only[bD,h1,h2,h3,h4,N5,NQ])
 refine ⟨tm,?_⟩
 walk_at "go"
 refine fL (λh5=>?_) λh5=>fin (by simp only[bD,h1,h2,h3,h4,h5,N5,NQ])
 exact ⟨tu,fin (by simp only[bD,h1,h2,h3,h4,h5,N5])⟩
theorem Am (a:Str):ltS a a=false:=by unfold ltS;simp
theorem DV {a b:Str}(h:ltS a b=true):ltS b a=false:=by
 unfold ltS at *
 have h1:a.cps.toList < b.cps.toList:=by simpa using h
 simpa using λq=>List.lt_irrefl _ (List.lt_trans h1 q)
theorem yZ {a b:Str}(h1:ltS b a=false)(h2:ltS a b=false):a=b:=by
 unfold ltS at *
 rw[decide_eq_false_iff_not,Vm] at h1 h2
 exact u5 (List.le_antisymm h1 h2)
def pC (ss:List Str):Bool:=decide (ss.Pairwise λa b=>ltS a b=true)
theorem Ht {ss:List Str}(h:ss.Pairwise λa b=>ltS a b=true):ss.Nodup:=h.imp λ{a b} h e=>by rw[e,Am] at h;cases h
theorem Bx {ss:List Str}(h:ss.Pairwise λa b=>ltS b a=false)(nd:ss.Nodup):ss.Pairwise λa b=>ltS a b=true:=
 (h.and nd).imp λ{a b} h=>by
  by_cases q:ltS a b=true
  ·exact q
  ·exact absurd (yZ h.1 (by simpa using q)) h.2
theorem uD:∀ (a b:List Str),fY (a.map .str) (b.map .str)=decide (a=b)
 | [],[]=>rfl
 | [],_::_=>rfl
 | _::_,[]=>rfl
 | x::a,y::b=>by
  rw[Ob,Ob,jR,uD a b,lH,← UB]
  exact decide_eq_decide.mpr (by rw[Sh])
theorem JG {ss ss':List Str}(p:ss'.Perm (ddT ss))(h:ss'.Pairwise λa b=>ltS b a=false):eqD (.ls (ss.map .str)) (.ls (ss'.map .str))=pC ss:=by
 rw[yL,uD]
 refine decide_eq_decide.mpr ⟨λe=>?_,λe=>?_⟩
 ·subst e
  exact Bx h ((p.nodup_iff).mpr (BJ _))
 ·have nd:=Ht e
  rw[show ddT ss=ss from Bq ss [] nd] at p
  exact (p.eq_of_pairwise (λa b _ _ h1 h2=>yZ h1 h2) h (e.imp DV)).symm
def bX (ns:List Str):D->Bool
 | .tup ds=>decide (ds.length<=8)&&(ds.all (bD ns)&&pC (ds.map nmD))
 | _=>false
theorem vc {ns:List Str}{d:D}(h:bD ns d=true):∃ z r,d=.tup (.str z::r)/\nmS z=true:=by
 unfold bD at h
 split at h
 ·rename_i n _ _ _ _ _
  cases n with
  | str z=>rw[NO] at h;exact ⟨z,_,rfl,h.1⟩
  | _=>simp[nmB] at h
 ·cases h
def cx:FSp:=λds μ Q=>kcA ds λd ds=>kcT ds λws ds=>kcN ds ((Any μ d/\Any μ (.tup ws)/\dh (.tup ws)=true)/\Q (.bl (bX (ws.map nmD) d)) μ)
theorem jG:∀ ds μ Q,cx ds μ Q->ds.length=2:=λ_ _ _ h=>lcA h λ_ _ h=>lcT h λ_ _ h=>by rw[(ecN h).1];rfl
def g4:STr:=aE (bI (TOr (cg (TB (TUn (cU "tuple") (ai 0)))) (TB (aq rGt (au e7 (af (ai 0) (ar))) (TC (.int 8))))) (aR (TC (.bl false))) (aY)) (aE (bI (cg (TB (au BI (af (cu (iC (ai 0)) (az 0) (gh) (au dk (af (ai 0) (af (ai 1) (ar)))) 1 [1]) (ar))))) (aR (TC (.bl false))) (aY)) (aE (aU (cu (iC (ai 0)) (az 0) (gh) (aq L3.rIx (ai 0) (TC (.int 0))) 1 []) (az 2)) (aR (aq rEq (ai 2) (nF (ai 2))))))
theorem kT:∀ ds μ Q,cx ds μ Q->g4 { nx:=λ_ μ'=>RT Q .non μ',rt:=RT Q } (ini 3 ds) μ:=by
 intro ds μ Q h
 replace h:=ecA h
 obtain ⟨d,ds,rfl,h⟩:=h
 replace h:=ecT h
 obtain ⟨ws,ds,rfl,h⟩:=h
 replace h:=ecN h
 obtain ⟨rfl,h⟩:=h
 walk_at "ini"
 unfold g4
 walk_at "go"
 obtain ⟨⟨t,tw,hw⟩,k⟩:=h
 have fin:∀ {b},bX (ws.map nmD) d=b->RT Q (.bl b) μ:=λ{b} e=>by rw[e] at k;exact ⟨_,.refl _,k⟩
 cases t with
 | @tup ds hd hl=>
  walk_at "go"
  refine kif (λh1=>fin ?_) λh1=>?_
  ·simp only[bX];rw[decide_eq_false (by omega)];rfl
  have eb:bX (ws.map nmD) (.tup ds)=(ds.all (bD (ws.map nmD))&&pC (ds.map nmD)):=by simp only[bX];rw[decide_eq_true (by omega)];rfl
  refine comp_map (λd=>.bl (bD (ws.map nmD) d)) (by omega) (λd hd' μ' sb N n=>?_) ?_
  ·walk_at "go"
   exact ⟨⟨(hd d hd').sub sb,hw⟩,n⟩
  walk_at "go"
  refine ⟨ds.map (bD (ws.map nmD)),by rw[OG];rfl,?_⟩
  walk_at "go"
  have ea:(ds.map (bD (ws.map nmD))).all id=ds.all (bD (ws.map nmD)):=by rw[Q6];rfl
  rw[ea]
  refine fL (λh3=>?_) λh3=>fin (by rw[eb,h3];rfl)
  have ha:=Ot.mp h3
  refine comp_map (λd=>.str (nmD d)) (by omega) (λd hd' μ' sb N n=>?_) ?_
  ·obtain ⟨z,r,rfl,_⟩:=vc (ha d hd')
   walk_at "go"
   exact n
  have em:ds.map (λd=>D.str (nmD d))=(ds.map nmD).map .str:=by rw[OG];rfl
  rw[em]
  walk_at "go"
  have dl:(ddT (ds.map nmD)).length<=0+(ds.map nmD).length:=Di (ds.map nmD) []
  have ln:(ds.map nmD).length<=8:=by rw[NK];omega
  refine ⟨ds.map nmD,⟨rfl,by omega,by omega⟩,λss' p1 p2=>?_⟩
  have oks:∀ n∈ds.map nmD,Oe n=true:=λn hn=>by
   obtain ⟨d,hd,rfl⟩:=Od.mp hn
   obtain ⟨z,r,rfl,hz⟩:=vc (ha d hd)
   exact rE hz
  walk_at "go"
  refine ⟨⟨kj oks,kj λn hn=>oks n (ER.mp (p1.mem_iff.mp hn))⟩,fin ?_⟩
  rw[eb,h3,N5]
  exact (JG p1 p2).symm
 | _=>
  walk_at "go"
  try (rw[jZ (by assumption)];walk_at "go")
  exact fin rfl
def oJ:D->List Str
 | .tup ws=>ws.map nmD
 | _=>[]
def dG:D->Bool
 | .tup [g,w,s]=>wiI 1 60 g&&(dh w&&bX (oJ w) s)
 | _=>false
theorem three {d:D}(h:isT 3 d=true):∃ g w s,d=.tup [g,w,s]:=by
 unfold isT at h
 split at h
 ·rename_i ds
  have h:=of_decide_eq_true h
  match ds,(show ds.length=3 by omega) with
  | [g,w,s],_=>exact ⟨g,w,s,rfl⟩
 ·cases h
theorem Nb {d:D}(h:isT 3 d=false):dG d=false:=by
 unfold dG
 split
 ·simp[isT] at h
 ·rfl
theorem zC {d:D}(h:dh d=true):∃ ws,d=.tup ws:=by
 cases d with
 | tup ws=>exact ⟨ws,rfl⟩
 | _=>cases h
def eS:FSp:=λds μ Q=>kcA ds λd ds=>kcN ds (Any μ d/\Q (.bl (dG d)) μ)
theorem p5:∀ ds μ Q,eS ds μ Q->ds.length=1:=λ_ _ _ h=>lcA h λ_ _ h=>by rw[(ecN h).1];rfl
def lI:STr:=aE (bI (TOr (cg (TB (au bw (af (ai 0) (af (TC (.int 3)) (ar)))))) (cg (TB (au aL (af (aq L3.rIx (ai 0) (TC (.int 0))) (af (TC (.int 1)) (af (TC (.int 60)) (ar)))))))) (aR (TC (.bl false))) (aY)) (aR (cZ (au d7 (af (aq L3.rIx (ai 0) (TC (.int 1))) (ar))) (au cx (af (aq L3.rIx (ai 0) (TC (.int 2))) (af (aq L3.rIx (ai 0) (TC (.int 1))) (ar))))))
theorem rX:∀ ds μ Q,eS ds μ Q->lI { nx:=λ_ μ'=>RT Q .non μ',rt:=RT Q } (ini 1 ds) μ:=by
 intro ds μ Q h
 replace h:=ecA h
 obtain ⟨d,ds,rfl,h⟩:=h
 replace h:=ecN h
 obtain ⟨rfl,h⟩:=h
 walk_at "ini"
 unfold lI
 walk_at "go"
 obtain ⟨t,k⟩:=h
 have fin:∀ {b},dG d=b->RT Q (.bl b) μ:=λ{b} e=>by rw[e] at k;exact ⟨_,.refl _,k⟩
 refine ⟨t,?_⟩
 walk_at "go"
 refine fL (λh=>?_) λh=>fin (Nb h)
 obtain ⟨g,w,s,rfl⟩:=three h
 have tg:=t.bW g (by simp)
 have tw:=t.bW w (by simp)
 have ts:=t.bW s (by simp)
 walk_at "go"
 refine ⟨tg,?_⟩
 walk_at "go"
 refine fL (λh1=>?_) λh1=>fin (by simp only[dG,h1,NQ])
 refine ⟨tw,?_⟩
 walk_at "go"
 refine nD (λh2=>?_) λh2=>fin (by simp only[dG,h1,h2,N5,NQ])
 obtain ⟨ws,rfl⟩:=zC h2
 exact ⟨⟨ts,tw,h2⟩,fin (by simp only[dG,h1,h2,N5,oJ])⟩
def mC:FSp:=λds μ Q=>kcL ds λxs ds=>kcI ds λk ds=>kcN ds ((∃ ns:List Int,xs=ns.map .int/\0<=k/\k<=1000)/\∀ p μ',μ p=none->Box μ' p->(∀ a,a≠p->μ' a=μ a)->Q (.obj p) μ')
theorem BV:∀ ds μ Q,mC ds μ Q->ds.length=2:=λ_ _ _ h=>lcL h λ_ _ h=>lcI h λ_ _ h=>by rw[(ecN h).1];rfl
def BB:STr:=aE (aU (TC (.int 0)) (az 2)) (aE (bI (TB (aq rLt (ai 1) (au e7 (af (ai 0) (ar))))) (aU (aq L3.rIx (ai 0) (ai 1)) (az 2)) (aY)) (aR (xc (af (aq gB (aq fR (au sG (af (ai 2) (ar))) (aq uc (TC (.int 10)) (TC (.int 60)))) (au Ay (af (aq rGe (au sG (af (ai 2) (ar))) (aq uc (TC (.int 10)) (TC (.int 18)))) (ar)))) (af (aq fR (aq aM (aq aM (ai 2) (aq gB (aq gB (TC (.int 613)) (ai 1)) (ai 1))) (aq gB (TC (.int 29)) (ai 1))) (TC (.int 2147483647))) (af (TC (.int 0)) (ar)))))))
theorem EN:∀ ds μ Q,mC ds μ Q->BB { nx:=λ_ μ'=>RT Q .non μ',rt:=RT Q } (ini 3 ds) μ:=by
 intro ds μ Q h
 replace h:=ecL h
 obtain ⟨xs,ds,rfl,h⟩:=h
 replace h:=ecI h
 obtain ⟨k,ds,rfl,h⟩:=h
 replace h:=ecN h
 obtain ⟨rfl,h⟩:=h
 walk_at "ini"
 unfold BB
 walk_at "go"
 obtain ⟨⟨ns,rfl,k0,k1⟩,hk⟩:=h
 have go:∀ g s:Int,0<=s->s < 2147483647->∀ p,μ p=none->RT Q (.obj p) (up μ p (.lst [.int g,.int s,.int 0])):=λg s s0 s1 p hp=>
  ⟨_,.refl _,hk p _ hp ⟨g,s,0,aX,s0,by omega⟩ λa ha=>cJ ha⟩
 have m1:MulOk 613 k:=by walk_at "ok"
 have m2:L3.MulOk ((613:Int)*k) k:=.inl (.inr (by unfold S64;omega))
 have m3:MulOk 29 k:=by walk_at "ok"
 have p1:o8 10 60:=by walk_at "ok"
 have p2:o8 10 18:=by walk_at "ok"
 refine kif (λhlt=>?_) λ_=>?_
 ·rw[NK] at hlt
  obtain ⟨z,ez⟩:=Dm k0 hlt
  refine g9 ez ?_
  walk_at "go"
  exact ⟨p1,by decide,p2,.inl (.inr (by unfold S64;split<;>omega)),m1,m2,m3,by decide,λp hp=>go _ _ (fm0 (by decide)) (fm1 (by decide)) p hp⟩
 ·exact ⟨p1,by decide,p2,.inl (.inr (by unfold S64;omega)),m1,m2,m3,by decide,λp hp=>go _ _ (fm0 (by decide)) (fm1 (by decide)) p hp⟩
def ay:FSp:=λds μ Q=>kcO ds λb ds=>kcI ds λn ds=>kcN ds ((Box μ b/\0 < n/\n < 18446744073709551616)/\∀ k μ',0<=k->k < n->cE b μ μ'->Q (.int k) μ')
theorem IQ (a b c x:D):[a,b,c].set 0 x=[x,b,c]:=rfl
theorem JB (a b c x:D):[a,b,c].set 1 x=[a,x,c]:=rfl
theorem Jf (a b c x:D):[a,b,c].set 2 x=[a,b,x]:=rfl
theorem ytk {μ:Mu}{b:Addr}{n:Int}{Q:DK}(hB:Box μ b)(h0:0 < n)(h1:n < 18446744073709551616)(h:∀ k μ',0<=k->k < n->cE b μ μ'->Q (.int k) μ'):iA ay [.obj b,.int n] μ Q:=⟨⟨hB,h0,h1⟩,h⟩
theorem Au:∀ ds μ Q,ay ds μ Q->ds.length=2:=λ_ _ _ h=>lcO h λ_ _ h=>lcI h λ_ _ h=>by rw[(ecN h).1];rfl
def nT:STr:=aE (aU (aq fR (aq aM (aq aM (aq gB (aq L3.rIx (ai 0) (TC (.int 1))) (TC (.int 48271))) (aq gB (TC (.int 8191)) (aq L3.rIx (ai 0) (TC (.int 2))))) (TC (.int 17))) (TC (.int 2147483647))) (az 3)) (aE (ff (ai 0) (TC (.int 1)) (aq fR (aq aM (aq gB (ai 3) (ai 3)) (aq L3.rIx (ai 0) (TC (.int 2)))) (TC (.int 2147483629)))) (aR (aq fR (aq jc (aq L3.rIx (ai 0) (TC (.int 1))) (TC (.int 13))) (ai 1))))
def y6:STr:=aE (bI (TB (aq rGt (aq L3.rIx (ai 0) (TC (.int 0))) (TC (.int 0)))) (aE (aU (aq fR (aq L3.rIx (ai 0) (TC (.int 0))) (ai 1)) (az 2)) (aE (ff (ai 0) (TC (.int 0)) (aq jc (aq L3.rIx (ai 0) (TC (.int 0))) (ai 1))) (aR (ai 2)))) (aY)) (aE (ff (ai 0) (TC (.int 2)) (aq aM (aq L3.rIx (ai 0) (TC (.int 2))) (TC (.int 1)))) (nT))
theorem Cz:∀ ds μ Q,ay ds μ Q->y6 { nx:=λ_ μ'=>RT Q .non μ',rt:=RT Q } (ini 4 ds) μ:=by
 intro ds μ Q h
 replace h:=ecO h
 obtain ⟨b,ds,rfl,h⟩:=h
 replace h:=ecI h
 obtain ⟨n,ds,rfl,h⟩:=h
 replace h:=ecN h
 obtain ⟨rfl,h⟩:=h
 walk_at "ini"
 unfold y6
 walk_at "go"
 unfold nT
 walk_at "go"
 obtain ⟨⟨⟨g,s,c,hb,s0,s1⟩,n0,n1⟩,k⟩:=h
 repeat (first | (simp only[Hn hb];walk_at "go") | (simp only[yD,zp,yM,NN,OD,RE,R7,if_true,qU];walk_at "go") | (simp only[IQ,JB,Jf];walk_at "go"))
 have dv:iJ n:=by walk_at "ok"
 have n2:n≠0:=by omega
 have d13:iJ 13:=by walk_at "ok"
 have fin:∀ μ':Mu,∀ d:Int,0<=d->d < n->Box μ' b->(∀ a,a≠b->μ' a=μ a)->RT Q (.int d) μ':=λμ' d h3 h4 h5 h6=>
  ⟨_,.refl _,k d _ h3 h4 ⟨h5,h6⟩⟩
 have m1:MulOk s 48271:=by walk_at "ok"
 have m2:MulOk 8191 (c+1):=.inl (.inl (by unfold S64;omega))
 have z0:=fm0 (a:=s*48271+8191*(c+1)+17) (n:=2147483647) (by decide)
 have z1:=fm1 (a:=s*48271+8191*(c+1)+17) (n:=2147483647) (by decide)
 refine kif (λ_=>?_) λ_=>?_
 ·exact ⟨n2,dv,fin _ _ (fm0 n0) (fm1 n0) ⟨_,_,_,aX,s0,s1⟩ λa ha=>cJ ha⟩
 ·generalize (s*48271+8191*(c+1)+17).fmod 2147483647=z at *
  have m3:MulOk z z:=.inr ⟨by unfold bx;omega,by unfold bx;omega⟩
  have y0:=fm0 (a:=z*z+(c+1)) (n:=2147483629) (by decide)
  have y1:=fm1 (a:=z*z+(c+1)) (n:=2147483629) (by decide)
  refine ⟨m1,m2,by decide,m3,by decide,d13,n2,fin _ _ (fm0 n0) (fm1 n0) ⟨_,_,_,aX,y0,by omega⟩ λa ha=>by simp only[cJ ha]⟩
theorem nQ {o:Option Nat}{c:Nat}{f:Nat->Prop}(e:o=some c)(h:f c):kN o f:=by rw[e];exact h
theorem xE {i:Int}(i0:0<=i)(i1:i < 26):L2.atI (NA "abcdefghijklmnopqrstuvwxyz").cps.toList i=some (97+i.toNat):=by
 have:∀ j:Fin 26,L2.atI (NA "abcdefghijklmnopqrstuvwxyz").cps.toList (j.val:Int)=some (97+j.val):=by decide +kernel
 obtain ⟨j,rfl⟩:=Ou i0
 exact this ⟨j,by omega⟩
theorem sJ:(NA "abcdefghijklmnopqrstuvwxyz").length<=1000000:=by decide +kernel
theorem app_list (x y:Str):(x++y).cps.toList=x.cps.toList++y.cps.toList:=by
 show (x.cps++y.cps).toList=_
 exact SS
theorem rep1 (c n:Nat):(mv ⟨#[c]⟩ n).cps.toList=N8 n c:=by
 rw[Aw];simp
theorem sY (c n:Nat):(mv ⟨#[c]⟩ n).length=n:=by rw[← iB,rep1,OY]
theorem yt (x y:Str):(x++y).length=x.length+y.length:=by rw[← iB,app_list,NW,iB,iB]
def nmL (sz a f w:Int)(j:Int):List Nat:=
 if w=0 then N8 a.toNat (97+a.toNat)++[97+((f+3*j).fmod 26).toNat]++N8 (sz - 1 - a).toNat (97+a.toNat)
 else if w=1 then N8 (1+(f+5*j).fmod 8).toNat (97+((f+3*j).fmod 26).toNat)
 else N8 (1+j).toNat (97+f.toNat)
structure Ei (sz a f w:Int):Prop where
 s1:1<=sz
 s8:sz<=8
 a0:0<=a
 a1:a < sz
 f0:0<=f
 f1:f < 26
theorem G4 {i:Nat}(h:i < 26):sm (97+i)=true:=by unfold sm;rw[NO,decide_eq_true_eq,decide_eq_true_eq];omega
theorem HB {sz a f w j:Int}(N:Ei sz a f w)(j0:0<=j)(j8:j < 8):(1<=(nmL sz a f w j).length/\(nmL sz a f w j).length<=8)/\∀ c∈nmL sz a f w j,sm c=true:=by
 obtain ⟨s1,s8,a0,a1,f0,f1⟩:=N
 have g0:=fm0 (a:=f+3*j) (n:=26) (by decide)
 have g1:=fm1 (a:=f+3*j) (n:=26) (by decide)
 have h0:=fm0 (a:=f+5*j) (n:=8) (by decide)
 have h1:=fm1 (a:=f+5*j) (n:=8) (by decide)
 have rep:∀ {i n:Nat} {c:Nat},i < 26->c∈N8 n (97+i)->sm c=true:=λhi hc=>by rw[(List.mem_replicate.mp hc).2];exact G4 hi
 unfold nmL
 split
 ·refine ⟨by simp;omega,λc hc=>?_⟩
  rcases Oo.mp hc with h | h
  ·rcases Oo.mp h with h | h
   ·exact rep (by omega) h
   ·rw[NZ.mp h];exact G4 (by omega)
  ·exact rep (by omega) h
 ·split
  ·exact ⟨by simp;omega,λc hc=>rep (by omega) hc⟩
  ·exact ⟨by simp;omega,λc hc=>rep (by omega) hc⟩
theorem FN {f i j:Int}(i0:0<=i)(ij:i < j)(j8:j < 8):(f+3*i).fmod 26≠(f+3*j).fmod 26:=by
 rw[Rj _ (by decide),Rj _ (by decide)]
 omega
theorem J5 {sz a f w i j:Int}(N:Ei sz a f w)(i0:0<=i)(ij:i < j)(j8:j < 8):nmL sz a f w i≠nmL sz a f w j:=by
 obtain ⟨s1,s8,a0,a1,f0,f1⟩:=N
 have ne:=FN (f:=f) i0 ij j8
 have g0:=fm0 (a:=f+3*i) (n:=26) (by decide)
 have g1:=fm0 (a:=f+3*j) (n:=26) (by decide)
 have h0:=fm0 (a:=f+5*i) (n:=8) (by decide)
 have h1:=fm0 (a:=f+5*j) (n:=8) (by decide)
 unfold nmL
 split
 ·intro e
  have e:=List.append_inj_left e (by simp)
  have e:=List.append_inj_right e rfl
  simp only[Sh,and_true] at e
  omega
 ·split
  ·intro e
   have e:=congrArg List.head? e
   rw[SF,SF,if_neg (by omega),if_neg (by omega)] at e
   simp only[Option.some.injEq] at e
   omega
  ·intro e
   have e:=congrArg PY e
   rw[OY,OY] at e
   omega
def nmT (sz a f w:Int)(j:Int):Str:=⟨(nmL sz a f w j).toArray⟩
theorem Mn {sz a f w j:Int}(N:Ei sz a f w)(j0:0<=j)(j8:j < 8):nmS (nmT sz a f w j)=true:=by
 obtain ⟨⟨h1,h8⟩,ha⟩:=HB N j0 j8
 have e:(nmT sz a f w j).cps.toList=nmL sz a f w j:=rfl
 unfold nmS
 rw[e,decide_eq_true h1,decide_eq_true h8,Ot.mpr ha];rfl
theorem Hw {z:Str}{l:List Nat}(e:z.cps.toList=l):z=⟨l.toArray⟩:=u5 (by rw[e])
def kn (sz a f w:Int)(n:Nat):List Str:=(OR n).map λi=>nmT sz a f w (i:Nat)
theorem Ct {sz a f w:Int}(N:Ei sz a f w){n:Nat}(h:n<=8):(kn sz a f w n).Nodup:=by
 unfold kn
 refine List.pairwise_map.mpr ?_
 have:(OR n).Pairwise λi j=>i < j/\j < n:=by
  have h1:=List.pairwise_lt_range (n:=n)
  exact h1.imp_of_mem λ{a b} _ hb h=>⟨h,PB.mp hb⟩
 exact this.imp λ{i j} ⟨h1,h2⟩ e=>J5 N (i:=(i:Nat)) (j:=(j:Nat)) (by omega) (by omega) (by omega) (by
  have:=congrArg (λz:Str=>z.cps.toList) e
  exact this)
def gc:FSp:=λds μ Q=>kcO ds λb ds=>kcI ds λn ds=>kcN ds ((Box μ b/\0<=n/\n<=8)/\∀ (zs:List Str) μ',(zs.length:Int)=n->(∀ z∈zs,nmS z=true)->zs.Nodup->cE b μ μ'->Q (.ls (zs.map .str)) μ')
theorem wQ:∀ ds μ Q,gc ds μ Q->ds.length=2:=λ_ _ _ h=>lcO h λ_ _ h=>lcI h λ_ _ h=>by rw[(ecN h).1];rfl
def uu:STr:=aE (aU (TC (.str "abcdefghijklmnopqrstuvwxyz")) (az 2)) (aE (aU (aq aM (TC (.int 1)) (au ay (af (ai 0) (af (TC (.int 8)) (ar))))) (az 3)) (aE (aU (au ay (af (ai 0) (af (ai 3) (ar)))) (az 4)) (aE (aU (au ay (af (ai 0) (af (TC (.int 26)) (ar)))) (az 5)) (aE (aU (au ay (af (ai 0) (af (TC (.int 3)) (ar)))) (az 6)) (aE (aU (xc (ar)) (az 7)) (aE (qa (cz (ai 1)) (az 8) (aE (aU (aq jk (ai 2) (aq fR (aq aM (ai 5) (aq gB (TC (.int 3)) (ai 8))) (TC (.int 26)))) (az 9)) (bI (TB (aq rEq (ai 6) (TC (.int 0)))) (aE (aU (aq jk (ai 2) (ai 4)) (az 10)) (lD (ud (ai 7) (aq aM (aq aM (aq lg (ai 10) (ai 4)) (ai 9)) (aq lg (ai 10) (aq uF (aq uF (ai 3) (TC (.int 1))) (ai 4))))))) (bI (TB (aq rEq (ai 6) (TC (.int 1)))) (lD (ud (ai 7) (aq lg (ai 9) (aq aM (TC (.int 1)) (aq fR (aq aM (ai 5) (aq gB (TC (.int 5)) (ai 8))) (TC (.int 8))))))) (lD (ud (ai 7) (aq lg (aq jk (ai 2) (ai 5)) (aq aM (TC (.int 1)) (ai 8))))))))) (aR (AQ (ai 7)))))))))
theorem zx:∀ ds μ Q,gc ds μ Q->uu { nx:=λ_ μ'=>RT Q .non μ',rt:=RT Q } (ini 11 ds) μ:=by
 intro ds μ Q h
 replace h:=ecO h
 obtain ⟨b,ds,rfl,h⟩:=h
 replace h:=ecI h
 obtain ⟨n,ds,rfl,h⟩:=h
 replace h:=ecN h
 obtain ⟨rfl,h⟩:=h
 walk_at "ini"
 unfold uu
 walk_at "go"
 obtain ⟨⟨hB,n1,n8⟩,k⟩:=h
 refine ytk hB (by decide) (by decide) λk1 μ1 k10 k11 B1=>?_
 walk_at "go"
 refine ytk B1.box (by omega) (by omega) λk2 μ2 k20 k21 B2=>?_
 walk_at "go"
 refine ytk B2.box (by decide) (by decide) λk3 μ3 k30 k31 B3=>?_
 walk_at "go"
 refine ytk B3.box (by decide) (by decide) λk4 μ4 k40 k41 B4=>?_
 walk_at "go"
 intro q hq
 walk_at "go"
 refine ⟨⟨by omega,by omega⟩,?_⟩
 have B5:cE b μ μ4:=((B1.trans B2).trans B3).trans B4
 have NI:Ei (1+k1) k2 k3 k4:=⟨by omega,by omega,k20,k21,k30,k31⟩
 obtain ⟨nn,rfl⟩:=Ou n1
 rw[Ox]
 refine f9 (λr ρ μ'=>∃ (i c:Nat) (v8 v9 v10:Option D),r=dm (i:Int) c/\i+c=nn/\ρ=[some (.obj b),some (.int nn),some (.str "abcdefghijklmnopqrstuvwxyz"),some (.int (1+k1)),some (.int k2),some (.int k3),some (.int k4),some (.obj q),v8,v9,v10]/\μ'=up μ4 q (.lst ((kn (1+k1) k2 k3 k4 i).map .str))) ?_ ?_ _ _ _ ⟨0,nn,_,_,_,rfl,by omega,rfl,rfl⟩
 ·rintro ρ μ' ⟨i,c,v8,v9,v10,er,ei,rfl,rfl⟩
  have c0:c=0:=by
   have:=congrArg PY er
   rw[bE] at this
   simpa using this.symm
  have ei:i=nn:=by omega
  subst ei
  walk_at "go"
  rw[IT hq]
  refine ⟨_,.refl _,k (kn (1+k1) k2 k3 k4 i) _ (by simp[kn]) (λz hz=>?_) (Ct NI (by omega)) B5⟩
  obtain ⟨j,hj,rfl⟩:=Od.mp hz
  have:=PB.mp hj
  exact Mn NI (by omega) (by omega)
 ·rintro d r ρ μ' N ⟨i,c,v8,v9,v10,er,ei,rfl,rfl⟩ hN
  cases c with
  | zero=>cases er
  | succ c=>
  rw[vL] at er
  cases er
  have put:∀ (z:Str) (v9 v10:Option D),z.cps.toList=nmL (1+k1) k2 k3 k4 i->((kn (1+k1) k2 k3 k4 i).map D.str).length < 1000000/\N [some (.obj b),some (.int nn),some (.str "abcdefghijklmnopqrstuvwxyz"),some (.int (1+k1)),some (.int k2),some (.int k3),some (.int k4),some (.obj q),some (.int i),v9,v10] (up μ4 q (.lst ((kn (1+k1) k2 k3 k4 i).map .str++[.str z]))):=λz v9 v10 hz=>by
   refine ⟨by simp[kn];omega,hN _ _ ⟨i+1,c,_,_,_,by rw[Int.natCast_add];rfl,by omega,rfl,?_⟩⟩
   rw[Hw hz]
   simp[kn,List.range_succ,nmT]
  walk_at "go"
  have g0:=fm0 (a:=k3+3*(i:Int)) (n:=26) (by decide)
  have g1:=fm1 (a:=k3+3*(i:Int)) (n:=26) (by decide)
  have ec:=xE g0 g1
  refine ⟨by walk_at "ok", by decide,sJ,nQ ec ?_⟩
  walk_at "go"
  have ln:∀ m:Nat,(⟨#[m]⟩:Str).length=1:=λ_=>rfl
  refine kif (λw0=>?_) λw0=>?_
  ·have ec2:=xE (i:=k2) k20 (by omega)
   refine ⟨sJ,nQ ec2 ?_⟩
   walk_at "go"
   refine ⟨⟨by omega,by omega,by rw[ln];omega⟩,?_⟩
   rw[sY,ln]
   refine ⟨by omega,⟨by omega,by omega,by rw[ln];omega⟩,?_⟩
   rw[yt,sY,sY,ln]
   refine ⟨by omega,put _ _ _ ?_⟩
   rw[app_list,app_list,rep1,rep1]
   unfold nmL
   rw[if_pos w0]
  ·refine kif (λw1=>?_) λw1=>?_
   ·have f0:=fm0 (a:=k3+5*(i:Int)) (n:=8) (by decide)
    have f1:=fm1 (a:=k3+5*(i:Int)) (n:=8) (by decide)
    refine ⟨by walk_at "ok", by decide,⟨by omega,by omega,by rw[ln];omega⟩,put _ _ _ ?_⟩
    rw[rep1]
    unfold nmL
    rw[if_neg w0,if_pos w1]
   ·have ec2:=xE (i:=k3) k30 (by omega)
    refine ⟨sJ,nQ ec2 ?_⟩
    walk_at "go"
    refine ⟨⟨by omega,by omega,by rw[ln];omega⟩,put _ _ _ ?_⟩
    rw[rep1]
    unfold nmL
    rw[if_neg w0,if_neg w1]
def eC:FSp:=λds μ Q=>kcI ds λa ds=>kcI ds λb ds=>kcN ds ((0 < b/\bx b)/\Q (fr (a.fdiv (Oj a b)) (b.fdiv (Oj a b))) μ)
theorem zP:∀ ds μ Q,eC ds μ Q->ds.length=2:=λ_ _ _ h=>lcI h λ_ _ h=>lcI h λ_ _ h=>by rw[(ecN h).1];rfl
def yG:STr:=aE (xx 2 3 (af (au sG (af (ai 0) (ar))) (af (ai 1) (ar)))) (aE (xq (TB (aq rGt (ai 3) (TC (.int 0)))) (xx 2 3 (af (ai 3) (af (aq fR (ai 2) (ai 3)) (ar))))) (aR (aP (af (aq jc (ai 0) (ai 2)) (af (aq jc (ai 1) (ai 2)) (ar))))))
theorem Ec:∀ ds μ Q,eC ds μ Q->yG { nx:=λ_ μ'=>RT Q .non μ',rt:=RT Q } (ini 4 ds) μ:=by
 intro ds μ Q h
 replace h:=ecI h
 obtain ⟨a,ds,rfl,h⟩:=h
 replace h:=ecI h
 obtain ⟨b,ds,rfl,h⟩:=h
 replace h:=ecN h
 obtain ⟨rfl,h⟩:=h
 walk_at "ini"
 unfold yG
 walk_at "go"
 obtain ⟨⟨b0,b1⟩,k⟩:=h
 have ea:(if a < 0 then -a else a)=(a.natAbs:Int):=by split<;>omega
 rw[ea]
 refine ⟨λρ μ'=>μ'=μ/\∃ x y:Int,ρ=[some (.int a),some (.int b),some (.int x),some (.int y)]/\0<=x/\0<=y/\Oj x y=Oj a b,mz 3,⟨rfl,a.natAbs,b,rfl,Rh _,by omega,by simp[Oj]⟩,?_⟩
 rintro ρ _ ⟨rfl,x,y,rfl,x0,y0,e⟩
 walk_at "go"
 refine kif (λhy=>?_) λhy=>?_
 ·walk_at "go"
  refine ⟨by omega,⟨_,_,rfl,y0,fm0 hy,?_⟩,?_⟩
  ·rw[vF];exact e
  ·have:=fm1 (a:=x) hy
   have:=fm0 (a:=x) hy
   simp only[mz,lk]
   omega
 ·have hy0:y=0:=by omega
  subst hy0
  rw[Ts] at e
  have hx:x=(Oj a b:Int):=by omega
  subst hx
  have gp:0 < Oj a b:=QY a (by omega)
  have gl:(Oj a b:Int)<=b:=Int.gcd_le_right a b0
  have dv:iJ (Oj a b:Int):=⟨by omega,by unfold bx at *;omega⟩
  walk_at "go"
  exact ⟨dv,dv,_,.refl _,k⟩
theorem yv {a b:Int}(b0:0 < b)(b1:b<=10000002){lo hi:Int}(h0:lo*b<=a)(h1:a<=hi*b):FrB lo hi (a.fdiv (Oj a b)) (b.fdiv (Oj a b)):=by
 obtain ⟨g,p,q,g0,ea,eb,e1,e2,q0,qb,gg⟩:=kP (a:=a) b0
 rw[e1,e2]
 rw[ea,eb] at h0 h1
 refine ⟨q0,by omega,gg,?_,?_⟩
 ·rw[Rv] at h0
  exact Ro h0 g0
 ·rw[Rv] at h1
  exact Ro h1 g0
theorem zg {a b:Int}(b0:0 < b)(b1:b<=10000002){lo hi:Int}(h0:lo*b < a)(h1:a<=hi*b):FrA lo hi (a.fdiv (Oj a b)) (b.fdiv (Oj a b)):=by
 refine ⟨yv b0 b1 (by omega) h1,?_⟩
 obtain ⟨g,p,q,g0,ea,eb,e1,e2,q0,qb,gg⟩:=kP (a:=a) b0
 rw[e1,e2]
 rw[ea,eb,Rv] at h0
 exact Int.lt_of_mul_lt_mul_left h0 (by omega)
theorem Ic {a b:Int}(b0:0 < b):b.fdiv (Oj a b)<=b:=by
 obtain ⟨g,p,q,g0,ea,eb,e1,e2,q0,qb,gg⟩:=kP (a:=a) b0
 rw[e2];exact qb
def b4:FSp:=λds μ Q=>kcO ds λb ds=>kcI ds λlo ds=>kcI ds λhi ds=>kcN ds ((Box μ b/\0<=lo/\lo<=hi/\hi<=1000)/\∀ p q μ',FrB lo hi p q->q<=7->cE b μ μ'->Q (fr p q) μ')
theorem pG:∀ ds μ Q,b4 ds μ Q->ds.length=3:=λ_ _ _ h=>lcO h λ_ _ h=>lcI h λ_ _ h=>lcI h λ_ _ h=>by rw[(ecN h).1];rfl
def lp:STr:=aE (aU (aq L3.rIx (cF (af (TC (.int 1)) (af (TC (.int 1)) (af (TC (.int 2)) (af (TC (.int 3)) (af (TC (.int 4)) (af (TC (.int 7)) (ar)))))))) (au ay (af (ai 0) (af (TC (.int 6)) (ar))))) (az 3)) (aR (au eC (af (aq aM (aq gB (ai 1) (ai 3)) (au ay (af (ai 0) (af (aq aM (aq gB (aq uF (ai 2) (ai 1)) (ai 3)) (TC (.int 1))) (ar))))) (af (ai 3) (ar)))))
theorem r6:∀ ds μ Q,b4 ds μ Q->lp { nx:=λ_ μ'=>RT Q .non μ',rt:=RT Q } (ini 4 ds) μ:=by
 intro ds μ Q h
 replace h:=ecO h
 obtain ⟨b,ds,rfl,h⟩:=h
 replace h:=ecI h
 obtain ⟨lo,ds,rfl,h⟩:=h
 replace h:=ecI h
 obtain ⟨hi,ds,rfl,h⟩:=h
 replace h:=ecN h
 obtain ⟨rfl,h⟩:=h
 walk_at "ini"
 unfold lp
 walk_at "go"
 obtain ⟨⟨hB,l0,lh,h1⟩,k⟩:=h
 refine ytk hB (by decide) (by decide) λc μ1 c0 c1 B1=>?_
 have al:∀ d∈([.int 1,.int 1,.int 2,.int 3,.int 4,.int 7]:List D),IsI 1 7 d:=by
  repeat' (first | exact aD | refine ah ⟨_,rfl,by decide,by decide⟩ ?_)
 obtain ⟨_,e1,n,rfl,n0,n1⟩:=cQ al c0 c1
 walk_at "go"
 rw[e1]
 walk_at "go"
 have a0:0<=(hi - lo)*n:=UZ (by omega) (by omega)
 have a1:(hi - lo)*n<=1000*7:=Int.mul_le_mul (by omega) n1 (by omega) (by omega)
 refine ⟨.inl (.inr (by unfold S64;omega)),.inl (.inr (by unfold S64;omega)),?_⟩
 refine ytk B1.box (by omega) (by omega) λd μ2 d0 d1 B2=>?_
 walk_at "go"
 refine ⟨⟨by omega,by unfold bx;omega⟩,?_⟩
 have F:=yv (a:=lo*n+d) (b:=n) (lo:=lo) (hi:=hi) (by omega) (by omega) (by omega) (by rw[Int.sub_mul] at d1;omega)
 have q7:=Ic (a:=lo*n+d) (b:=n) (by omega)
 exact ⟨_,.refl _,k _ _ _ F (by omega) (B1.trans B2)⟩
theorem FrB.isF {lo hi p q:Int}(h:FrB lo hi p q):L3.isF (fr p q)=true:=by
 show (decide (0 < q)&&decide (Oj p q=1))=true
 rw[decide_eq_true h.q0,decide_eq_true h.g];rfl
theorem FrB.wi {p q:Int}(h:FrB 1 60 p q):wiF 1 1 60 1 (fr p q)=true:=by
 have:=h.ge
 have:=h.le
 unfold wiF
 rw[h.isF]
 show (decide (1*q<=p*1)&&decide (p*1<=60*q))=true
 rw[decide_eq_true (by omega),decide_eq_true (by omega)];rfl
theorem FrB.wt {p q r s:Int}(h:FrB 1 60 p q)(wt:p*s<=r*q):wiF 1 1 r s (fr p q)=true:=by
 have:=h.ge
 unfold wiF
 rw[h.isF]
 show (decide (1*q<=p*1)&&decide (p*s<=r*q))=true
 rw[decide_eq_true (by omega),decide_eq_true wt];rfl
theorem FrA.up {lo x y:Int}(h:FrA lo 60 x y):(wiF lo 1 60 1 (fr x y)&&gtF lo 1 (fr x y))=true:=by
 have h1:=h.ge
 have h2:=h.le
 have h3:=h.ab
 unfold wiF
 rw[h.toFrB.isF]
 show ((decide (lo*y<=x*1)&&decide (x*1<=60*y))&&decide (lo*y < x*1))=true
 rw[Int.mul_one,decide_eq_true h1,decide_eq_true h2,decide_eq_true h3];rfl
theorem FrA.ab1 {x y:Int}(h:FrA 0 1 x y):abF (fr x y)=true:=by
 have h1:=h.ge
 have h2:=h.le
 have h3:=h.ab
 unfold abF wiF
 rw[h.toFrB.isF]
 show ((decide (0*y<=x*1)&&decide (x*1<=1*y))&&decide (0*y < x*1))=true
 rw[decide_eq_true (by omega),decide_eq_true (by omega),decide_eq_true (by omega)];rfl
theorem FrL.ab1 {x y:Int}(h:FrL 1 x y):(abF (fr x y)&&GQ (fr x y))=true:=by
 have h1:=h.ab
 have h2:=h.be
 have:FrA 0 1 x y:=⟨⟨h.q0,h.q1,h.g,by omega,by omega⟩,by omega⟩
 rw[this.ab1]
 show decide (x*1 < 1*y)=true
 exact decide_eq_true (by omega)
theorem Df:bN gx (NA "still")=some (.int 2):=by simp[bN,gx]
theorem Gr:bN gx (NA "step")=some (.int 5):=by simp[bN,gx,OC,jo]
theorem BO:bN gx (NA "swell")=some (.int 5):=by simp[bN,gx,OC,ia,fH]
theorem Ft:bN gx (NA "heed")=some (.int 5):=by simp[bN,gx,OC,ji,eU,eh]
theorem Gw:bN gx (NA "calm")=some (.int 6):=by simp[bN,gx,OC,jq,jU,jg,kh]
theorem sy {w:Str}{p q r s:Int}{u:D}(hw:FrB 1 60 p q)(ht:FrB 1 60 r s)(wt:p*s<=r*q)(hu:(wiF (lo2 w) 1 60 1 u&&gtF (lo2 w) 1 u)=true):grw w (fr p q) u (fr r s)=true:=by
 show (wiF 1 1 60 1 (fr r s)&&(wiF 1 1 r s (fr p q)&&(wiF (lo2 w) 1 60 1 u&&gtF (lo2 w) 1 u)))=true
 rw[ht.wi,hw.wt wt,hu];rfl
theorem qZ.b {w:Str}{d:D}(h:qZ w d):fj d=true:=by
 cases h with
 | lG w=>rw[b7 Df rfl];exact w.wi
 | calm w t wt u l0 lh h1=>
  rw[b7 Gw rfl]
  show (grw _ _ _ _&&yW _ _)=true
  rw[sy w t wt (by unfold lo2;rw[if_neg (of_eq_false jt)];exact u.up)]
  show ((decide (_<=_)&&decide (_<=_))&&(decide (_<=_)&&decide (_<=_)))=true
  rw[decide_eq_true (by omega),decide_eq_true h1,decide_eq_true l0,decide_eq_true lh];rfl
 | Cn w t wt u g=>
  rw[b7 Ft rfl]
  show (grw _ _ _ _&&(if _ then _ else _))=true
  rw[sy w t wt (by unfold lo2;rw[if_neg (of_eq_false jn)];exact u.up),if_pos rfl,g.ab1];rfl
 | step w t wt u g=>
  rw[b7 Gr rfl]
  show (grw _ _ _ _&&(if _ then _ else _))=true
  rw[sy w t wt (by unfold lo2;rw[if_neg (of_eq_false fH)];exact u.up),if_neg (of_eq_false eU),g.ab1];rfl
 | mS w t wt u g=>
  rw[b7 BO rfl]
  show (grw _ _ _ _&&(if _ then _ else _))=true
  rw[sy w t wt (by unfold lo2;rw[if_pos rfl];exact u.up),if_neg (of_eq_false eh),g.ab1];rfl
def hV:FSp:=λds μ Q=>kcO ds λb ds=>kcI ds λm ds=>kcN ds ((Box μ b/\1<=m/\m<=60)/\∀ (wd:Str) (ps:List D) μ',la wd->(∀ d∈ps,lW d)->ps.length<=6->qZ wd (.tup (.str wd::ps))->cE b μ μ'->Q (.tup (.str wd::ps)) μ')
theorem yz {lo hi p q:Int}(h:FrB lo hi p q)(l0:0<=lo)(hh:hi<=900):lW (fr p q):=by
 have:=h.q0
 have:=h.q1
 have:=h.ge
 have:=h.le
 have:0<=lo*q:=UZ l0 (by omega)
 have:hi*q<=900*q:=Ov hh (by omega)
 exact .inr ⟨p,q,rfl,⟨by omega,by omega⟩,by omega,by omega⟩
def zd:List Str:=[NA "still", NA "step", NA "swell", NA "heed", NA "calm"]
theorem zr:∀ z∈zd,Oe z=true/\z.length<=8:=by decide +kernel
theorem Ai:∀ ds μ Q,hV ds μ Q->ds.length=2:=λ_ _ _ h=>lcO h λ_ _ h=>lcI h λ_ _ h=>by rw[(ecN h).1];rfl
def nR:STr:=aE (bI (TB (aq rEq (ai 2) (TC (.str "still")))) (aR (aP (af (ai 2) (af (ai 4) (ar))))) (aY)) (aE (aU (au eC (af (aq aM (TC (.int 1)) (au ay (af (ai 0) (af (TC (.int 6)) (ar))))) (af (aq aM (TC (.int 1)) (au ay (af (ai 0) (af (TC (.int 3)) (ar))))) (ar)))) (az 5)) (aE (aU (aq L3.rIx (cF (af (aP (af (TC (.int 1)) (af (TC (.int 2)) (ar)))) (af (aP (af (TC (.int 2)) (af (TC (.int 3)) (ar)))) (af (aP (af (TC (.int 1)) (af (TC (.int 7)) (ar)))) (af (aP (af (TC (.int 7)) (af (TC (.int 8)) (ar)))) (ar)))))) (au ay (af (ai 0) (af (TC (.int 4)) (ar))))) (az 6)) (aE (bI (TB (aq rEq (ai 2) (TC (.str "swell")))) (aR (aP (af (ai 2) (af (ai 4) (af (au eC (af (aq aM (aq L3.rIx (ai 5) (TC (.int 0))) (aq L3.rIx (ai 5) (TC (.int 1)))) (af (aq L3.rIx (ai 5) (TC (.int 1))) (ar)))) (af (ai 6) (af (ai 3) (ar)))))))) (aY)) (aE (bI (TB (aq rEq (ai 2) (TC (.str "heed")))) (aR (aP (af (ai 2) (af (ai 4) (af (ai 5) (af (aq L3.rIx (cF (af (ai 6) (af (aP (af (TC (.int 1)) (af (TC (.int 1)) (ar)))) (af (aP (af (TC (.int 1)) (af (TC (.int 16)) (ar)))) (ar))))) (au ay (af (ai 0) (af (TC (.int 3)) (ar))))) (af (ai 3) (ar)))))))) (aY)) (aE (bI (TB (aq rEq (ai 2) (TC (.str "calm")))) (aE (aU (au ay (af (ai 0) (af (TC (.int 5)) (ar)))) (az 7)) (aR (aP (af (ai 2) (af (ai 4) (af (ai 5) (af (ai 7) (af (aq aM (ai 7) (au ay (af (ai 0) (af (TC (.int 5)) (ar))))) (af (ai 3) (ar)))))))))) (aY)) (aR (aP (af (ai 2) (af (ai 4) (af (ai 5) (af (ai 6) (af (ai 3) (ar)))))))))))))
def yF:STr:=aE (aU (aq L3.rIx (cF (af (TC (.str "still")) (af (TC (.str "step")) (af (TC (.str "swell")) (af (TC (.str "heed")) (af (TC (.str "calm")) (ar))))))) (au ay (af (ai 0) (af (TC (.int 5)) (ar))))) (az 2)) (aE (aU (au b4 (af (ai 0) (af (TC (.int 1)) (af (ai 1) (ar))))) (az 3)) (aE (aU (au b4 (af (ai 0) (af (TC (.int 1)) (af (aq jc (aq L3.rIx (ai 3) (TC (.int 0))) (aq L3.rIx (ai 3) (TC (.int 1)))) (ar))))) (az 4)) (nR)))
theorem CS:∀ ds μ Q,hV ds μ Q->yF { nx:=λ_ μ'=>RT Q .non μ',rt:=RT Q } (ini 8 ds) μ:=by
 intro ds μ Q h
 replace h:=ecO h
 obtain ⟨b,ds,rfl,h⟩:=h
 replace h:=ecI h
 obtain ⟨m,ds,rfl,h⟩:=h
 replace h:=ecN h
 obtain ⟨rfl,h⟩:=h
 walk_at "ini"
 unfold yF
 walk_at "go"
 obtain ⟨⟨hB,m0,m1⟩,k⟩:=h
 refine ytk hB (by decide) (by decide) λc1 μ1 c10 c11 B1=>?_
 have L0:zd=dN:=rfl
 have al:∀ d∈zd.map D.str,∃ z,z∈zd/\d=.str z:=λd hd=>by obtain ⟨z,hz,rfl⟩:=Od.mp hd;exact ⟨z,hz,rfl⟩
 obtain ⟨_,e1,wd,hwd,rfl⟩:=cQ al c10 c11
 have T:la wd:=⟨(zr wd hwd).1,(zr wd hwd).2⟩
 have e1:atD [.str "still", .str "step", .str "swell", .str "heed", .str "calm"] c1=some (.str wd):=e1
 walk_at "go"
 rw[e1]
 walk_at "go"
 refine ⟨⟨B1.box,by decide,m0,by omega⟩,λtp tq μ2 Tf tq7 B2=>?_⟩
 have t0:=Tf.q0
 have tg:=Tf.ge
 have tl:=Tf.le
 have tt:tp<=60*tq:=Vf tl (Ov m1 (by omega))
 walk_at "go"
 rw[fq t0]
 have d1:1<=tp / tq:=(R9 t0).mpr (by omega)
 have d60:tp / tq<=60:=Int.ediv_le_of_le_mul t0 tt
 refine ⟨⟨by omega,by unfold bx;omega⟩,⟨B2.box,by decide,d1,by omega⟩,λwp wq μ3 Wf wq7 B3=>?_⟩
 have fT:lW (fr tp tq):=yz Tf (by decide) (by omega)
 have fW:lW (fr wp wq):=yz Wf (by decide) (by omega)
 have B13:=B1.trans (B2.trans B3)
 unfold nR
 walk_at "go"
 refine ⟨T.o,?_⟩
 have W60:FrB 1 60 wp wq:=⟨Wf.q0,Wf.q1,Wf.g,Wf.ge,Vf Wf.le (Ov d60 (by have:=Wf.q0;omega))⟩
 have T60:FrB 1 60 tp tq:=⟨Tf.q0,Tf.q1,Tf.g,Tf.ge,tt⟩
 have wt:wp*tq<=tp*wq:=by
  have a1:=Ov Wf.le (show 0<=tq by omega)
  have a2:=Ov (Int.ediv_mul_le tp (show tq≠0 by omega)) (show 0<=wq by have:=Wf.q0;omega)
  have a3:tp / tq*wq*tq=tp / tq*tq*wq:=by rw[U8,T8 wq,← U8]
  omega
 refine kif (λhw=>?_) λhw=>?_
 ·walk_at "go"
  exact ⟨_,.refl _,k wd [fr wp wq] _ T (ah fW aD) (by simp) (by subst hw;exact .lG W60) B13⟩
 walk_at "go"
 refine ytk B3.box (by decide) (by decide) λc4 μ4 c40 c41 B4=>?_
 walk_at "go"
 refine ytk B4.box (by decide) (by decide) λc5 μ5 c50 c51 B5=>?_
 walk_at "go"
 refine ⟨⟨by omega,by unfold bx;omega⟩,?_⟩
 have UA:=zg (a:=1+c4) (b:=1+c5) (lo:=0) (hi:=6) (by omega) (by omega) (by omega) (by omega)
 have U:=UA.toFrB
 generalize (1+c4).fdiv (Oj (1+c4) (1+c5))=x at U UA ⊢
 generalize (1+c5).fdiv (Oj (1+c4) (1+c5))=y at U UA ⊢
 have U60:FrA 0 60 x y:=⟨⟨U.q0,U.q1,U.g,U.ge,by have:=U.le;have:=U.q0;omega⟩,UA.ab⟩
 have fU:lW (fr x y):=yz U (by decide) (by decide)
 walk_at "go"
 refine ytk B5.box (by decide) (by decide) λc6 μ6 c60 c61 B6=>?_
 have al2:∀ d∈([fr 1 2,fr 2 3,fr 1 7,fr 7 8]:List D),∃ a e,d=fr a e/\lW d/\FrL 1 a e:=by
  repeat' (first | exact aD | refine ah ⟨_,_,rfl,.inr ⟨_,_,rfl,⟨by decide,by decide⟩,by decide,by decide⟩,⟨⟨by decide,by decide,by decide,by decide,by decide⟩,by decide,by decide⟩⟩ ?_)
 obtain ⟨_,e2,da,de,rfl,fD,LD⟩:=cQ al2 c60 c61
 walk_at "go"
 refine g9 e2 ?_
 walk_at "go"
 have B16:=B13.trans (B4.trans (B5.trans B6))
 refine ⟨T.o,?_⟩
 refine kif (λhw2=>?_) λhw2=>?_
 ·walk_at "go"
  have y0:=U.q0
  have x0:=U.ge
  have x60:=U.le
  have y1:=U.q1
  refine ⟨⟨y0,by unfold bx;omega⟩,?_⟩
  have XA:=zg (a:=x+y) (b:=y) (lo:=1) (hi:=60) y0 (by omega) (by have:=UA.ab;omega) (by omega)
  have X:=XA.toFrB
  exact ⟨_,.refl _,k wd [fr wp wq,_,fr da de,fr tp tq] _ T (ah fW (ah (yz X (by decide) (by decide)) (ah fD (ah fT aD)))) (by simp) (by subst hw2;exact .mS W60 T60 wt XA LD) B16⟩
 walk_at "go"
 refine ⟨T.o,?_⟩
 refine kif (λhw3=>?_) λhw3=>?_
 ·walk_at "go"
  refine ytk B6.box (by decide) (by decide) λc7 μ7 c70 c71 B7=>?_
  have al3:∀ d∈([fr da de,fr 1 1,fr 1 16]:List D),∃ a e,d=fr a e/\lW d/\FrA 0 1 a e:=ah ⟨_,_,rfl,fD,⟨⟨LD.q0,LD.q1,LD.g,LD.ge,LD.le⟩,by have:=LD.ab;omega⟩⟩ (ah ⟨_,_,rfl,.inr ⟨_,_,rfl,⟨by decide,by decide⟩,by decide,by decide⟩,⟨⟨by decide,by decide,by decide,by decide,by decide⟩,by decide⟩⟩ (ah ⟨_,_,rfl,.inr ⟨_,_,rfl,⟨by decide,by decide⟩,by decide,by decide⟩,⟨⟨by decide,by decide,by decide,by decide,by decide⟩,by decide⟩⟩ aD))
  obtain ⟨_,e3,ga,ge,rfl,f3,LA⟩:=cQ al3 c70 c71
  walk_at "go"
  refine g9 e3 ?_
  exact ⟨_,.refl _,k wd [fr wp wq,fr x y,fr ga ge,fr tp tq] _ T (ah fW (ah fU (ah f3 (ah fT aD)))) (by simp) (by subst hw3;exact .Cn W60 T60 wt U60 LA) (B16.trans B7)⟩
 walk_at "go"
 refine ⟨T.o,?_⟩
 refine kif (λhw4=>?_) λhw4=>?_
 ·walk_at "go"
  refine ytk B6.box (by decide) (by decide) λc7 μ7 c70 c71 B7=>?_
  walk_at "go"
  refine ytk B7.box (by decide) (by decide) λc8 μ8 c80 c81 B8=>?_
  walk_at "go"
  exact ⟨_,.refl _,k wd [fr wp wq,fr x y,.int c7,.int (c7+c8),fr tp tq] _ T (ah fW (ah fU (ah (.inl ⟨_,rfl,by omega,by omega⟩) (ah (.inl ⟨_,rfl,by omega,by omega⟩) (ah fT aD))))) (by simp) (by subst hw4;exact .calm W60 T60 wt U60 c70 (by omega) (by omega)) (B16.trans (B7.trans B8))⟩
 ·walk_at "go"
  exact ⟨_,.refl _,k wd [fr wp wq,fr x y,fr da de,fr tp tq] _ T (ah fW (ah fU (ah fD (ah fT aD)))) (by simp) (by
   have:wd=NA "step" := by
    rw[L0] at hwd
    simp only[dN,N9,OL,or_false] at hwd
    rcases hwd with h | h | h | h | h
    ·exact absurd h hw
    ·exact h
    ·exact absurd h hw2
    ·exact absurd h hw3
    ·exact absurd h hw4
   subst this;exact .step W60 T60 wt U60 LD) B16⟩
theorem qw {lo hi i:Int}(h:lo<=i)(h':i<=hi):wiI lo hi (.int i)=true:=by simp only[wiI,decide_eq_true h,decide_eq_true h',RF]
def MkN (hi:Int)(d:D):Prop:=∃ m:Option Int,d=oD m/\∀ i,m=some i->iZ i/\i<=hi
theorem GS {hi:Int}{m:Option Int}(h:∀ i,m=some i->iZ i/\i<=hi):nwB hi (oD m)=true:=by
 cases m with
 | none=>rfl
 | some i=>exact qw (h i rfl).1.l (h i rfl).2
theorem yC {hi:Int}:MkN hi .non:=⟨none,rfl,nofun⟩
theorem sW {hi i:Int}(h:0<=i)(h':i<=hi)(hh:hi<=1000000):MkN hi (.int i):=⟨some i,rfl,λj e=>by cases e;exact ⟨⟨h,by omega⟩,h'⟩⟩
def LT':List Str:=[NA "line", NA "turns"]
theorem zk:∀ z∈LT',Oe z=true/\z.length<=8:=by decide +kernel
theorem He:∀ z∈LT',soB (.str z)=true:=by decide +kernel
theorem uT {z:Str}(h:nmS z=true):la z:=by
 refine ⟨rE h,?_⟩
 unfold nmS at h
 simp only[NO,decide_eq_true_eq,iB] at h
 exact h.1.2
def my:FSp:=λds μ Q=>kcO ds λb ds=>kcS ds λn ds=>kcN ds ((Box μ b/\nmS n=true)/\∀ (w:WT) μ',w.Ok->w.nm=n->cv w.toD=true->cE b μ μ'->Q w.toD μ')
theorem CB:∀ ds μ Q,my ds μ Q->ds.length=2:=λ_ _ _ h=>lcO h λ_ _ h=>lcS h λ_ _ h=>by rw[(ecN h).1];rfl
def Bp:STr:=aE (aU (aq L3.rIx (cF (af (aq aM (TC (.int 1)) (au ay (af (ai 0) (af (TC (.int 3)) (ar))))) (af (aq aM (TC (.int 1)) (au ay (af (ai 0) (af (TC (.int 20)) (ar))))) (ar)))) (aq jc (au ay (af (ai 0) (af (TC (.int 8)) (ar)))) (TC (.int 7)))) (az 2)) (aE (aU (aq L3.rIx (cF (af (aq aM (TC (.int 1)) (au ay (af (ai 0) (af (TC (.int 8)) (ar))))) (af (aq aM (TC (.int 1)) (au ay (af (ai 0) (af (TC (.int 60)) (ar))))) (ar)))) (aq jc (au ay (af (ai 0) (af (TC (.int 8)) (ar)))) (TC (.int 7)))) (az 3)) (aE (aU (aq L3.rIx (cF (af (TC .non) (af (aq fR (au ay (af (ai 0) (af (aq aM (ai 3) (TC (.int 2))) (ar)))) (TC (.int 61))) (af (TC (.int 0)) (ar))))) (aq fR (au ay (af (ai 0) (af (TC (.int 5)) (ar)))) (TC (.int 3)))) (az 4)) (aR (aP (af (ai 1) (af (ai 2) (af (ai 3) (af (ai 4) (af (aq L3.rIx (cF (af (TC (.str "line")) (af (TC (.str "turns")) (ar)))) (au ay (af (ai 0) (af (TC (.int 2)) (ar))))) (ar))))))))))
theorem F0:∀ ds μ Q,my ds μ Q->Bp { nx:=λ_ μ'=>RT Q .non μ',rt:=RT Q } (ini 5 ds) μ:=by
 intro ds μ Q h
 replace h:=ecO h
 obtain ⟨b,ds,rfl,h⟩:=h
 replace h:=ecS h
 obtain ⟨n,ds,rfl,h⟩:=h
 replace h:=ecN h
 obtain ⟨rfl,h⟩:=h
 walk_at "ini"
 unfold Bp
 walk_at "go"
 obtain ⟨⟨hB,hn⟩,k⟩:=h
 have T:=uT hn
 refine ytk hB (by decide) (by decide) λc1 μ1 c10 c11 B1=>?_
 walk_at "go"
 refine ytk B1.box (by decide) (by decide) λc2 μ2 c20 c21 B2=>?_
 walk_at "go"
 refine ytk B2.box (by decide) (by decide) λc3 μ3 c30 c31 B3=>?_
 walk_at "go"
 have i3:0<=c3.fdiv 7/\c3.fdiv 7 < 2:=by rw[fq (by decide)];omega
 have al:∀ d∈([.int (1+c1),.int (1+c2)]:List D),IsI 1 20 d:=ah ⟨_,rfl,by omega,by omega⟩ (ah ⟨_,rfl,by omega,by omega⟩ aD)
 obtain ⟨_,e1,p,rfl,p0,p1⟩:=cQ al i3.1 i3.2
 refine ⟨⟨by decide,by unfold bx;decide⟩,g9 e1 ?_⟩
 walk_at "go"
 refine ytk B3.box (by decide) (by decide) λc4 μ4 c40 c41 B4=>?_
 walk_at "go"
 refine ytk B4.box (by decide) (by decide) λc5 μ5 c50 c51 B5=>?_
 walk_at "go"
 refine ytk B5.box (by decide) (by decide) λc6 μ6 c60 c61 B6=>?_
 walk_at "go"
 have i6:0<=c6.fdiv 7/\c6.fdiv 7 < 2:=by rw[fq (by decide)];omega
 have al2:∀ d∈([.int (1+c4),.int (1+c5)]:List D),IsI 1 60 d:=ah ⟨_,rfl,by omega,by omega⟩ (ah ⟨_,rfl,by omega,by omega⟩ aD)
 obtain ⟨_,e2,r,rfl,r0,r1⟩:=cQ al2 i6.1 i6.2
 refine ⟨⟨by decide,by unfold bx;decide⟩,g9 e2 ?_⟩
 walk_at "go"
 refine ytk B6.box (by omega) (by omega) λc7 μ7 c70 c71 B7=>?_
 walk_at "go"
 have m7:=fm0 (a:=c7) (n:=61) (by decide)
 have m7':=fm1 (a:=c7) (n:=61) (by decide)
 refine ⟨by decide,?_⟩
 refine ytk B7.box (by decide) (by decide) λc8 μ8 c80 c81 B8=>?_
 walk_at "go"
 have m8:=fm0 (a:=c8) (n:=3) (by decide)
 have m8':=fm1 (a:=c8) (n:=3) (by decide)
 have al3:∀ d∈([.non,.int (c7.fmod 61),.int 0]:List D),MkN 60 d:=ah yC (ah (sW m7 (by omega) (by decide)) (ah (sW (by decide) (by decide) (by decide)) aD))
 obtain ⟨_,e3,m,rfl,hm⟩:=cQ al3 m8 m8'
 refine ⟨by decide,g9 e3 ?_⟩
 walk_at "go"
 refine ytk B8.box (by decide) (by decide) λc9 μ9 c90 c91 B9=>?_
 have al4:∀ d∈LT'.map D.str,∃ z,z∈LT'/\d=.str z:=λd hd=>by obtain ⟨z,hz,rfl⟩:=Od.mp hd;exact ⟨z,hz,rfl⟩
 obtain ⟨_,e4,so,hso,rfl⟩:=cQ al4 c90 c91
 have e4:atD [.str "line", .str "turns"] c9=some (.str so):=e4
 walk_at "go"
 rw[e4]
 walk_at "go"
 exact ⟨_,.refl _,k ⟨n,p,r,m,so⟩ _ ⟨T,⟨by show 0<=p;omega,by show p < _;omega⟩,⟨by show 0<=r;omega,by show r < _;omega⟩,λi e=>(hm i e).1,⟨(zk so hso).1,(zk so hso).2⟩⟩ rfl (by
  show (nmS n&&(wiI 1 20 (.int p)&&(wiI 1 60 (.int r)&&(nwB 60 (oD m)&&soB (.str so)))))=true
  rw[hn,qw p0 p1,qw r0 r1,GS hm,He so hso];rfl) (B1.trans (B2.trans (B3.trans (B4.trans (B5.trans (B6.trans (B7.trans (B8.trans B9))))))))⟩
theorem KQ {μ:Mu}{b p:Addr}(h:Box μ b)(hp:μ p=none):p≠b:=λz=>by subst z;obtain ⟨_,_,_,e,_⟩:=h;rw[hp] at e;cases e
theorem G9 {μ:Mu}{b p:Addr}{o:MO}(h:Box μ b)(hp:p≠b):Box (up μ p o) b:=by
 obtain ⟨g,s,c,e,h0⟩:=h
 exact ⟨g,s,c,by rw[cJ (Pz hp)];exact e,h0⟩
theorem Lk {μ:Mu}{b p:Addr}(h:Box μ b)(hp:p≠b):Box (dn μ p) b:=by
 obtain ⟨g,s,c,e,h0⟩:=h
 exact ⟨g,s,c,by unfold L3.dn;rw[if_neg (Pz hp)];exact e,h0⟩
theorem jX {G:GTr}{tt:TTr}{te:ETr}{ρc:ST}{ds:List D}{μ:Mu}{Q:DK}{b:Addr}(hB:Box μ b)(I:List D->List D->Prop)(h0:I ds [])(hl:ds.length<=999999)
  (step:∀ d r zs μ',Box μ' b->I (d::r) zs->∀ (N:Option D->Mu->Prop),(∀ oy μ2,I r (zs++oy.toList)->cE b μ' μ2->N oy μ2)->G d ρc μ' λρ1 μ1=>tt ρ1 μ1 λc μ2=>kIf c (te ρ1 μ2 λy μ3=>N (some y) μ3) (N none μ2))
  (k:∀ zs μ',I [] zs->cE b μ μ'->Q (.ls zs) μ'):wR G tt te ρc ds μ Q:=by
 intro p hp
 have pb:=KQ hB hp
 refine iQ (λr μ'=>∃ zs,I r zs/\zs.length+r.length<=ds.length/\μ' p=some (.lst zs)/\Box μ' b/\∀ x,x≠b->x≠p->μ' x=μ x) ?_ ?_ _ _ ⟨[],h0,by simp,aX,G9 hB pb,λx _ h=>cJ h⟩
 ·rintro μ' ⟨zs,hI,_,e,P,fr⟩
  refine qu e (k zs _ hI ⟨Lk P pb,λx hx=>?_⟩)
  unfold L3.dn
  split
  ·rename_i z;subst z;exact hp.symm
  ·rename_i z;exact fr x hx z
 ·rintro d r μ' N ⟨zs,hI,hz,e,P,fr⟩ hN
  rw[NN] at hz
  refine step d r zs μ' P hI (λoy μ3=>match oy with
   | some y=>kL μ3 p λzs=>zs.length < 1000000/\N (up μ3 p (.lst (zs++[y])))
   | none=>N μ3) ?_
  intro oy μ2 hoy P2
  have e2:μ2 p=some (.lst zs):=by rw[P2.oth p pb];exact e
  cases oy with
  | none=>exact hN _ ⟨zs,by simpa using hoy,by omega,e2,P2.box,λx h1 h2=>(P2.oth x h1).trans (fr x h1 h2)⟩
  | some y=>
   refine qu e2 ⟨by omega,hN _ ⟨zs++[y],hoy,by rw[NW];simp;omega,aX,G9 P2.box pb,λx h1 h2=>?_⟩⟩
   rw[cJ h2];exact (P2.oth x h1).trans (fr x h1 h2)
theorem A7 {k:Nat}:∀ {zs:List Str},(∀ z∈zs,la z)->bR k (zs.map .str)=true
 | [],_=>rfl
 | z::r,h=>by
  rw[Ob,bR,NO]
  exact ⟨by cases k<;>simpa[okD] using (h z NJ).o,A7 λy q=>h y (NM _ q)⟩
theorem EI {ns:List Str}(nd:ns.Nodup)(hn:∀ z∈ns,nmS z=true):∀ (xs pre suf:List Str),pre++suf=ns->xs.Sublist suf->eP ns pre.length (xs.map .str)=true:=by
 intro xs
 induction xs with
 | nil=>intro _ _ _ _;rfl
 | cons x xs ih=>
  intro pre suf e sl
  have hx:x∈suf:=sl.subset NJ
  have hx':x∈ns:=by rw[← e];exact NX _ hx
  obtain ⟨s1,s2,rfl⟩:=List.append_of_mem hx
  have e':(pre++s1++[x])++s2=ns:=by rw[← e];simp
  have nx:x ∉ pre++s1:=by
   rw[← e'] at nd
   have:=(Pu.mp (Pu.mp nd).1).2.2
   exact λh=>this x h x (by simp) rfl
  have pos:nj ns x=(pre++s1).length:=by
   have no:(pre++s1).findIdx (λy=>decide (y=x))=(pre++s1).length:=List.findIdx_eq_length.mpr λy hy=>decide_eq_false λz=>nx (z ▸ hy)
   unfold nj
   rw[← e',Pw,List.findIdx_append,no,if_neg (PM _),List.singleton_append,T9]
   simp
  have dr:ns.drop pre.length=s1++x::s2:=by rw[← e];simp
  have sl2:xs.Sublist s2:=by
   have:(x::xs).Sublist (s1++x::s2):=sl
   rw[List.sublist_append_iff] at this
   obtain ⟨l1,l2,h1,h2,h3⟩:=this
   cases l1 with
   | nil=>
    rw[Qg] at h1
    subst h1
    exact List.cons_sublist_cons.mp h3
   | cons y l1=>
    rw[QK] at h1
    injection h1 with h4 h5
    subst h4
    exact absurd (NX pre (h2.subset NJ)) nx
  have ih':=ih (pre++s1++[x]) s2 e' sl2
  rw[Ob]
  show (nmS x&&(decide (x∈ns.drop pre.length)&&eP ns (nj ns x+1) (xs.map .str)))=true
  rw[hn x hx',dr,decide_eq_true (by simp),pos]
  rw[NW,PN] at ih'
  rw[ih'];rfl
theorem uP {ns xs:List Str}(nd:ns.Nodup)(hn:∀ z∈ns,nmS z=true)(ne:xs≠[])(sl:xs.Sublist ns):fF ns (.tup (xs.map .str))=true:=by
 show (decide (xs.map D.str≠[])&&eP ns 0 (xs.map .str))=true
 have h0:eP ns 0 (xs.map .str)=true:=EI nd hn xs [] ns rfl sl
 rw[decide_eq_true (by simpa using ne),h0];rfl
def gq:FSp:=λds μ Q=>kcO ds λb ds=>kcS ds λn ds=>kcT ds λxs ds=>kcI ds λm ds=>kcN ds (∃ ws:List WT,(Box μ b/\nmS n=true/\xs=ws.map WT.toD/\(0 < ws.length/\ws.length<=8)/\(∀ w∈ws,w.Ok/\nmS w.nm=true)/\(ws.map WT.nm).Nodup/\1<=m/\m<=60)/\∀ (s:ST') μ',s.Ok->s.nm=n->s.rd.Sublist (ws.map WT.nm)->s.rd≠[]->bD (ws.map WT.nm) s.toD=true->(s.bt<=8/\s.bg<=3)->cE b μ μ'->Q s.toD μ')
theorem uf:∀ ds μ Q,gq ds μ Q->ds.length=4:=λ_ _ _ h=>lcO h λ_ _ h=>lcS h λ_ _ h=>lcT h λ_ _ h=>lcI h λ_ _ h=>by rw[(ecN h).1];rfl
def gJ:STr:=aE (aU (aq L3.rIx (cF (af (aq aM (TC (.int 1)) (au ay (af (ai 0) (af (TC (.int 3)) (ar))))) (af (aq aM (TC (.int 1)) (au ay (af (ai 0) (af (TC (.int 8)) (ar))))) (ar)))) (aq jc (au ay (af (ai 0) (af (TC (.int 6)) (ar)))) (TC (.int 5)))) (az 5)) (aE (aU (aq L3.rIx (cF (af (TC .non) (af (au ay (af (ai 0) (af (TC (.int 25)) (ar)))) (ar)))) (au ay (af (ai 0) (af (TC (.int 2)) (ar))))) (az 6)) (aR (aP (af (ai 1) (af (ai 4) (af (ai 5) (af (au ay (af (ai 0) (af (TC (.int 4)) (ar)))) (af (ai 6) (af (au hV (af (ai 0) (af (ai 3) (ar)))) (ar))))))))))
def qk:STr:=aE (aU (au cI (af (cu (iC (ai 2)) (az 0) (TB (aq rGt (au ay (af (ai 1) (af (TC (.int 3)) (ar)))) (TC (.int 0)))) (aq L3.rIx (ai 0) (TC (.int 0))) 1 [0]) (ar))) (az 4)) (aE (bI (TB (aq rEq (ai 4) (aP (ar)))) (aU (aP (af (aq L3.rIx (aq L3.rIx (ai 2) (au ay (af (ai 0) (af (au e7 (af (ai 2) (ar))) (ar))))) (TC (.int 0))) (ar))) (az 4)) (aY)) (gJ))
theorem xh:∀ ds μ Q,gq ds μ Q->qk { nx:=λ_ μ'=>RT Q .non μ',rt:=RT Q } (ini 7 ds) μ:=by
 intro ds μ Q h
 replace h:=ecO h
 obtain ⟨b,ds,rfl,h⟩:=h
 replace h:=ecS h
 obtain ⟨n,ds,rfl,h⟩:=h
 replace h:=ecT h
 obtain ⟨xs,ds,rfl,h⟩:=h
 replace h:=ecI h
 obtain ⟨m,ds,rfl,h⟩:=h
 replace h:=ecN h
 obtain ⟨rfl,h⟩:=h
 walk_at "ini"
 unfold qk
 walk_at "go"
 obtain ⟨ws,⟨hB,hnm,rfl,⟨l0,l1⟩,hw2,wnd,m0,m1⟩,k⟩:=h
 have T:=uT hnm
 have hw:∀ w∈ws,w.Ok:=λw h=>(hw2 w h).1
 have hns:∀ z∈ws.map WT.nm,nmS z=true:=λz hz=>by obtain ⟨w,h,rfl⟩:=Od.mp hz;exact (hw2 w h).2
 refine jX hB (λr zs=>∃ (rs:List WT) (ns:List Str),r=rs.map WT.toD/\zs=ns.map .str/\(∀ x∈rs,x.Ok)/\ns.length+rs.length<=8/\(∀ z∈ns,la z)/\∃ pre,pre++rs=ws/\ns.Sublist (pre.map WT.nm)) ⟨ws,[],rfl,rfl,hw,by simpa using l1,λ_ h=>(nomatch h),[],rfl,.slnil⟩ (by simp;omega) ?_ ?_
 ·rintro d r zs μ1 hB1 ⟨rs,ns,er,rfl,hr,hl,hn,pre,ep,sl⟩ N hN
  cases rs with
  | nil=>cases er
  | cons x rs=>
  cases er
  rw[NN] at hl
  have hr':=λy hy=>hr y (NM x hy)
  walk_at "go"
  refine ytk hB1 (by decide) (by decide) λc μ2 c0 c1 B2=>?_
  walk_at "go"
  refine kif (λh=>?_) λh=>?_
  ·unfold WT.toD
   walk_at "go"
   refine hN _ _ ⟨rs,ns++[x.nm],rfl,by simp,hr',by simp;omega,λz hz=>?_,pre++[x],by rw[← ep];simp,by rw[O7];exact sl.append (Rw _)⟩ B2
   rcases Oo.mp hz with q | q
   ·exact hn z q
   ·rw[NZ.mp q];exact (hr x NJ).n
  ·exact hN none _ ⟨rs,ns,rfl,by simp,hr',by omega,hn,pre++[x],by rw[← ep];simp,by rw[O7];exact sl.trans (List.sublist_append_left _ _)⟩ B2
 ·rintro zs μ1 ⟨rs,ns,er,rfl,_,hl,hn,pre,ep,sl⟩ B1
  have e0:rs=[]:=by cases rs with | nil=>rfl | cons=>cases er
  rw[e0,OI] at ep
  rw[ep] at sl
  walk_at "go"
  have fin:∀ (xs:List Str) μ2,(∀ y∈xs,la y)->xs.length<=8->xs.Sublist (ws.map WT.nm)->xs≠[]->cE b μ μ2->gJ { nx:=λ_ μ'=>RT Q .non μ',rt:=RT Q } [some (.obj b),some (.str n),some (.tup (ws.map WT.toD)),some (.int m),some (.tup (xs.map .str)),none,none] μ2:=by
   intro xs μ2 ho hxl xsl xne B2
   unfold gJ
   walk_at "go"
   refine ytk B2.box (by decide) (by decide) λc3 μ3 c30 c31 B3=>?_
   walk_at "go"
   refine ytk B3.box (by decide) (by decide) λc4 μ4 c40 c41 B4=>?_
   walk_at "go"
   refine ytk B4.box (by decide) (by decide) λc5 μ5 c50 c51 B5=>?_
   walk_at "go"
   have i5:0<=c5.fdiv 5/\c5.fdiv 5 < 2:=by rw[fq (by decide)];omega
   have al:∀ d∈([.int (1+c3),.int (1+c4)]:List D),IsI 1 8 d:=ah ⟨_,rfl,by omega,by omega⟩ (ah ⟨_,rfl,by omega,by omega⟩ aD)
   obtain ⟨_,e1,bt,rfl,b0,b1⟩:=cQ al i5.1 i5.2
   refine ⟨⟨by decide,by unfold bx;decide⟩,g9 e1 ?_⟩
   walk_at "go"
   refine ytk B5.box (by decide) (by decide) λc6 μ6 c60 c61 B6=>?_
   walk_at "go"
   refine ytk B6.box (by decide) (by decide) λc7 μ7 c70 c71 B7=>?_
   have al3:∀ d∈([.non,.int c6]:List D),MkN 1000000 d:=ah yC (ah (sW c60 (by omega) (by decide)) aD)
   obtain ⟨_,e3,mn,rfl,hm⟩:=cQ al3 c70 c71
   walk_at "go"
   refine g9 e3 ?_
   walk_at "go"
   refine ytk B7.box (by decide) (by decide) λc8 μ8 c80 c81 B8=>?_
   walk_at "go"
   refine ⟨⟨B8.box,m0,m1⟩,λwd ps μ9 Tw hp pl RU B9=>?_⟩
   walk_at "go"
   exact ⟨_,.refl _,k ⟨n,xs,bt,c8,mn,wd,ps⟩ _ ⟨T,ho,hxl,⟨by show 0<=bt;omega,by show bt < _;omega⟩,⟨c80,by show c8 < _;omega⟩,λi e=>(hm i e).1,Tw,hp,pl⟩ rfl xsl xne (by
    show (nmS n&&(fF _ (.tup (xs.map .str))&&(wiI 1 8 (.int bt)&&(wiI 0 1000000 (.int c8)&&(nwB 1000000 (oD mn)&&fj (.tup (.str wd::ps)))))))=true
    rw[hnm,uP wnd hns xne xsl,qw b0 b1,qw c80 (by omega),GS hm,RU.b];rfl) ⟨b1,by show c8<=3;omega⟩ (B2.trans (B3.trans (B4.trans (B5.trans (B6.trans (B7.trans (B8.trans B9)))))))⟩
  cases ns with
  | cons x xs=>
   walk_at "go"
   have o1:=(hn x NJ).o
   have o2:=A7 (k:=39) λy q=>hn y (NM x q)
   exact ⟨by rw[o1,o2];rfl,fin (x::xs) μ1 hn (by simp at hl ⊢;omega) sl (by simp) B1⟩
  | nil=>
   walk_at "go"
   rw[NK]
   refine ytk B1.box (by omega) (by omega) λc μ2 c0 c1 B2=>?_
   obtain ⟨_,e2,y,hy,rfl⟩:=cQ (P:=λd=>∃ y,y∈ws/\d=y.toD) (xs:=ws.map WT.toD) (λd hd=>by obtain ⟨y,hy,rfl⟩:=Od.mp hd;exact ⟨y,hy,rfl⟩) c0 (by rw[NK];exact c1)
   walk_at "go"
   refine g9 e2 ?_
   unfold WT.toD
   walk_at "go"
   exact fin [y.nm] μ2 (λz hz=>by rw[NZ.mp hz];exact (hw y hy).n) (by simp) (List.singleton_sublist.mpr (Od.mpr ⟨y,hy,rfl⟩)) (by simp) (B1.trans B2)
theorem zj (ws:List WT):(ws.map WT.toD).map nmD=ws.map WT.nm:=by rw[OG];rfl
theorem EL (ss:List ST'):(ss.map ST'.toD).map nmD=ss.map ST'.nm:=by rw[OG];rfl
theorem Jp {ws:List WT}(h:∀ w∈ws,cv w.toD=true):(ws.map WT.toD).all cv=true:=by
 rw[Q6];exact Ot.mpr h
theorem IF {ns:List Str}{ss:List ST'}(h:∀ s∈ss,bD ns s.toD=true):(ss.map ST'.toD).all (bD ns)=true:=by
 rw[Q6];exact Ot.mpr h
structure PT.Good (p:PT):Prop where
 ok:p.Ok
 g0:1<=p.g
 g1:p.g<=60
 w1:1<=p.ws.length
 w6:p.ws.length<=6
 w:∀ w∈p.ws,cv w.toD=true
 wn:(p.ws.map WT.nm).Nodup
 s8:p.ss.length<=8
 s:∀ s∈p.ss,bD (p.ws.map WT.nm) s.toD=true
 sn:(p.ss.map ST'.nm).Pairwise λa b=>ltS a b=true
 sl:∀ s∈p.ss,s.rd.Sublist (p.ws.map WT.nm)/\s.rd≠[]
theorem PT.Good.b {p:PT}(h:p.Good):dG p.toD=true:=by
 show (wiI 1 60 (.int p.g)&&(((decide (1<=(p.ws.map WT.toD).length)&&decide ((p.ws.map WT.toD).length<=6))&&((p.ws.map WT.toD).all cv&&decide (((p.ws.map WT.toD).map nmD).Nodup)))&&(decide ((p.ss.map ST'.toD).length<=8)&&((p.ss.map ST'.toD).all (bD ((p.ws.map WT.toD).map nmD))&&pC ((p.ss.map ST'.toD).map nmD)))))=true
 rw[zj,EL,NK,NK,qw h.g0 h.g1,decide_eq_true h.w1,decide_eq_true h.w6,Jp h.w,decide_eq_true h.wn,decide_eq_true h.s8,IF h.s]
 unfold pC
 rw[decide_eq_true h.sn];rfl
theorem nr {w:WT}(h:cv w.toD=true):nmS w.nm=true:=by
 have h:(nmS w.nm&&_)=true:=h
 rw[NO] at h
 exact h.1
def j5:FSp:=λds μ Q=>kcO ds λb ds=>kcI ds λm ds=>kcI ds λn ds=>kcN ds ((Box μ b/\(1<=m/\m<=60)/\0<=n/\n<=8)/\∀ (p:PT) μ',p.Good->cE b μ μ'->Q p.toD μ')
theorem Ac:∀ ds μ Q,j5 ds μ Q->ds.length=3:=λ_ _ _ h=>lcO h λ_ _ h=>lcI h λ_ _ h=>lcI h λ_ _ h=>by rw[(ecN h).1];rfl
def zm:STr:=aE (aU (aq L3.rIx (cF (af (TC (.int 1)) (af (TC (.int 2)) (af (TC (.int 3)) (af (aq aM (TC (.int 1)) (au ay (af (ai 0) (af (TC (.int 60)) (ar))))) (ar)))))) (au ay (af (ai 0) (af (TC (.int 4)) (ar))))) (az 3)) (aE (aU (aq L3.rIx (cF (af (aq aM (TC (.int 1)) (au ay (af (ai 0) (af (TC (.int 3)) (ar))))) (af (aq aM (TC (.int 4)) (au ay (af (ai 0) (af (TC (.int 3)) (ar))))) (ar)))) (aq jc (au ay (af (ai 0) (af (TC (.int 4)) (ar)))) (TC (.int 3)))) (az 4)) (aE (aU (au cI (af (cu (iC (au gc (af (ai 0) (af (ai 4) (ar))))) (az 0) (gh) (au my (af (ai 1) (af (ai 0) (ar)))) 1 [0]) (ar))) (az 5)) (aE (aU (au xw (af (au gc (af (ai 0) (af (au ay (af (ai 0) (af (aq aM (ai 2) (TC (.int 1))) (ar)))) (ar)))) (ar))) (az 6)) (aR (aP (af (ai 3) (af (ai 5) (af (au cI (af (cu (iC (ai 6)) (az 0) (gh) (au gq (af (ai 1) (af (ai 0) (af (ai 2) (af (ai 3) (ar)))))) 1 [0,5,1]) (ar))) (ar)))))))))
theorem Cu:∀ ds μ Q,j5 ds μ Q->zm { nx:=λ_ μ'=>RT Q .non μ',rt:=RT Q } (ini 7 ds) μ:=by
 intro ds μ Q h
 replace h:=ecO h
 obtain ⟨b,ds,rfl,h⟩:=h
 replace h:=ecI h
 obtain ⟨m,ds,rfl,h⟩:=h
 replace h:=ecI h
 obtain ⟨n,ds,rfl,h⟩:=h
 replace h:=ecN h
 obtain ⟨rfl,h⟩:=h
 walk_at "ini"
 unfold zm
 walk_at "go"
 obtain ⟨⟨hB,⟨m0,m1⟩,n0,n1⟩,k⟩:=h
 refine ytk hB (by decide) (by decide) λc1 μ1 c10 c11 B1=>?_
 walk_at "go"
 refine ytk B1.box (by decide) (by decide) λc2 μ2 c20 c21 B2=>?_
 have al:∀ d∈([.int 1,.int 2,.int 3,.int (1+c1)]:List D),IsI 1 60 d:=ah ⟨_,rfl,by decide,by decide⟩ (ah ⟨_,rfl,by decide,by decide⟩ (ah ⟨_,rfl,by decide,by decide⟩ (ah ⟨_,rfl,by omega,by omega⟩ aD)))
 obtain ⟨_,e1,gr,rfl,g0,g1⟩:=cQ al c20 c21
 walk_at "go"
 refine g9 e1 ?_
 walk_at "go"
 refine ytk B2.box (by decide) (by decide) λc3 μ3 c30 c31 B3=>?_
 walk_at "go"
 refine ytk B3.box (by decide) (by decide) λc4 μ4 c40 c41 B4=>?_
 walk_at "go"
 refine ytk B4.box (by decide) (by decide) λc5 μ5 c50 c51 B5=>?_
 walk_at "go"
 have i5:0<=c5.fdiv 3/\c5.fdiv 3 < 2:=by rw[fq (by decide)];omega
 have al2:∀ d∈([.int (1+c3),.int (4+c4)]:List D),IsI 1 6 d:=ah ⟨_,rfl,by omega,by omega⟩ (ah ⟨_,rfl,by omega,by omega⟩ aD)
 obtain ⟨_,e2,mw,rfl,w0,w1⟩:=cQ al2 i5.1 i5.2
 refine ⟨⟨by decide,by unfold bx;decide⟩,g9 e2 ?_⟩
 walk_at "go"
 refine ⟨⟨B5.box,by omega,by omega⟩,λzs μ6 zl hz znd B6=>?_⟩
 walk_at "go"
 refine jX B6.box (λr ys=>∃ (rs:List Str) (wl:List WT),r=rs.map .str/\ys=wl.map WT.toD/\(∀ z∈rs,nmS z=true)/\(∀ w∈wl,w.Ok/\cv w.toD=true)/\wl.map WT.nm++rs=zs) ⟨zs,[],rfl,rfl,hz,(λ_ h=>nomatch h),rfl⟩ (by simp;omega) ?_ ?_
 ·rintro d r ys μ' hB' ⟨rs,wl,er,rfl,hr,hw,hl⟩ N hN
  cases rs with
  | nil=>cases er
  | cons z rs=>
  cases er
  walk_at "go"
  refine ⟨⟨hB',hr z NJ⟩,λw μ2 W Wn Wb B=>?_⟩
  refine hN (some w.toD) _ ⟨rs,wl++[w],rfl,by simp,(λy q=>hr y (NM _ q)),λy hy=>?_,by rw[← hl,O7,Ob,Wn];simp⟩ B
  rcases Oo.mp hy with q | q
  ·exact hw y q
  ·rw[NZ.mp q];exact ⟨W,Wb⟩
 rintro ys μ7 ⟨rs,ws,er,rfl,_,hw,hl⟩ B7
 cases rs with
 | cons _ _=>cases er
 | nil=>
 rw[OI] at hl
 have wl:ws.length=zs.length:=by rw[← hl,NK]
 have wnd:(ws.map WT.nm).Nodup:=by rw[hl];exact znd
 walk_at "go"
 refine ytk B7.box (by omega) (by omega) λc8 μ8 c80 c81 B8=>?_
 walk_at "go"
 refine ⟨⟨B8.box,c80,by omega⟩,λns μ9 nl hn nnd B9=>?_⟩
 refine ⟨ns,⟨rfl,by omega⟩,λnn p1 p2=>?_⟩
 have nnl:=p1.length_eq
 have srt:=Bx p2 ((p1.nodup_iff).mpr nnd)
 have hnn:∀ z∈nn,nmS z=true:=λz q=>hn z (p1.mem_iff.mp q)
 walk_at "go"
 refine jX B9.box (λr ys=>∃ (rs:List Str) (sl:List ST'),r=rs.map .str/\ys=sl.map ST'.toD/\(∀ z∈rs,nmS z=true)/\(∀ s∈sl,s.Ok/\bD (ws.map WT.nm) s.toD=true/\s.rd.Sublist (ws.map WT.nm)/\s.rd≠[])/\sl.map ST'.nm++rs=nn) ⟨nn,[],rfl,rfl,hnn,(λ_ h=>nomatch h),rfl⟩ (by simp;omega) ?_ ?_
 ·rintro d r ys μ' hB' ⟨rs,sl,er,rfl,hr,hs,hl'⟩ N hN
  cases rs with
  | nil=>cases er
  | cons z rs=>
  cases er
  walk_at "go"
  refine ⟨ws,⟨hB',hr z NJ,rfl,⟨by omega,by omega⟩,(λw h=>⟨(hw w h).1,nr (hw w h).2⟩),wnd,m0,m1⟩,λs μ2 S Sn Sr Sr0 Sb _ B=>?_⟩
  refine hN (some s.toD) _ ⟨rs,sl++[s],rfl,by simp,(λy q=>hr y (NM _ q)),λy hy=>?_,by rw[← hl',O7,Ob,Sn];simp⟩ B
  rcases Oo.mp hy with q | q
  ·exact hs y q
  ·rw[NZ.mp q];exact ⟨S,Sb,Sr,Sr0⟩
 rintro ys μ10 ⟨rs,ss,er,rfl,_,hs,hl2⟩ B10
 cases rs with
 | cons _ _=>cases er
 | nil=>
 rw[OI] at hl2
 have sl:ss.length=nn.length:=by rw[← hl2,NK]
 walk_at "go"
 exact ⟨_,.refl _,k ⟨gr,ws,ss⟩ _ ⟨⟨⟨by show 0<=gr;omega,by show gr < _;omega⟩,λw h=>(hw w h).1,λs h=>(hs s h).1,by show ws.length<=8;omega,by show ss.length<=8;omega⟩,g0,g1,by show 1<=ws.length;omega,by show ws.length<=6;omega,λw h=>(hw w h).2,wnd,by show ss.length<=8;omega,λs h=>(hs s h).2.1,by show (ss.map ST'.nm).Pairwise _;rw[hl2];exact srt,λs h=>(hs s h).2.2⟩ (B1.trans (B2.trans (B3.trans (B4.trans (B5.trans (B6.trans (B7.trans (B8.trans (B9.trans B10)))))))))⟩
section
open PySem PySem.Spec PyProof PyProof.Rows L2
theorem GA {X:Cx}{pos:Pos}{value:N1}{Te:ETr}{n:Int}{j:Nat}{p:Pos}{ks:List (Option N1)}{vs:List N1}{kk:List Key}{At:ATr}(hv:LE X value Te)(hr:LPs X pos ks vs kk At):LPs X pos (some (.Constant (.int n) j p)::ks) (value::vs) (.inl n::kk) (af Te At):=by
 obtain ⟨te,pe,se⟩:=hv.ex
 obtain ⟨trs,pr,sr⟩:=hr.ex
 refine ⟨_,BA DC pe pr,λσ H ρ μ Q Q' rl h k=>?_⟩
 refine se σ H ρ μ _ _ rl h λy H1 dy μ1 t1 m1 p1 h1=>sr σ H1 ρ μ1 _ _ (rl.go t1 m1) h1 λus H2 ds μ2 t2 m2 hl p2 h2=>?_
 exact k (y::us) H2 (dy::ds) μ2 (t1.trans t2) m2 (congrArg (· + 1) hl) (.cons (p1.mono t2) p2) h2
end
theorem u7 {xs:List D}{P:D->Prop}{i:Int}{f:D->Prop}(k0:0<=i)(k1:i < xs.length)(al:∀ d∈xs,P d)(h:∀ d,P d->f d):kO (atD xs i) f:=by
 obtain ⟨d,e,p⟩:=cQ al k0 k1
 exact g9 e (h d p)
def GrY (b:Addr)(μ μ':Mu):Prop:=Box μ' b/\∀ a o,a≠b->μ a=some o->μ' a=some o
theorem GrY.of {b:Addr}{μ μ':Mu}(B:cE b μ μ'):GrY b μ μ':=⟨B.box,λa o h e=>by rw[B.oth a h];exact e⟩
theorem GrY.trans {b:Addr}{μ μ1 μ2:Mu}(x:GrY b μ μ1)(y:GrY b μ1 μ2):GrY b μ μ2:=⟨y.1,λa o h e=>y.2 a o h (x.2 a o h e)⟩
theorem GrY.new {μ:Mu}{b q:Addr}{o:MO}(h:Box μ b)(hq:μ q=none):GrY b μ (up μ q o):=by
 obtain ⟨g,s,c,e,r⟩:=h
 have ne:b≠q:=λz=>by rw[z,hq] at e;cases e
 exact ⟨⟨g,s,c,by rw[cJ ne];exact e,r⟩,λa o h e=>by rw[cJ (λz=>by rw[z,hq] at e;cases e)];exact e⟩
theorem Any.gr {μ μ':Mu}{b:Addr}{d:D}(h:Any μ d)(hB:Box μ b)(G:GrY b μ μ'):Any μ' d:=by
 induction h with
 | non=>exact .non
 | bl x=>exact .bl x
 | int x=>exact .int x
 | str h1 h2=>exact .str h1 h2
 | tup _ hl ih=>exact .tup ih hl
 | ls x=>exact .ls x
 | dct e=>exact .dct (G.2 _ _ (λz=>by subst z;obtain ⟨g,s,c,e',_⟩:=hB;rw[e'] at e;cases e) e)
theorem anyS {μ:Mu}{z:Str}(h:∀ c∈z.cps.toList,c < 128)(hl:z.length<=1000):Any μ (.str z):=.str (by
 rw[OW]
 intro c hc
 exact decide_eq_true (h c (by simpa using hc))) hl
theorem zo {z:Str}(h:nmS z=true):(1<=z.length/\z.length<=8)/\∀ c∈z.cps.toList,97<=c/\c<=122:=by
 unfold nmS at h
 simp only[NO,decide_eq_true_eq,Ot,iB] at h
 refine ⟨h.1,λc hc=>?_⟩
 have:=h.2 c hc
 simpa only[sm,NO,decide_eq_true_eq] using this
theorem kl {μ:Mu}{z:Str}(h:nmS z=true):Any μ (.str z):=anyS (λc hc=>by have:=(zo h).2 c hc;omega) (by have:=(zo h).1;omega)
theorem anyI {μ:Mu}{i:Int}(h:-1000000000000000000000000000000000<=i)(h':i<=1000000000000000000000000000000000):Any μ (.int i):=.int (by unfold bx;omega)
theorem LY {μ:Mu}{o:Option Int}(h:∀ i,o=some i->iZ i):Any μ (oD o):=by
 cases o with
 | none=>exact .non
 | some i=>have:=h i rfl;exact anyI (by have:=this.l;omega) (by have:=this.u;omega)
theorem nuA {μ:Mu}{i:Int}(h:iZ i):Any μ (.int i):=anyI (by have:=h.l;omega) (by have:=h.u;omega)
theorem bB {μ:Mu}{ds:List D}(h:∀ d∈ds,Any μ d)(hl:ds.length<=1000:=by simp):Any μ (.tup ds):=.tup h hl
theorem GF {μ:Mu}{z:Str}(h:soB (.str z)=true):Any μ (.str z):=by
 have h:(decide (z=NA "line") || decide (z=NA "turns"))=true:=h
 rw[Uw,decide_eq_true_eq,decide_eq_true_eq] at h
 rcases h with rfl | rfl<;>exact .str (by decide +kernel) (by decide +kernel)
theorem WT.any {μ:Mu}{w:WT}(h:w.Ok)(hb:cv w.toD=true):Any μ w.toD:=by
 have hb:(nmS w.nm&&(wiI 1 20 (.int w.p)&&(wiI 1 60 (.int w.r)&&(nwB 60 (oD w.m)&&soB (.str w.so)))))=true:=hb
 simp only[NO] at hb
 exact bB (ah (kl hb.1) (ah (nuA h.p) (ah (nuA h.r) (ah (LY h.m) (ah (GF hb.2.2.2.2) aD)))))
theorem fgA {μ:Mu}{d:D}(h:lW d):Any μ d:=by
 rcases h with ⟨i,rfl,h0,h1⟩ | ⟨a,b,rfl,⟨a0,a1⟩,b0,b1⟩
 ·exact anyI (by omega) (by omega)
 ·exact bB (ah (anyI (by omega) (by omega)) (ah (anyI (by omega) (by omega)) aD))
theorem HC {μ:Mu}{w:Str}(h:w∈dN):Any μ (.str w):=by
 simp only[dN,N9,OL,or_false] at h
 rcases h with rfl | rfl | rfl | rfl | rfl<;>exact .str (by decide +kernel) (by decide +kernel)
theorem GC {w:Str}{xs:List D}(h:fj (.tup (.str w::xs))=true):w∈dN:=by
 rw[mH,NO] at h
 cases e:bN gx w with
 | none=>rw[e] at h;cases h.1
 | some d=>
  rcases Hm e with ⟨rfl,_⟩ | ⟨h4,_⟩ | ⟨rfl,_⟩
  ·simp[dN]
  ·exact yI h4
  ·simp[dN]
theorem ruA {μ:Mu}{w:Str}{ps:List D}(h:fj (.tup (.str w::ps))=true)(hp:∀ d∈ps,lW d)(hl:ps.length<=6):Any μ (.tup (.str w::ps)):=bB (ah (HC (GC h)) λd hd=>fgA (hp d hd)) (by simp;omega)
theorem DD {ns:List Str}{s:ST'}(h:bD ns s.toD=true):nmS s.nm=true/\fF ns (.tup (s.rd.map .str))=true/\wiI 1 8 (.int s.bt)=true/\wiI 0 1000000 (.int s.bg)=true/\nwB 1000000 (oD s.mn)=true/\fj (.tup (.str s.wd::s.ps))=true:=by
 have h:(nmS s.nm&&(fF ns (.tup (s.rd.map .str))&&(wiI 1 8 (.int s.bt)&&(wiI 0 1000000 (.int s.bg)&&(nwB 1000000 (oD s.mn)&&fj (.tup (.str s.wd::s.ps)))))))=true:=h
 simpa only[NO] using h
theorem Ef {ns:List Str}:∀ {b:Nat} {xs:List Str},eP ns b (xs.map .str)=true->∀ z∈xs,nmS z=true:=by
 intro b xs
 induction xs generalizing b with
 | nil=>intro _ z hz;cases hz
 | cons x xs ih=>
  intro h z hz
  have h:(nmS x&&(decide (x∈ns.drop b)&&eP ns (nj ns x+1) (xs.map .str)))=true:=h
  simp only[NO] at h
  rcases N9.mp hz with rfl | hz
  ·exact h.1
  ·exact ih h.2.2 z hz
theorem rdA {μ:Mu}{ns xs:List Str}(h:fF ns (.tup (xs.map .str))=true)(hl:xs.length<=8):Any μ (.tup (xs.map .str)):=by
 have h:(decide (xs.map D.str≠[])&&eP ns 0 (xs.map .str))=true:=h
 rw[NO] at h
 refine bB (λd hd=>?_) (by simp;omega)
 obtain ⟨z,hz,rfl⟩:=Od.mp hd
 exact kl (Ef h.2 z hz)
theorem ST'.any {μ:Mu}{ns:List Str}{s:ST'}(h:s.Ok)(hb:bD ns s.toD=true):Any μ s.toD:=by
 obtain ⟨h1,h2,_,_,_,h6⟩:=DD hb
 exact bB (ah (kl h1) (ah (rdA h2 h.rl) (ah (nuA h.b) (ah (nuA h.g) (ah (LY h.m) (ah (ruA h6 h.p h.pl) aD))))))
theorem GP {μ:Mu}{ws:List WT}(h:∀ w∈ws,w.Ok/\cv w.toD=true)(hl:ws.length<=8):Any μ (.tup (ws.map WT.toD)):=bB (λd hd=>by obtain ⟨w,hw,rfl⟩:=Od.mp hd;exact WT.any (h w hw).1 (h w hw).2) (by simp;omega)
theorem GH {μ:Mu}{ns:List Str}{ss:List ST'}(h:∀ s∈ss,s.Ok/\bD ns s.toD=true)(hl:ss.length<=8):Any μ (.tup (ss.map ST'.toD)):=bB (λd hd=>by obtain ⟨w,hw,rfl⟩:=Od.mp hd;exact ST'.any (h w hw).1 (h w hw).2) (by simp;omega)
theorem PT.Good.wA {μ:Mu}{p:PT}(h:p.Good):Any μ (.tup (p.ws.map WT.toD)):=GP (λw hw=>⟨h.ok.w w hw,h.w w hw⟩) h.ok.wl
theorem PT.Good.sA {μ:Mu}{p:PT}(h:p.Good):Any μ (.tup (p.ss.map ST'.toD)):=GH (λw hw=>⟨h.ok.s w hw,h.s w hw⟩) h.ok.sl
theorem PT.Good.any {μ:Mu}{p:PT}(h:p.Good):Any μ p.toD:=bB (ah (nuA h.ok.g) (ah h.wA (ah h.sA aD)))
theorem fc {ds:List D}{d:D}(hd:d∈ds)(h:cv d=false):dh (.tup ds)=false:=by
 have:ds.all cv=false:=by
  rw[← Uj,Ot]
  intro q;rw[q d hd] at h;cases h
 show ((_&&_)&&(ds.all cv&&_))=false
 rw[this,NQ,Og]
theorem xU {ds:List D}(h:¬ ds.length<=6):dh (.tup ds)=false:=by
 show ((_&&decide (ds.length<=6))&&_)=false
 rw[decide_eq_false h,Og,NQ]
theorem zK {ds:List D}(h:¬ (ds.map nmD).Nodup):dh (.tup ds)=false:=by
 show (_&&(_&&decide (ds.map nmD).Nodup))=false
 rw[decide_eq_false h,Og,Og]
theorem dE {ns:List Str}{ds:List D}{d:D}(hd:d∈ds)(h:bD ns d=false):bX ns (.tup ds)=false:=by
 have:ds.all (bD ns)=false:=by
  rw[← Uj,Ot]
  intro q;rw[q d hd] at h;cases h
 show (_&&(ds.all (bD ns)&&_))=false
 rw[this,NQ,Og]
theorem pR {ns:List Str}{ds:List D}(h:¬ ds.length<=8):bX ns (.tup ds)=false:=by
 show (decide (ds.length<=8)&&_)=false
 rw[decide_eq_false h,NQ]
theorem gH {ns:List Str}{ds:List D}(h:pC (ds.map nmD)=false):bX ns (.tup ds)=false:=by
 show (_&&(_&&pC (ds.map nmD)))=false
 rw[h,Og,Og]
theorem mE {g w s:D}(h:dh w=false):dG (.tup [g,w,s])=false:=by
 show (_&&(dh w&&_))=false
 rw[h,NQ,Og]
theorem FU {g w s:D}(h:bX (oJ w) s=false):dG (.tup [g,w,s])=false:=by
 show (_&&(_&&bX (oJ w) s))=false
 rw[h,Og,Og]
theorem za {g w s:D}(h:wiI 1 60 g=false):dG (.tup [g,w,s])=false:=by
 show (wiI 1 60 g&&_)=false
 rw[h,NQ]
theorem CV (ws:List WT):oJ (.tup (ws.map WT.toD))=ws.map WT.nm:=zj ws
theorem Cy {ns:List Str}{z:Str}(nd:ns.Nodup):z ∉ ns.drop (nj ns z+1):=by
 intro h
 induction ns with
 | nil=>simp at h
 | cons y r ih=>
  have ⟨n1,n2⟩:=Po.mp nd
  unfold nj at h ih
  rw[T9] at h
  by_cases e:y=z
  ·subst e
   simp only[decide_true,cond_true,Ve,SV,List.drop_zero] at h
   exact n1 h
  ·simp only[decide_eq_false e,cond_false,SV] at h
   exact ih n2 h
end L3
namespace Kk
local macro_rules | `(tactic| walk_at "ln")=>`(tactic| (intro ds μ Q h;split at h;rfl;exact h.elim))
open PySem L3
local macro_rules | `(tactic| walk_at "go")=>zzS "↓L3.LZ L3.Ky ↓L3.yB ↓L3.ua ↓L3.Cw ↓L3.Cj ↓L3.GI ↓L3.G7 ↓L3.GJ ↓L3.G5 ↓L3.GU ↓L3.G3 ↓L3.tF ↓L3.kK L3.dX L3.dB L3.dW L3.ee L3.dU L3.d8 L3.eV L3.e6 L3.df L3.dZ L3.eo L3.dS L3.dQ L3.e8 L3.dR L3.eT L3.dP L3.eX L3.dY L3.fb L3.mF L3.uG L3.qI L3.vd L3.oB L3.uR L3.qT L3.vI L3.oA L3.vk L3.qz L3.tR L3.nV L3.ui L3.qL L3.vp L3.om L3.uI L3.qE L3.uM L3.og L3.ub L3.qp L3.uK L3.ni L3.tT L3.qD L3.vi L3.oZ L3.jY List.map_cons List.map_nil List.replicate List.cons_append List.nil_append L3.lk L3.Ku L3.IB L3.JX L3.JA L3.Iw L3.Kj L3.rB L3.o7 L3.qv L3.lH L3.Dc L3.A5 L3.yL L3.sT L3.jR L3.yb L3.yh L3.yk L3.tE L3.sF L3.r9 L3.sH true_and and_true and_self Bool.not_true Bool.not_false decide_true decide_false Bool.or_true Bool.or_false Bool.true_or Bool.false_or Bool.and_false Bool.false_and Bool.and_true Bool.true_and Int.reduceToNat Int.reducePow Int.reduceNeg Int.reduceSub Int.reduceAdd Int.reduceMul Int.reduceEq Int.reduceLT Int.reduceLE Int.reduceBEq L3.mW L3.iU L3.iS L3.iO L3.iP L3.iT L3.iW L3.iX if_true if_false Bool.false_eq_true reduceCtorEq decide_eq_true_eq"
local macro_rules | `(tactic| walk_at "ok")=>`(tactic| (simp only[L3.iJ,L3.MulOk,L3.S64,L3.bx,L3.o8] at *;omega))
local macro_rules | `(tactic| walk_at "ini")=>`(tactic| simp only[ini,List.map,List.length,List.replicate,Nat.reduceSub,Nat.reduceAdd,Nat.sub_self,List.cons_append,List.nil_append,List.append_nil])
abbrev gk:FSp:=L3.ay
def n4:STr:=aE (aU (aq fR (aq aM (aq aM (aq gB (aq L3.rIx (ai 0) (TC (.int 1))) (TC (.int 48271))) (aq gB (TC (.int 8191)) (aq L3.rIx (ai 0) (TC (.int 2))))) (TC (.int 17))) (TC (.int 2147483647))) (az 3)) (aE (ff (ai 0) (TC (.int 1)) (aq fR (aq aM (aq gB (ai 3) (ai 3)) (aq L3.rIx (ai 0) (TC (.int 2)))) (TC (.int 2147483629)))) (aR (aq fR (aq jc (aq L3.rIx (ai 0) (TC (.int 1))) (TC (.int 13))) (ai 1))))
def u6:STr:=aE (bI (TB (aq rGt (aq L3.rIx (ai 0) (TC (.int 0))) (TC (.int 0)))) (aE (aU (aq fR (aq L3.rIx (ai 0) (TC (.int 0))) (ai 1)) (az 2)) (aE (ff (ai 0) (TC (.int 0)) (aq jc (aq L3.rIx (ai 0) (TC (.int 0))) (ai 1))) (aR (ai 2)))) (aY)) (aE (ff (ai 0) (TC (.int 2)) (aq aM (aq L3.rIx (ai 0) (TC (.int 2))) (TC (.int 1)))) (n4))
theorem pB:∀ ds μ Q,gk ds μ Q->ds.length=2:=L3.Au
theorem sV:∀ ds μ Q,gk ds μ Q->u6 { nx:=λ_ μ'=>RT Q .non μ',rt:=RT Q } (ini 4 ds) μ:=L3.Cz
abbrev gD:FSp:=L3.hV
def oM:STr:=aE (bI (TB (aq rEq (ai 2) (TC (.str "still")))) (aR (aP (af (ai 2) (af (ai 4) (ar))))) (aY)) (aE (aU (au L3.eC (af (aq aM (TC (.int 1)) (au L3.ay (af (ai 0) (af (TC (.int 6)) (ar))))) (af (aq aM (TC (.int 1)) (au L3.ay (af (ai 0) (af (TC (.int 3)) (ar))))) (ar)))) (az 5)) (aE (aU (aq L3.rIx (cF (af (aP (af (TC (.int 1)) (af (TC (.int 2)) (ar)))) (af (aP (af (TC (.int 2)) (af (TC (.int 3)) (ar)))) (af (aP (af (TC (.int 1)) (af (TC (.int 7)) (ar)))) (af (aP (af (TC (.int 7)) (af (TC (.int 8)) (ar)))) (ar)))))) (au L3.ay (af (ai 0) (af (TC (.int 4)) (ar))))) (az 6)) (aE (bI (TB (aq rEq (ai 2) (TC (.str "swell")))) (aR (aP (af (ai 2) (af (ai 4) (af (au L3.eC (af (aq aM (aq L3.rIx (ai 5) (TC (.int 0))) (aq L3.rIx (ai 5) (TC (.int 1)))) (af (aq L3.rIx (ai 5) (TC (.int 1))) (ar)))) (af (ai 6) (af (ai 3) (ar)))))))) (aY)) (aE (bI (TB (aq rEq (ai 2) (TC (.str "heed")))) (aR (aP (af (ai 2) (af (ai 4) (af (ai 5) (af (aq L3.rIx (cF (af (ai 6) (af (aP (af (TC (.int 1)) (af (TC (.int 1)) (ar)))) (af (aP (af (TC (.int 1)) (af (TC (.int 16)) (ar)))) (ar))))) (au L3.ay (af (ai 0) (af (TC (.int 3)) (ar))))) (af (ai 3) (ar)))))))) (aY)) (aE (bI (TB (aq rEq (ai 2) (TC (.str "calm")))) (aE (aU (au L3.ay (af (ai 0) (af (TC (.int 5)) (ar)))) (az 7)) (aR (aP (af (ai 2) (af (ai 4) (af (ai 5) (af (ai 7) (af (aq aM (ai 7) (au L3.ay (af (ai 0) (af (TC (.int 5)) (ar))))) (af (ai 3) (ar)))))))))) (aY)) (aR (aP (af (ai 2) (af (ai 4) (af (ai 5) (af (ai 6) (af (ai 3) (ar)))))))))))))
def uY:STr:=aE (aU (aq L3.rIx (cF (af (TC (.str "still")) (af (TC (.str "step")) (af (TC (.str "swell")) (af (TC (.str "heed")) (af (TC (.str "calm")) (ar))))))) (au L3.ay (af (ai 0) (af (TC (.int 5)) (ar))))) (az 2)) (aE (aU (au L3.b4 (af (ai 0) (af (TC (.int 1)) (af (ai 1) (ar))))) (az 3)) (aE (aU (au L3.b4 (af (ai 0) (af (TC (.int 1)) (af (aq jc (aq L3.rIx (ai 3) (TC (.int 0))) (aq L3.rIx (ai 3) (TC (.int 1)))) (ar))))) (az 4)) (oM)))
theorem pX:∀ ds μ Q,gD ds μ Q->ds.length=2:=L3.Ai
theorem rH:∀ ds μ Q,gD ds μ Q->uY { nx:=λ_ μ'=>RT Q .non μ',rt:=RT Q } (ini 8 ds) μ:=L3.CS
abbrev fm:FSp:=L3.gq
def kC:STr:=aE (aU (aq L3.rIx (cF (af (aq aM (TC (.int 1)) (au L3.ay (af (ai 0) (af (TC (.int 3)) (ar))))) (af (aq aM (TC (.int 1)) (au L3.ay (af (ai 0) (af (TC (.int 8)) (ar))))) (ar)))) (aq jc (au L3.ay (af (ai 0) (af (TC (.int 6)) (ar)))) (TC (.int 5)))) (az 5)) (aE (aU (aq L3.rIx (cF (af (TC .non) (af (au L3.ay (af (ai 0) (af (TC (.int 25)) (ar)))) (ar)))) (au L3.ay (af (ai 0) (af (TC (.int 2)) (ar))))) (az 6)) (aR (aP (af (ai 1) (af (ai 4) (af (ai 5) (af (au L3.ay (af (ai 0) (af (TC (.int 4)) (ar)))) (af (ai 6) (af (au L3.hV (af (ai 0) (af (ai 3) (ar)))) (ar))))))))))
def pw:STr:=aE (aU (au cI (af (cu (iC (ai 2)) (az 0) (TB (aq rGt (au L3.ay (af (ai 1) (af (TC (.int 3)) (ar)))) (TC (.int 0)))) (aq L3.rIx (ai 0) (TC (.int 0))) 1 [0]) (ar))) (az 4)) (aE (bI (TB (aq rEq (ai 4) (aP (ar)))) (aU (aP (af (aq L3.rIx (aq L3.rIx (ai 2) (au L3.ay (af (ai 0) (af (au e7 (af (ai 2) (ar))) (ar))))) (TC (.int 0))) (ar))) (az 4)) (aY)) (kC))
theorem l4:∀ ds μ Q,fm ds μ Q->ds.length=4:=L3.uf
theorem oT:∀ ds μ Q,fm ds μ Q->pw { nx:=λ_ μ'=>RT Q .non μ',rt:=RT Q } (ini 7 ds) μ:=L3.xh
def MN (d:D):Prop:=d=.tup []∨∃ a c,d=.tup [a,c]
def cN:FSp:=λds μ Q=>kcO ds λb ds=>kcN ds (Box μ b/\∀ d μ',Any μ' d->dG d=false->Box μ' b->Q d μ')
theorem k8:∀ ds μ Q,cN ds μ Q->ds.length=1:=λ_ _ _ h=>lcO h λ_ _ h=>by rw[(ecN h).1];rfl
def ir:STr:=aE (aU (aP (ar)) (az 1)) (aE (qa (cz (TC (.int 18))) (az 2) (aU (aP (af (ai 1) (af (TSl (cF (af (ai 1) (ar))) (ONo) (jd (aq fR (ai 2) (TC (.int 2))))) (ar)))) (az 1))) (aE (aU (cF (af (TC .non) (af (TC (.int 7)) (af (TC (.str "plan")) (af (aP (ar)) (af (cF (ar)) (af (u3) (af (TC (.bl true)) (af (ai 1) (af (aP (af (TC (.int 1)) (af (TC (.int 2)) (af (TC (.int 3)) (ar))))) (af (aP (af (TC .non) (af (TC .non) (af (TC .non) (ar))))) (af (Bw [.inl 1] (af (TC (.int 2)) (ar))) (af (aP (af (TC (.int 1)) (af (aP (ar)) (af (aP (ar)) (ar))))) (ar)))))))))))))) (az 3)) (aR (aq L3.rIx (ai 3) (au L3.ay (af (ai 0) (af (TC (.int 12)) (ar))))))))
theorem lX:∀ ds μ Q,cN ds μ Q->ir { nx:=λ_ μ'=>RT Q .non μ',rt:=RT Q } (ini 4 ds) μ:=by
 intro ds μ Q h
 replace h:=ecO h
 obtain ⟨b,ds,rfl,h⟩:=h
 replace h:=ecN h
 obtain ⟨rfl,h⟩:=h
 walk_at "ini"
 unfold ir
 walk_at "go"
 obtain ⟨hB,k⟩:=h
 walk_at "go"
 refine f9 (λr ρ μ'=>∃ (d:D) (v2:Option D),(∀ e∈r,∃ i:Int,e=.int i)/\MN d/\Any μ d/\ρ=[some (.obj b),some d,v2,none]/\μ'=μ) ?_ ?_ _ _ _ ⟨.tup [],_,λe he=>?_,.inl rfl,bB aD,rfl,rfl⟩
 ·rintro ρ μ' ⟨d,v2,_,hd,ha,rfl,rfl⟩
  walk_at "go"
  intro q hq
  walk_at "go"
  intro q2 hq2
  walk_at "go"
  have G1:=GrY.new (o:=.dct []) hB hq
  have G2:=GrY.new (o:=.dct [(.inl 1,.int 2)]) G1.1 hq2
  refine ytk G2.1 (by decide) (by decide) λk1 μ1 k10 k11 B1=>?_
  walk_at "go"
  have hd':dG d=false:=by rcases hd with rfl | ⟨a,c,rfl⟩ <;> rfl
  have e1:up (up μ' q (.dct [])) q2 (.dct [(.inl 1,.int 2)]) q=some (.dct []):=by
   have ne:q≠q2:=λz=>by rw[← z,aX] at hq2;cases hq2
   rw[cJ ne,aX]
  refine u7 (P:=λd=>Any (up (up μ' q (.dct [])) q2 (.dct [(.inl 1,.int 2)])) d/\dG d=false) k10 k11 ?_ λx hx=>⟨_,.refl _,k x _ (hx.1.gr G2.1 (.of B1)) hx.2 B1.box⟩
  have ha':=(ha.gr hB G1).gr G1.1 G2
  refine ah ⟨.non,rfl⟩ (ah ⟨anyI (by decide) (by decide),rfl⟩ (ah ⟨.str (by decide +kernel) (by decide +kernel),rfl⟩ (ah ⟨bB aD,rfl⟩ (ah ⟨.ls _,rfl⟩ (ah ⟨.dct e1,rfl⟩ (ah ⟨.bl _,rfl⟩ (ah ⟨ha',hd'⟩ (ah ⟨?_,?_⟩ (ah ⟨?_,rfl⟩ (ah ⟨.dct aX,rfl⟩ (ah ⟨?_,?_⟩ aD)))))))))))
  ·exact bB (ah (anyI (by decide) (by decide)) (ah (anyI (by decide) (by decide)) (ah (anyI (by decide) (by decide)) aD)))
  ·exact mE rfl
  ·exact bB (ah .non (ah .non (ah .non aD)))
  ·exact bB (ah (anyI (by decide) (by decide)) (ah (bB aD) (ah (bB aD) aD)))
  ·exact mE rfl
 ·rintro e r ρ μ' N ⟨d,v2,hr,hd,ha,rfl,rfl⟩ hN
  obtain ⟨i,rfl⟩:=hr e NJ
  walk_at "go"
  refine ⟨by decide,hN _ _ ⟨_,_,λe he=>hr e (NM _ he),.inr ⟨_,_,rfl⟩,bB (ah ha (ah (.ls _) aD)),rfl,rfl⟩⟩
 ·obtain ⟨j,rfl,_⟩:=cp he
  exact ⟨j,rfl⟩
theorem My {μ:Mu}{x y:Str}(hx:∀ c∈x.cps.toList,c < 128)(hy:∀ c∈y.cps.toList,c < 128)(hl:x.length+y.length<=1000):Any μ (.str (x++y)):=anyS (λc hc=>by
 rw[app_list] at hc
 rcases Oo.mp hc with h | h
 ·exact hx c h
 ·exact hy c h) (by rw[yt];exact hl)
theorem Hj {i:Int}(i0:0<=i)(i1:i < 7):∃ c,L2.atI (NA "abcdefg").cps.toList i=some c/\c < 128:=by
 have:∀ j:Fin 7,(match L2.atI (NA "abcdefg").cps.toList (j.val:Int) with | some c=>decide (c < 128) | none=>false)=true:=by decide +kernel
 obtain ⟨j,rfl⟩:=Ou i0
 have w:=this ⟨j,by omega⟩
 split at w
 ·rename_i c e;exact ⟨c,e,of_decide_eq_true w⟩
 ·cases w
def HY (i:Int):Str:=NA "w" ++ ⟨#[((L2.atI (NA "abcdefg").cps.toList i).getD 0)]⟩
def lnD:D:=.str "line"
def K4:D->D
 | .int i=>.tup [.str (HY i),.int 1,.int 1,.non,lnD]
 | d=>d
structure Kf (ws:List WT):Prop where
 ok:∀ w∈ws,w.Ok/\cv w.toD=true
 l1:1<=ws.length
 l6:ws.length<=6
 nd:(ws.map WT.nm).Nodup
theorem lnA {μ:Mu}:Any μ lnD:=.str (by decide +kernel) (by decide +kernel)
theorem Fu {α:Type}{xs:List α}{lo hi:Option Int}{d:α}(h:d∈cutD xs lo hi):d∈xs:=P4 (SG h)
def cD:FSp:=λds μ Q=>kcO ds λb ds=>kcT ds λxs ds=>kcN ds (∃ ws:List WT,(Box μ b/\xs=ws.map WT.toD/\Kf ws)/\∀ d μ',Any μ' d->dh d=false->Box μ' b->Q d μ')
theorem j6:∀ ds μ Q,cD ds μ Q->ds.length=2:=λ_ _ _ h=>lcO h λ_ _ h=>lcT h λ_ _ h=>by rw[(ecN h).1];rfl
def gX:STr:=aE (aU (aq L3.rIx (ai 1) (TC (.int 0))) (sQ [2,3,4,5,6])) (aE (aU (cu (cz (TC (.int 7))) (az 0) (gh) (aP (af (aq aM (TC (.str "w")) (aq jk (TC (.str "abcdefg")) (ai 0))) (af (TC (.int 1)) (af (TC (.int 1)) (af (TC .non) (af (TC (.str "line")) (ar))))))) 1 []) (az 7)) (aE (aU (cF (af (aP (ar)) (af (au cI (af (ai 7) (ar))) (af (aq aM (ai 1) (aP (af (aP (af (ai 2) (af (TC (.int 1)) (af (TC (.int 1)) (af (TC .non) (af (TC (.str "line")) (ar))))))) (ar)))) (af (aq aM (TSl (ai 1) (ONo) (jd (TUn AJ (TC (.int 1))))) (aP (af (TC .non) (ar)))) (af (au fk (af (ai 1) (ar))) (af (TC .non) (af (u3) (af (aq L3.rIx (ai 1) (TC (.int 0))) (ar)))))))))) (az 8)) (aE (aU (aq aM (ai 8) (cF (af (aq aM (aP (af (aP (af (ai 2) (af (TC (.bl true)) (af (ai 4) (af (ai 5) (af (ai 6) (ar))))))) (ar))) (TSl (ai 1) (jd (TC (.int 1))) (ONo))) (af (aq aM (aP (af (au fk (af (aq L3.rIx (ai 1) (TC (.int 0))) (ar))) (ar))) (TSl (ai 1) (jd (TC (.int 1))) (ONo))) (af (aq aM (ai 1) (aP (af (aP (af (ai 2) (af (TC (.int 1)) (af (TC (.int 1)) (ar))))) (ar)))) (af (TC (.int 0)) (ar))))))) (az 8)) (aR (aq L3.rIx (ai 8) (au L3.ay (af (ai 0) (af (TC (.int 12)) (ar)))))))))
theorem kZ:∀ ds μ Q,cD ds μ Q->gX { nx:=λ_ μ'=>RT Q .non μ',rt:=RT Q } (ini 9 ds) μ:=by
 intro ds μ Q h
 replace h:=ecO h
 obtain ⟨b,ds,rfl,h⟩:=h
 replace h:=ecT h
 obtain ⟨xs,ds,rfl,h⟩:=h
 replace h:=ecN h
 obtain ⟨rfl,h⟩:=h
 walk_at "ini"
 unfold gX
 walk_at "go"
 obtain ⟨ws,⟨hB,rfl,W⟩,k⟩:=h
 have wA:=λμ=>GP (μ:=μ) W.ok (by have:=W.l6;omega)
 have l6:=W.l6
 obtain ⟨ok,l1,_,nd⟩:=W
 cases ws with
 | nil=>cases l1
 | cons w ws=>
 have w0:=ok w NJ
 have wa:∀ μ,Any μ w.toD:=λμ=>WT.any w0.1 w0.2
 have ra:∀ μ,∀ d∈ws.map WT.toD,Any μ d:=λμ d hd=>by obtain ⟨x,hx,rfl⟩:=Od.mp hd;exact WT.any (ok x (NM _ hx)).1 (ok x (NM _ hx)).2
 have aa:∀ μ,∀ d∈w.toD::ws.map WT.toD,Any μ d:=λμ=>ah (wa μ) (ra μ)
 rw[NN] at l6
 rw[Ob]
 have ew:w.toD=.tup [.str w.nm,.int w.p,.int w.r,oD w.m,.str w.so]:=rfl
 have nmA:∀ μ,Any μ (.str w.nm):=λμ=>kl (nr w0.2)
 walk_at "go"
 rw[ew]
 walk_at "go"
 refine comp_map K4 (by rw[bE];decide) (λd hd μ' sb N n=>?_) ?_
 ·obtain ⟨i,rfl,i0,i1⟩:=cp hd
  obtain ⟨c,ec,hc⟩:=Hj i0 (by omega)
  walk_at "go"
  refine ⟨by decide +kernel,nQ ec ?_⟩
  walk_at "go"
  refine ⟨by have:(⟨#[c]⟩:Str).length=1:=rfl;have e2:(NA "w").length=1:=(by decide +kernel);rw[e2,this];decide,?_⟩
  simp only[K4,HY,ec,RK] at n
  exact n
 walk_at "go"
 have c1:=oS (D.tup [D.str w.nm,D.int w.p,D.int w.r,oD w.m,D.str w.so]::ws.map WT.toD) none (some (-1))
 have c2:=oS (D.tup [D.str w.nm,D.int w.p,D.int w.r,oD w.m,D.str w.so]::ws.map WT.toD) (some 1) none
 rw[NN,NK] at c1 c2
 refine ⟨?_,?_,λq hq=>⟨?_,?_,?_,?_,?_⟩⟩
 iterate 6 (simp only[NN,OD,NK];omega)
 have G:=GrY.new (o:=.dct []) hB hq
 refine ytk G.1 (by decide) (by decide) λk1 μ1 k10 k11 B1=>?_
 walk_at "go"
 rw[ew] at aa wa
 refine u7 (P:=λd=>Any (up μ q (.dct [])) d/\dh d=false) k10 k11 ?_ λx hx=>⟨_,.refl _,k x _ (hx.1.gr G.1 (.of B1)) hx.2 B1.box⟩
 have aa:=aa (up μ q (.dct []))
 have wa:=wa (up μ q (.dct []))
 have ra:=ra (up μ q (.dct []))
 have nmA:=nmA (up μ q (.dct []))
 have wt:=wa.bW
 have w2:=wt (.int w.r) (by simp)
 have w3:=wt (oD w.m) (by simp)
 have w4:=wt (.str w.so) (by simp)
 have i1:Any (up μ q (.dct [])) (.int 1):=anyI (by decide) (by decide)
 have app:∀ {xs ys:List D},(∀ d∈xs,Any (up μ q (.dct [])) d)->(∀ d∈ys,Any (up μ q (.dct [])) d)->∀ d∈xs++ys,Any (up μ q (.dct [])) d:=λh1 h2 d hd=>(Oo.mp hd).elim (h1 d) (h2 d)
 have cut:∀ lo hi,∀ d∈cutD (D.tup [D.str w.nm,D.int w.p,D.int w.r,oD w.m,D.str w.so]::ws.map WT.toD) lo hi,Any (up μ q (.dct [])) d:=λlo hi d hd=>aa d (Fu hd)
 refine ah ⟨bB aD,rfl⟩ (ah ⟨bB (λd hd=>?_) ?_,xU ?_⟩ (ah ⟨bB (ah wa (app ra (ah (bB (ah nmA (ah i1 (ah i1 (ah .non (ah lnA aD)))))) aD))) ?_,?_⟩ (ah ⟨bB (app (cut _ _) (ah .non aD)) ?_,fc (d:=.non) (NX _ (by simp)) rfl⟩ (ah ⟨.ls _,rfl⟩ (ah ⟨.non,rfl⟩ (ah ⟨.dct aX,rfl⟩ (ah ⟨wa,fc NJ rfl⟩ (ah ⟨bB (ah (bB (ah nmA (ah (.bl true) (ah w2 (ah w3 (ah w4 aD)))))) (cut _ _)) ?_,fc NJ ?_⟩ (ah ⟨bB (ah (.ls _) (cut _ _)) ?_,fc NJ rfl⟩ (ah ⟨bB (ah wa (app ra (ah (bB (ah nmA (ah i1 (ah i1 aD)))) aD))) ?_,fc (NM _ (NX _ NJ)) rfl⟩ (ah ⟨anyI (by decide) (by decide),rfl⟩ aD)))))))))))
 ·obtain ⟨e,he,rfl⟩:=Od.mp hd
  obtain ⟨i,rfl,i0,i1'⟩:=cp he
  obtain ⟨c,ec,hc⟩:=Hj i0 (by omega)
  refine bB (ah ?_ (ah i1 (ah i1 (ah .non (ah lnA aD)))))
  unfold HY
  rw[ec]
  exact My (by decide +kernel) (λx hx=>by simp at hx;rw[hx];exact hc) (by have:(⟨#[c]⟩:Str).length=1:=rfl;have e2:(NA "w").length=1:=(by decide +kernel);rw[e2];show 1+(⟨#[c]⟩:Str).length<=1000;rw[this];decide)
 ·rw[NK,bE];decide
 ·rw[NK,bE];decide
 ·simp only[NN,NW,OD,NK];omega
 ·refine zK λh=>?_
  rw[Ob,O7] at h
  exact (Po.mp h).1 (NX _ NJ)
 ·simp only[NN,NW,OD,NK];omega
 ·simp only[NN,NW,OD,NK];omega
 ·show (nmB _&&(wiI 1 20 (.bl true)&&_))=false
  rw[show wiI 1 20 (.bl true)=false from rfl,NQ,Og]
 ·simp only[NN,NW,OD,NK];omega
 ·simp only[NN,NW,OD,NK];omega
theorem K5 {i:Int}(i0:0<=i)(i1:i < 9):∃ c,L2.atI (NA "abcdefghi").cps.toList i=some c/\c < 128:=by
 have:∀ j:Fin 9,(match L2.atI (NA "abcdefghi").cps.toList (j.val:Int) with | some c=>decide (c < 128) | none=>false)=true:=by decide +kernel
 obtain ⟨j,rfl⟩:=Ou i0
 have w:=this ⟨j,by omega⟩
 split at w
 ·rename_i c e;exact ⟨c,e,of_decide_eq_true w⟩
 ·cases w
def HX (i:Int):Str:=NA "s" ++ ⟨#[((L2.atI (NA "abcdefghi").cps.toList i).getD 0)]⟩
def aS:Str:=NA "a"
def bS:Str:=NA "b"
def stS:D:=.tup [.str "still", .tup [.int 1,.int 1]]
def qc (n:Str)(w:Str):List D:=[.str n,.tup [.str w],.int 1,.int 0,.non,stS]
def Mi (w:Str):D->D
 | .int i=>.tup (qc (HX i) w)
 | d=>d
theorem Ij:pC [bS,aS]=false:=by decide +kernel
theorem Jg:pC [aS,aS]=false:=by decide +kernel
theorem Fv:pC [aS,bS,aS]=false:=by decide +kernel
theorem BX {μ:Mu}{n w:Str}(hn:Any μ (.str n))(hw:Any μ (.str w)):∀ d∈qc n w,Any μ d:=ah hn (ah (bB (ah hw aD)) (ah (anyI (by decide) (by decide)) (ah (anyI (by decide) (by decide)) (ah .non (ah (bB (ah (.str (by decide +kernel) (by decide +kernel)) (ah (bB (ah (anyI (by decide) (by decide)) (ah (anyI (by decide) (by decide)) aD))) aD))) aD)))))
theorem D6 (a b c d e f:D):cutD [a,b,c,d,e,f] (some 1) none=[b,c,d,e,f]:=rfl
theorem HM (a b c d e f:D):cutD [a,b,c,d,e,f] (some 2) none=[c,d,e,f]:=rfl
theorem Jv (a b c d e f:D):cutD [a,b,c,d,e,f] none (some 5)=[a,b,c,d,e]:=rfl
theorem E8 {ns:List Str}(nd:ns.Nodup){z:Str}:fF ns (.tup [.str z,.str z])=false:=by
 simp only[fF,eP,decide_eq_false (Cy nd),NQ,Og]
def bT:FSp:=λds μ Q=>kcO ds λb ds=>kcT ds λxs ds=>kcT ds λys ds=>kcN ds (∃ (ws:List WT) (ss:List ST'),(Box μ b/\xs=ws.map WT.toD/\Kf ws/\ys=ss.map ST'.toD/\(∀ s∈ss,s.Ok/\bD (ws.map WT.nm) s.toD=true)/\ss.length<=8)/\∀ d μ',Any μ' d->bX (ws.map WT.nm) d=false->Box μ' b->Q d μ')
theorem iH:∀ ds μ Q,bT ds μ Q->ds.length=3:=λ_ _ _ h=>lcO h λ_ _ h=>lcT h λ_ _ h=>lcT h λ_ _ h=>by rw[(ecN h).1];rfl
def fh:STr:=aE (aU (aP (af (TC (.str "a")) (af (aP (af (aq L3.rIx (aq L3.rIx (ai 1) (TC (.int 0))) (TC (.int 0))) (ar))) (af (TC (.int 1)) (af (TC (.int 0)) (af (TC .non) (af (aP (af (TC (.str "still")) (af (aP (af (TC (.int 1)) (af (TC (.int 1)) (ar)))) (ar)))) (ar)))))))) (az 3)) (aE (aU (aq aM (aP (af (TC (.str "b")) (ar))) (TSl (ai 3) (jd (TC (.int 1))) (ONo))) (az 4)) (aE (aU (au cI (af (cu (cz (TC (.int 9))) (az 0) (gh) (aq aM (aP (af (aq aM (TC (.str "s")) (aq jk (TC (.str "abcdefghi")) (ai 0))) (ar))) (TSl (ai 1) (jd (TC (.int 1))) (ONo))) 1 [3]) (ar))) (az 5)) (aE (aU (cF (af (ai 5) (af (aP (af (ai 4) (af (ai 3) (ar)))) (af (aP (af (ai 3) (af (ai 3) (ar)))) (af (aP (af (ai 3) (af (ai 4) (af (ai 3) (ar))))) (af (aq aM (ai 2) (aP (af (TC .non) (ar)))) (af (cF (af (ai 3) (ar))) (af (TC .non) (af (u3) (af (ai 3) (af (TC (.int 5)) (ar)))))))))))) (az 6)) (aE (aU (aq aM (ai 6) (cF (af (aP (af (ai 3) (af (au fk (af (ai 4) (ar))) (ar)))) (af (aP (af (ai 3) (af (TSl (ai 4) (ONo) (jd (TC (.int 5)))) (ar)))) (af (aP (af (ai 3) (af (aq aM (aP (af (TC (.str "b")) (af (aP (af (TC (.str "a")) (af (TC (.str "a")) (ar)))) (ar)))) (TSl (ai 3) (jd (TC (.int 2))) (ONo))) (ar)))) (ar)))))) (az 6)) (aR (aq L3.rIx (ai 6) (au L3.ay (af (ai 0) (af (TC (.int 13)) (ar))))))))))
theorem iY:∀ ds μ Q,bT ds μ Q->fh { nx:=λ_ μ'=>RT Q .non μ',rt:=RT Q } (ini 7 ds) μ:=by
 intro ds μ Q h
 replace h:=ecO h
 obtain ⟨b,ds,rfl,h⟩:=h
 replace h:=ecT h
 obtain ⟨xs,ds,rfl,h⟩:=h
 replace h:=ecT h
 obtain ⟨ys,ds,rfl,h⟩:=h
 replace h:=ecN h
 obtain ⟨rfl,h⟩:=h
 walk_at "ini"
 unfold fh
 walk_at "go"
 obtain ⟨ws,ss,⟨hB,rfl,W,rfl,sok,sl⟩,k⟩:=h
 obtain ⟨ok,l1,_,nd⟩:=W
 have sA:=λμ=>GH (μ:=μ) sok sl
 cases ws with
 | nil=>cases l1
 | cons w ws=>
 have w0:=ok w NJ
 have nmA:∀ μ,Any μ (.str w.nm):=λμ=>kl (nr w0.2)
 have ew:w.toD=.tup [.str w.nm,.int w.p,.int w.r,oD w.m,.str w.so]:=rfl
 rw[Ob,ew]
 walk_at "go"
 simp only[D6]
 walk_at "go"
 refine ⟨by simp,?_⟩
 refine L3.comp_map (Mi w.nm) (by rw[bE];decide) (λd hd μ' sb N n=>?_) ?_
 ·obtain ⟨i,rfl,i0,i1⟩:=cp hd
  obtain ⟨c,ec,hc⟩:=K5 i0 (by omega)
  walk_at "go"
  refine ⟨by decide +kernel,nQ ec ?_⟩
  walk_at "go"
  refine ⟨by have:(⟨#[c]⟩:Str).length=1:=rfl;have e2:(NA "s").length=1:=(by decide +kernel);rw[e2,this];decide,?_⟩
  simp only[D6]
  walk_at "go"
  simp only[Mi,qc,HX,ec,RK] at n
  exact ⟨by simp,n⟩
 walk_at "go"
 simp only[HM,Jv]
 walk_at "go"
 refine ⟨?_,λq hq=>⟨?_,?_,?_⟩⟩
 ·simp only[NN,OD,NK];omega
 ·simp
 ·simp
 have G:=GrY.new (o:=.dct []) hB hq
 refine ytk G.1 (by decide) (by decide) λk1 μ1 k10 k11 B1=>?_
 walk_at "go"
 have nmA:=nmA (up μ q (.dct []))
 have sA:=sA (up μ q (.dct []))
 have aA:Any (up μ q (.dct [])) (.str aS):=.str (by decide +kernel) (by decide +kernel)
 have bA:Any (up μ q (.dct [])) (.str bS):=.str (by decide +kernel) (by decide +kernel)
 have A1:Any (up μ q (.dct [])) (.tup (qc aS w.nm)):=bB (BX aA nmA) (by simp[qc])
 have A2:Any (up μ q (.dct [])) (.tup (qc bS w.nm)):=bB (BX bA nmA) (by simp[qc])
 have A3:=BX aA nmA
 have A4:=BX bA nmA
 refine u7 (P:=λd=>Any (up μ q (.dct [])) d/\bX ((w::ws).map WT.nm) d=false) k10 k11 ?_ λx hx=>⟨_,.refl _,k x _ (hx.1.gr G.1 (.of B1)) hx.2 B1.box⟩
 refine ah ⟨bB (λd hd=>?_) ?_,pR ?_⟩ (ah ⟨bB (ah A2 (ah A1 aD)),gH Ij⟩ (ah ⟨bB (ah A1 (ah A1 aD)),gH Jg⟩ (ah ⟨bB (ah A1 (ah A2 (ah A1 aD))),gH Fv⟩ (ah ⟨bB (λd hd=>?_) ?_,dE (d:=.non) (NX _ (by simp)) rfl⟩ (ah ⟨.ls _,rfl⟩ (ah ⟨.non,rfl⟩ (ah ⟨.dct aX,rfl⟩ (ah ⟨A1,dE NJ rfl⟩ (ah ⟨anyI (by decide) (by decide),rfl⟩ (ah ⟨bB (ah A1 (ah (.ls _) aD)),dE (NM _ NJ) rfl⟩ (ah ⟨bB (ah A1 (ah (bB ?_) aD)),dE (NM _ NJ) rfl⟩ (ah ⟨bB (ah A1 (ah (bB ?_) aD)),dE (NM _ NJ) ?_⟩ aD))))))))))))
 ·obtain ⟨e,he,rfl⟩:=Od.mp hd
  obtain ⟨i,rfl,i0,i1'⟩:=cp he
  obtain ⟨c,ec,hc⟩:=K5 i0 (by omega)
  refine bB (BX ?_ nmA) (by simp[qc])
  unfold HX
  rw[ec]
  exact My (by decide +kernel) (λx hx=>by simp at hx;rw[hx];exact hc) (by have:(⟨#[c]⟩:Str).length=1:=rfl;have e2:(NA "s").length=1:=(by decide +kernel);rw[e2];show 1+(⟨#[c]⟩:Str).length<=1000;rw[this];decide)
 ·rw[NK,bE];decide
 ·rw[NK,bE];decide
 ·rcases Oo.mp hd with h | h
  ·exact sA.bW d h
  ·rw[NZ.mp h];exact .non
 ·simp only[NN,NW,OD,NK];omega
 ·exact λd hd=>A4 d (by
   have:d∈(qc bS w.nm).take 5:=hd
   exact SG this)
 ·exact ah bA (ah (bB (ah aA (ah aA aD))) λd hd=>A3 d (by
   have:d∈(qc aS w.nm).drop 2:=hd
   exact P4 this))
 ·have e:=E8 (z:=NA "a") nd
  simp only[bD,e,NQ,Og]
theorem HF (a b c:D):cutD [a,b,c] none (some 2)=[a,b]:=rfl
def cX:FSp:=λds μ Q=>match ds with
 | [.obj b,.tup [.int g,.tup xs,.tup ys]]=>∃ p:PT,(Box μ b/\p.Good/\g=p.g/\xs=p.ws.map WT.toD/\ys=p.ss.map ST'.toD)/\∀ d μ',Any μ' d->dG d=false->Box μ' b->Q d μ'
 | _=>False
theorem rg:∀ ds μ Q,cX ds μ Q->ds.length=2:=by
 unfold cX
 walk_at "ln"
def oX:STr:=aE (aU (ai 1) (sQ [2,3,4])) (aE (aU (au L3.ay (af (ai 0) (af (TC (.int 5)) (ar)))) (az 5)) (aE (bI (TB (aq rEq (ai 5) (TC (.int 0)))) (aR (aP (af (aq L3.rIx (cF (af (TC (.int 0)) (af (TC (.int 61)) (af (TUn AJ (TC (.int 1))) (af (TC (.bl true)) (af (TC (.bl false)) (af (TC .non) (af (TC (.str "3")) (af (aP (af (TC (.int 3)) (ar))) (af (aq uc (TC (.int 10)) (TC (.int 30))) (ar))))))))))) (au L3.ay (af (ai 0) (af (TC (.int 9)) (ar))))) (af (ai 3) (af (ai 4) (ar)))))) (aY)) (aE (bI (TB (aq rEq (ai 5) (TC (.int 1)))) (aR (aP (af (ai 2) (af (au cD (af (ai 0) (af (ai 3) (ar)))) (af (ai 4) (ar)))))) (aY)) (aE (bI (TB (aq rEq (ai 5) (TC (.int 2)))) (aR (aP (af (ai 2) (af (ai 3) (af (au bT (af (ai 0) (af (ai 3) (af (ai 4) (ar))))) (ar)))))) (aY)) (aE (bI (TB (aq rEq (ai 5) (TC (.int 3)))) (aE (aU (cF (af (au fk (af (ai 1) (ar))) (af (TSl (ai 1) (ONo) (jd (TC (.int 2)))) (af (aq aM (ai 1) (aP (af (TC .non) (ar)))) (af (aP (af (ai 1) (ar))) (af (aP (af (ai 3) (af (ai 2) (af (ai 4) (ar))))) (af (aP (af (ai 2) (af (ai 4) (af (ai 3) (ar))))) (ar)))))))) (az 6)) (aR (aq L3.rIx (ai 6) (au L3.ay (af (ai 0) (af (TC (.int 6)) (ar))))))) (aY)) (aR (au cN (af (ai 0) (ar)))))))))
theorem uv:∀ ds μ Q,cX ds μ Q->oX { nx:=λ_ μ'=>RT Q .non μ',rt:=RT Q } (ini 7 ds) μ:=by
 intro ds μ Q h
 unfold cX at h
 split at h
 case h_2=>exact h.elim
 rename_i b g xs ys
 walk_at "ini"
 unfold oX
 walk_at "go"
 obtain ⟨p,⟨hB,P,rfl,rfl,rfl⟩,k⟩:=h
 have W:Kf p.ws:=⟨λw h=>⟨P.ok.w w h,P.w w h⟩,P.w1,P.w6,P.wn⟩
 have S:∀ s∈p.ss,s.Ok/\bD (p.ws.map WT.nm) s.toD=true:=λs h=>⟨P.ok.s s h,P.s s h⟩
 have gA:∀ μ,Any μ (.int p.g):=λμ=>nuA P.ok.g
 refine ytk hB (by decide) (by decide) λk1 μ1 k10 k11 B1=>?_
 walk_at "go"
 refine kif (λ_=>?_) λ_=>?_
 ·refine ⟨by walk_at "ok", ?_⟩
  refine ytk B1.box (by decide) (by decide) λk2 μ2 k20 k21 B2=>?_
  walk_at "go"
  refine u7 (P:=λd=>Any μ2 d/\wiI 1 60 d=false) k20 k21 ?_ λx hx=>?_
  ·refine ah ⟨anyI (by decide) (by decide),by decide⟩ (ah ⟨anyI (by decide) (by decide),by decide⟩ (ah ⟨anyI (by decide) (by decide),by decide⟩ (ah ⟨.bl _,rfl⟩ (ah ⟨.bl _,rfl⟩ (ah ⟨.non,rfl⟩ (ah ⟨.str (by decide +kernel) (by decide +kernel),rfl⟩ (ah ⟨bB (ah (anyI (by decide) (by decide)) aD),rfl⟩ (ah ⟨anyI (by decide) (by decide),by decide⟩ aD))))))))
  ·walk_at "go"
   exact ⟨_,.refl _,k _ _ (bB (ah hx.1 (ah P.wA (ah P.sA aD)))) (za hx.2) B2.box⟩
 refine kif (λ_=>?_) λ_=>?_
 ·refine ⟨p.ws,⟨B1.box,rfl,W⟩,λd μ2 Ad Bd hB2=>?_⟩
  walk_at "go"
  exact ⟨_,.refl _,k _ _ (bB (ah (gA _) (ah Ad (ah P.sA aD)))) (mE Bd) hB2⟩
 refine kif (λ_=>?_) λ_=>?_
 ·refine ⟨p.ws,p.ss,⟨B1.box,rfl,W,rfl,S,P.s8⟩,λd μ2 Ad Bd hB2=>?_⟩
  walk_at "go"
  exact ⟨_,.refl _,k _ _ (bB (ah (gA _) (ah P.wA (ah Ad aD)))) (FU (by rw[CV];exact Bd)) hB2⟩
 refine kif (λ_=>?_) λ_=>?_
 ·simp only[HF]
  walk_at "go"
  refine ⟨by simp,?_⟩
  refine ytk B1.box (by decide) (by decide) λk2 μ2 k20 k21 B2=>?_
  walk_at "go"
  have gA:=gA μ2
  have wA:=P.wA (μ:=μ2)
  have sA:=P.sA (μ:=μ2)
  refine u7 (P:=λd=>Any μ2 d/\dG d=false) k20 k21 ?_ λx hx=>⟨_,.refl _,k x _ hx.1 hx.2 B2.box⟩
  refine ah ⟨.ls _,rfl⟩ (ah ⟨bB (ah gA (ah wA aD)),rfl⟩ (ah ⟨bB (ah gA (ah wA (ah sA (ah .non aD)))),rfl⟩ (ah ⟨bB (ah P.any aD),rfl⟩ (ah ⟨bB (ah wA (ah gA (ah sA aD))),za rfl⟩ (ah ⟨bB (ah gA (ah sA (ah wA aD))),mE ?_⟩ aD)))))
  cases e:p.ss with
  | nil=>rfl
  | cons s r=>exact fc (d:=s.toD) (by simp) rfl
 ·exact ⟨B1.box,λd μ2 Ad Bd hB2=>⟨_,.refl _,k _ _ Ad Bd hB2⟩⟩
def gN:List Str:=[NA "waya", NA "wayb", NA "wayc", NA "wayd", NA "waye", NA "wayf"]
def gS:List Str:=[NA "aaaaaaaa", NA "bbbbbbbb", NA "cccccccc", NA "dddddddd", NA "eeeeeeee", NA "ffffffff", NA "gggggggg", NA "hhhhhhhh"]
theorem Cr:∀ z∈gN,nmS z=true:=by decide +kernel
theorem Ms:∀ z∈gS,nmS z=true:=by decide +kernel
theorem Ha:gN.Nodup:=by decide +kernel
theorem KC:gS.Pairwise λa b=>ltS a b=true:=by decide +kernel
def gn (i:Nat):Str:=NA "way" ++ ⟨#[97+i]⟩
def gs (i:Nat):Str:=mv ⟨#[97+i]⟩ 8
theorem JV:(OR 6).map gn=gN:=by decide +kernel
theorem Ko:(OR 8).map gs=gS:=by decide +kernel
theorem Me {i:Int}(i0:0<=i)(i1:i < 6):L2.atI (NA "abcdef").cps.toList i=some (97+i.toNat):=by
 have:∀ j:Fin 6,L2.atI (NA "abcdef").cps.toList (j.val:Int)=some (97+j.val):=by decide +kernel
 obtain ⟨j,rfl⟩:=Ou i0
 exact this ⟨j,by omega⟩
theorem KI {i:Int}(i0:0<=i)(i1:i < 8):L2.atI (NA "abcdefgh").cps.toList i=some (97+i.toNat):=by
 have:∀ j:Fin 8,L2.atI (NA "abcdefgh").cps.toList (j.val:Int)=some (97+j.val):=by decide +kernel
 obtain ⟨j,rfl⟩:=Ou i0
 exact this ⟨j,by omega⟩
def iD (f:Nat->Str):D->D
 | .int i=>.str (f i.toNat)
 | d=>d
theorem Dk (f:Nat->Str)(n:Nat):(dm 0 n).map (iD f)=((OR n).map f).map .str:=by
 unfold dm
 rw[OG,OG]
 refine SR λi _=>?_
 simp only[Qc,iD]
 congr 2
 omega
theorem Nr:iZ 20:=⟨by decide,by decide⟩
theorem LQ:iZ 60:=⟨by decide,by decide⟩
theorem nu8:iZ 8:=⟨by decide,by decide⟩
theorem nuM:iZ 1000000:=⟨by decide,by decide⟩
theorem txC:la (NA "calm"):=⟨by decide +kernel,by decide +kernel⟩
def cR:D:=.tup [.str "calm", .tup [.int 60,.int 1],.tup [.int 60,.int 1],.int 60,.int 60,.tup [.int 60,.int 1]]
def d9:FSp:=λds μ Q=>kcO ds λb ds=>kcN ds (Box μ b/\∀ (ws:List WT) μ',ws.map WT.nm=gN->(∀ w∈ws,w.Ok/\cv w.toD=true)->cE b μ μ'->Q (.tup [.int 60,.tup (ws.map WT.toD),.tup (gS.map .str),.tup (gN.map .str),cR]) μ')
theorem mU:∀ ds μ Q,d9 ds μ Q->ds.length=1:=λ_ _ _ h=>lcO h λ_ _ h=>by rw[(ecN h).1];rfl
def ka:STr:=aE (aU (cu (cz (TC (.int 6))) (az 0) (gh) (aq aM (TC (.str "way")) (aq jk (TC (.str "abcdef")) (ai 0))) 1 []) (az 1)) (aE (aU (au cI (af (cu (iC (ai 1)) (az 0) (gh) (aP (af (ai 0) (af (TC (.int 20)) (af (TC (.int 60)) (af (TC (.int 60)) (af (aq L3.rIx (cF (af (TC (.str "line")) (af (TC (.str "turns")) (ar)))) (au L3.ay (af (ai 1) (af (TC (.int 2)) (ar))))) (ar))))))) 1 [0]) (ar))) (az 2)) (aE (aU (aP (af (TC (.str "calm")) (af (aP (af (TC (.int 60)) (af (TC (.int 1)) (ar)))) (af (aP (af (TC (.int 60)) (af (TC (.int 1)) (ar)))) (af (TC (.int 60)) (af (TC (.int 60)) (af (aP (af (TC (.int 60)) (af (TC (.int 1)) (ar)))) (ar)))))))) (az 3)) (aR (aP (af (TC (.int 60)) (af (ai 2) (af (au cI (af (cu (cz (TC (.int 8))) (az 0) (gh) (aq lg (aq jk (TC (.str "abcdefgh")) (ai 0)) (TC (.int 8))) 1 []) (ar))) (af (au cI (af (ai 1) (ar))) (af (ai 3) (ar))))))))))
theorem pO:∀ ds μ Q,d9 ds μ Q->ka { nx:=λ_ μ'=>RT Q .non μ',rt:=RT Q } (ini 4 ds) μ:=by
 intro ds μ Q h
 replace h:=ecO h
 obtain ⟨b,ds,rfl,h⟩:=h
 replace h:=ecN h
 obtain ⟨rfl,h⟩:=h
 walk_at "ini"
 unfold ka
 walk_at "go"
 obtain ⟨hB,k⟩:=h
 walk_at "go"
 refine L3.comp_map (iD gn) (by rw[bE];decide) (λd hd μ' sb N n=>?_) ?_
 ·obtain ⟨i,rfl,i0,i1⟩:=cp hd
  walk_at "go"
  refine ⟨by decide +kernel,nQ (Me i0 (by omega)) ?_⟩
  walk_at "go"
  exact ⟨by have e2:(NA "way").length=3:=(by decide +kernel);rw[e2];show 3+1<=1000000;decide,n⟩
 rw[Dk,JV]
 walk_at "go"
 refine jX hB (λr ys=>∃ (rs:List Str) (wl:List WT),r=rs.map .str/\ys=wl.map WT.toD/\(∀ z∈rs,nmS z=true)/\(∀ w∈wl,w.Ok/\cv w.toD=true)/\wl.map WT.nm++rs=gN) ⟨gN,[],rfl,rfl,Cr,(λ_ h=>nomatch h),rfl⟩ (by rw[NK];decide) ?_ ?_
 ·rintro d r ys μ' hB' ⟨rs,wl,er,rfl,hr,hw,hl⟩ N hN
  cases rs with
  | nil=>cases er
  | cons z rs=>
  cases er
  walk_at "go"
  refine ytk hB' (by decide) (by decide) λc9 μ9 c90 c91 B9=>?_
  have al4:∀ d∈LT'.map D.str,∃ z,z∈LT'/\d=.str z:=λd hd=>by obtain ⟨z,hz,rfl⟩:=Od.mp hd;exact ⟨z,hz,rfl⟩
  obtain ⟨_,e4,so,hso,rfl⟩:=cQ al4 c90 c91
  have e4:atD [.str "line", .str "turns"] c9=some (.str so):=e4
  walk_at "go"
  rw[e4]
  walk_at "go"
  have nz:=hr z NJ
  refine hN (some (WT.toD ⟨z,20,60,some 60,so⟩)) _ ⟨rs,wl++[⟨z,20,60,some 60,so⟩],rfl,by simp,(λy q=>hr y (NM _ q)),λy hy=>?_,by rw[← hl,O7];simp⟩ B9
  rcases Oo.mp hy with q | q
  ·exact hw y q
  ·rw[NZ.mp q]
   refine ⟨⟨uT nz,Nr,LQ,λi e=>by cases e;exact ⟨by decide,by decide⟩,⟨(zk so hso).1,(zk so hso).2⟩⟩,?_⟩
   show (nmS z&&(wiI 1 20 (.int 20)&&(wiI 1 60 (.int 60)&&(nwB 60 (.int 60)&&soB (.str so)))))=true
   rw[nz,He so hso];rfl
 rintro ys μ7 ⟨rs,ws,er,rfl,_,hw,hl⟩ B7
 cases rs with
 | cons _ _=>cases er
 | nil=>
 rw[OI] at hl
 walk_at "go"
 refine L3.comp_map (iD gs) (by rw[bE];decide) (λd hd μ' sb N n=>?_) ?_
 ·obtain ⟨i,rfl,i0,i1⟩:=cp hd
  walk_at "go"
  refine ⟨by decide +kernel,nQ (KI i0 (by omega)) ?_⟩
  walk_at "go"
  exact ⟨by show 1<=1000;decide,n⟩
 rw[Dk,Ko]
 walk_at "go"
 exact ⟨_,.refl _,k ws _ hl hw B7⟩
def gSn (n:Str):ST':=⟨n,gN,8,1000000,some 1000000,NA "calm", [.tup [.int 60,.int 1],.tup [.int 60,.int 1],.int 60,.int 60,.tup [.int 60,.int 1]]⟩
theorem Nl:fj cR=true:=qZ.b (w:=NA "calm") (.calm (p:=60) (q:=1) (r:=60) (s:=1) (x:=60) (y:=1) (l:=60) (h:=60) ⟨by decide,by decide,by decide,by decide,by decide⟩ ⟨by decide,by decide,by decide,by decide,by decide⟩ (by decide) ⟨⟨by decide,by decide,by decide,by decide,by decide⟩,by decide⟩ (by decide) (by decide) (by decide))
theorem Kt:lW (.tup [.int 60,.int 1]):=.inr ⟨60,1,rfl,⟨by decide,by decide⟩,by decide,by decide⟩
theorem JW {n:Str}(h:nmS n=true):(gSn n).Ok:=⟨uT h,λz hz=>uT (Cr z hz),(show gN.length<=8 by decide),nu8,nuM,λi e=>by cases e;exact nuM,txC,ah Kt (ah Kt (ah (.inl ⟨60,rfl,by decide,by decide⟩) (ah (.inl ⟨60,rfl,by decide,by decide⟩) (ah Kt aD)))),(show 5<=6 by decide)⟩
theorem Lc {n:Str}(h:nmS n=true):bD gN (gSn n).toD=true:=by
 show (nmS n&&(fF gN (.tup (gN.map .str))&&(wiI 1 8 (.int 8)&&(wiI 0 1000000 (.int 1000000)&&(nwB 1000000 (.int 1000000)&&fj cR)))))=true
 rw[h,uP Ha Cr (by decide) (Rw _),Nl];rfl
theorem great {ws:List WT}(e:ws.map WT.nm=gN)(h:∀ w∈ws,w.Ok/\cv w.toD=true):(PT.mk 60 ws (gS.map gSn)).Good:=by
 have l:ws.length=6:=by have:=congrArg PY e;rw[NK] at this;exact this
 have hs:∀ s∈gS.map gSn,∃ n,s=gSn n/\nmS n=true:=λs hs=>by obtain ⟨n,hn,rfl⟩:=Od.mp hs;exact ⟨n,rfl,Ms n hn⟩
 refine ⟨⟨LQ,λw hw=>(h w hw).1,λs q=>?_,by show ws.length<=8;omega,by show (gS.map gSn).length<=8;rw[NK];decide⟩,(show (1:Int)<=60 by decide),(show (60:Int)<=60 by decide),by show 1<=ws.length;omega,by show ws.length<=6;omega,λw hw=>(h w hw).2,by show (ws.map WT.nm).Nodup;rw[e];exact Ha,by show (gS.map gSn).length<=8;rw[NK];decide,λs q=>?_,?_,λs q=>?_⟩
 ·obtain ⟨n,rfl,hn⟩:=hs s q
  exact JW hn
 ·obtain ⟨n,rfl,hn⟩:=hs s q
  show bD (ws.map WT.nm) _=true
  rw[e];exact Lc hn
 ·show ((gS.map gSn).map ST'.nm).Pairwise _
  rw[OG,show (ST'.nm ∘ gSn)=id from rfl,List.map_id]
  exact KC
 ·obtain ⟨n,rfl,hn⟩:=hs s q
  show gN.Sublist (ws.map WT.nm)/\gN≠[]
  rw[e];exact ⟨Rw _,by decide⟩
def cB:FSp:=λds μ Q=>kcO ds λb ds=>kcN ds (Box μ b/\∀ d μ',Any μ' d->dG d=true->cE b μ μ'->Q d μ')
theorem kr:∀ ds μ Q,cB ds μ Q->ds.length=1:=λ_ _ _ h=>lcO h λ_ _ h=>by rw[(ecN h).1];rfl
def gT:STr:=aE (aU (au d9 (af (ai 0) (ar))) (sQ [1,2,3,4,5])) (aR (aP (af (ai 1) (af (ai 2) (af (au cI (af (cu (iC (ai 3)) (az 0) (gh) (aP (af (ai 0) (af (ai 1) (af (TC (.int 8)) (af (aq uc (TC (.int 10)) (TC (.int 6))) (af (aq uc (TC (.int 10)) (TC (.int 6))) (af (ai 2) (ar)))))))) 1 [4,5]) (ar))) (ar))))))
theorem kJ:∀ ds μ Q,cB ds μ Q->gT { nx:=λ_ μ'=>RT Q .non μ',rt:=RT Q } (ini 6 ds) μ:=by
 intro ds μ Q h
 replace h:=ecO h
 obtain ⟨b,ds,rfl,h⟩:=h
 replace h:=ecN h
 obtain ⟨rfl,h⟩:=h
 walk_at "ini"
 unfold gT
 walk_at "go"
 obtain ⟨hB,k⟩:=h
 refine ⟨hB,λws μ1 e hw B1=>?_⟩
 walk_at "go"
 have G:=great e hw
 refine zQ gS D.str (λn=>(gSn n).toD) rfl (by decide) (λn hn μ' _ N nn=>?_) ?_
 ·walk_at "go"
  exact ⟨by walk_at "ok", by walk_at "ok", nn⟩
 walk_at "go"
 have em:gS.map (λn=>(gSn n).toD)=(gS.map gSn).map ST'.toD:=by rw[OG];rfl
 rw[em]
 exact ⟨_,.refl _,k _ _ G.any G.b B1⟩
def bG:FSp:=λds μ Q=>match ds with
 | [d,.bl e]=>(Any μ d/\dG d=e)/\Q (.bl true) μ
 | _=>False
theorem pA:∀ ds μ Q,bG ds μ Q->ds.length=2:=by
 unfold bG
 walk_at "ln"
def lB:STr:=aE (aU (au L3.eS (af (ai 0) (ar))) (az 2)) (aR (cZ (TUn (cU "bool") (ai 2)) (aq rEq (ai 2) (ai 1))))
theorem rW:∀ ds μ Q,bG ds μ Q->lB { nx:=λ_ μ'=>RT Q .non μ',rt:=RT Q } (ini 3 ds) μ:=by
 intro ds μ Q h
 unfold bG at h
 split at h
 case h_2=>exact h.elim
 rename_i d e
 walk_at "ini"
 unfold lB
 walk_at "go"
 obtain ⟨⟨t,rfl⟩,k⟩:=h
 refine ⟨t,?_⟩
 walk_at "go"
 rw[beq_self_eq_true]
 exact ⟨_,.refl _,k⟩
abbrev fM:FSp:=L3.fM
theorem rL:∀ ds μ Q,fM ds μ Q->ds.length=1:=L3.rL
def CK:STr:=aE (qa (cz (aq aM (TC (.int 1)) (au e7 (af (TSl (ai 0) (ONo) (jd (TC (.int 30)))) (ar))))) (az 1) (aE (aU (au L3.mC (af (ai 0) (af (ai 1) (ar)))) (az 2)) (aE (aU (au L3.j5 (af (ai 2) (af (TC (.int 60)) (af (TC (.int 8)) (ar))))) (az 3)) (aE (bI (cg (TB (au bG (af (ai 3) (af (TC (.bl true)) (ar)))))) (aR (TC (.bl false))) (aY)) (aE (qa (cz (TC (.int 3))) (az 4) (bI (cg (TB (au bG (af (au cX (af (ai 2) (af (ai 3) (ar)))) (af (TC (.bl false)) (ar)))))) (aR (TC (.bl false))) (aY))) (bI (TOr (cg (TB (au bG (af (au cB (af (ai 2) (ar))) (af (TC (.bl true)) (ar)))))) (cg (TB (au bG (af (ai 3) (af (TC (.bl true)) (ar))))))) (aR (TC (.bl false))) (aY))))))) (aR (TC (.bl true)))
theorem JQ:∀ ds μ Q,fM ds μ Q->CK { nx:=λ_ μ'=>RT Q .non μ',rt:=RT Q } (ini 5 ds) μ:=by
 intro ds μ Q h
 replace h:=ecL h
 obtain ⟨_,ds,rfl,h⟩:=h
 replace h:=ecN h
 obtain ⟨rfl,h⟩:=h
 obtain ⟨⟨ns,rfl,hn⟩,k⟩:=h
 walk_at "ini"
 unfold CK
 walk_at "go"
 have cl:=oS (ns.map D.int) none (some 30)
 rw[NK] at cl
 refine ⟨⟨by omega,by omega⟩,?_⟩
 refine f9 (λr ρ μ=>(∀ d∈r,∃ j:Int,d=.int j/\0<=j/\j<=1000)/\∃ v1 v2 v3 v4,ρ=[some (.ls (ns.map .int)),v1,v2,v3,v4]) ?_ ?_ _ _ _ ⟨λd hd=>?_,_,_,_,_,rfl⟩
 ·rintro ρ μ ⟨_,v1,v2,v3,v4,rfl⟩
  walk_at "go"
  exact ⟨μ,.refl _,k μ⟩
 ·rintro d r ρ μ N ⟨hd,v1,v2,v3,v4,rfl⟩ hN
  obtain ⟨j,rfl,j0,j1⟩:=hd d NJ
  have hr:∀ d∈r,∃ j:Int,d=.int j/\0<=j/\j<=1000:=λd h=>hd d (NM _ h)
  walk_at "go"
  refine ⟨⟨ns,rfl,j0,j1⟩,λb μ1 hp hB ho=>?_⟩
  walk_at "go"
  refine ⟨⟨hB,⟨by decide,by decide⟩,by decide,by decide⟩,λp μ2 P B2=>?_⟩
  walk_at "go"
  refine ⟨⟨P.any,P.b⟩,?_⟩
  walk_at "go"
  refine f9 (λr ρ μ=>∃ v4,Box μ b/\ρ=[some (.ls (ns.map .int)),some (.int j),some (.obj b),some p.toD,v4]) ?_ ?_ _ _ _ ⟨_,B2.box,rfl⟩
  ·rintro ρ μ3 ⟨v4,hB3,rfl⟩
   walk_at "go"
   refine ⟨hB3,λd μ4 Ad Bd B4=>?_⟩
   walk_at "go"
   refine ⟨⟨Ad,Bd⟩,?_⟩
   walk_at "go"
   refine ⟨⟨P.any,P.b⟩,?_⟩
   walk_at "go"
   exact hN _ _ ⟨hr,_,_,_,_,rfl⟩
  ·rintro d r2 ρ μ3 N2 ⟨v4,hB3,rfl⟩ hN2
   walk_at "go"
   refine ⟨p,⟨hB3,P,rfl,rfl,rfl⟩,λd μ4 Ad Bd hB4=>?_⟩
   walk_at "go"
   refine ⟨⟨Ad,Bd⟩,?_⟩
   walk_at "go"
   exact hN2 _ _ ⟨_,hB4,rfl⟩
 ·obtain ⟨j,rfl,j0,j1⟩:=cp hd
  exact ⟨j,rfl,j0,by omega⟩
theorem kG (ns:List Int)(h:ns.length<=63)(μ:Mu):fM [.ls (ns.map .int)] μ (λd _=>d=.bl true):=L3.kG ns h μ
end Kk
namespace Kk
open PySem L2 L3
theorem Mv {α:Type}{us:List α}(h:us.length=1):∃ x0,us=[x0]:=match us,h with | [x0],_=>⟨x0,rfl⟩
theorem Lx {α:Type}{us:List α}(h:us.length=2):∃ x0 x1,us=[x0,x1]:=match us,h with | [x0,x1],_=>⟨x0,x1,rfl⟩
theorem LM {α:Type}{us:List α}(h:us.length=3):∃ x0 x1 x2,us=[x0,x1,x2]:=match us,h with | [x0,x1,x2],_=>⟨x0,x1,x2,rfl⟩
theorem KH {α:Type}{us:List α}(h:us.length=4):∃ x0 x1 x2 x3,us=[x0,x1,x2,x3]:=match us,h with | [x0,x1,x2,x3],_=>⟨x0,x1,x2,x3,rfl⟩
def top (i:Nat):Stmt:=PySem.Challenge.pw_swellways_k21_how_a_plan_stands.main.body.getD i (.Pass ⟨0,0,0,0⟩)
abbrev oo:Stmt:=top 3
abbrev fw:Stmt:=top 4
abbrev jm:Stmt:=top 5
abbrev kM:Stmt:=top 6
abbrev lM:Stmt:=top 7
abbrev ju:Stmt:=top 8
abbrev Bv:Stmt:=top 9
abbrev u0:Stmt:=top 28
abbrev eE:Stmt:=top 29
abbrev eM:Stmt:=top 30
abbrev jV:Stmt:=top 31
abbrev h9:Stmt:=top 32
abbrev qH:Stmt:=top 33
abbrev eO:Stmt:=top 43
abbrev qA:Stmt:=top 44
abbrev uO:Stmt:=top 45
abbrev gL:Stmt:=top 46
abbrev ql:Stmt:=top 47
abbrev hZ:Stmt:=top 48
abbrev eu:Stmt:=top 49
abbrev qj:Stmt:=top 50
abbrev nq:Stmt:=top 52
abbrev lu:Stmt:=top 53
abbrev jK:Stmt:=top 54
abbrev lK:Stmt:=top 55
abbrev gZ:Stmt:=top 56
abbrev lj:Stmt:=top 57
abbrev oz:Stmt:=top 58
abbrev fJ:Stmt:=top 59
abbrev fx:Stmt:=top 60
abbrev iq:Stmt:=top 61
abbrev eF:Stmt:=top 62
abbrev cP:Stmt:=top 63
abbrev nO:Stmt:=top 64
abbrev cY:Stmt:=top 65
abbrev eG:Stmt:=top 66
abbrev lT:Stmt:=top 67
abbrev GO:Stmt:=top 68
set_option genInjectivity false in
set_option genSizeOfSpec false in
structure Adr where
 oh:Addr
 ya:N0
 fB:Addr
 jN:N0
 jf:Addr
 pL:N0
 qy:Addr
 z9:N0
 lq:Addr
 vh:N0
 jj:Addr
 p7:N0
 C6:Addr
 Jq:N0
 t7:Addr
 Dx:N0
 eB:Addr
 ie:N0
 eL:Addr
 i9:N0
 kq:Addr
 rK:N0
 ib:Addr
 nI:N0
 qO:Addr
 AX:N0
 eN:Addr
 jb:N0
 qG:Addr
 zA:N0
 vY:Addr
 BY:N0
 nM:Addr
 wV:N0
 qt:Addr
 zZ:N0
 lP:Addr
 vE:N0
 jl:Addr
 pD:N0
 qx:Addr
 zI:N0
 mL:Addr
 wK:N0
 lF:Addr
 vj:N0
 jP:Addr
 rf:N0
 lQ:Addr
 uZ:N0
 gR:Addr
 mq:N0
 lN:Addr
 uw:N0
 n6:Addr
 xQ:N0
 jh:Addr
 pJ:N0
 lL:Addr
 tS:N0
 ix:Addr
 oY:N0
 gO:Addr
 lY:N0
 fo:Addr
 jF:N0
 oR:Addr
 xY:N0
 ki:Addr
 rZ:N0
 gW:Addr
 mf:N0
 ly:Addr
 vT:N0
 Bu:Addr
 Hc:N0
structure Txt (Pm:UM) (K:NB) (mg:Str->Option NC) (t:Adr):Prop where
 xj:mg "is_whole" = some (.ref t.oh)
 wo:Fun K "is_whole" "is_whole" oo t.oh t.ya
 jW:mg "is_whole_within" = some (.ref t.fB)
 kd:Fun K "is_whole_within" "is_whole_within" fw t.fB t.jN
 qd:mg "is_tuple_of" = some (.ref t.jf)
 pz:Fun K "is_tuple_of" "is_tuple_of" jm t.jf t.pL
 Aq:mg "is_name" = some (.ref t.qy)
 AZ:Fun K "is_name" "is_name" kM t.qy t.z9
 vP:mg "common_of" = some (.ref t.lq)
 tX:Fun K "common_of" "common_of" lM t.lq t.vh
 pT:mg "is_fraction" = some (.ref t.jj)
 qe:Fun K "is_fraction" "is_fraction" ju t.jj t.p7
 I0:mg "less" = some (.ref t.C6)
 Jy:Fun K "less" "less" Bv t.C6 t.Jq
 CY:mg "top_of" = some (.ref t.t7)
 D7:Fun K "top_of" "top_of" u0 t.t7 t.Dx
 iN:mg "is_fraction_within" = some (.ref t.eB)
 ig:Fun K "is_fraction_within" "is_fraction_within" eE t.eB t.ie
 ja:mg "is_fraction_above" = some (.ref t.eL)
 je:Fun K "is_fraction_above" "is_fraction_above" eM t.eL t.i9
 tH:mg "is_growing" = some (.ref t.kq)
 su:Fun K "is_growing" "is_growing" jV t.kq t.rK
 m9:mg "is_calm_span" = some (.ref t.ib)
 nH:Fun K "is_calm_span" "is_calm_span" h9 t.ib t.nI
 AB:mg "is_rule" = some (.ref t.qO)
 zJ:Fun K "is_rule" "is_rule" qH t.qO t.AX
 i8:mg "is_none_or_within" = some (.ref t.eN)
 i7:Fun K "is_none_or_within" "is_none_or_within" eO t.eN t.jb
 AA:mg "is_sort" = some (.ref t.qG)
 z8:Fun K "is_sort" "is_sort" qA t.qG t.zA
 Dg:mg "is_way" = some (.ref t.vY)
 CW:Fun K "is_way" "is_way" uO t.vY t.BY
 xI:mg "are_ways" = some (.ref t.nM)
 wy:Fun K "are_ways" "are_ways" gL t.nM t.wV
 zF:mg "is_road" = some (.ref t.qt)
 AU:Fun K "is_road" "is_road" ql t.qt t.zZ
 vG:mg "is_sender" = some (.ref t.lP)
 vS:Fun K "is_sender" "is_sender" hZ t.lP t.vE
 pW:mg "are_senders" = some (.ref t.jl)
 pS:Fun K "are_senders" "are_senders" eu t.jl t.pD
 zy:mg "is_plan" = some (.ref t.qx)
 AK:Fun K "is_plan" "is_plan" qj t.qx t.zI
 wD:mg "_law_box" = some (.ref t.mL)
 wM:Fun K "_law_box" "_law_box" nq t.mL t.wK
 vN:mg "_law_take" = some (.ref t.lF)
 tZ:Fun K "_law_take" "_law_take" lu t.lF t.vj
 rj:mg "_law_names" = some (.ref t.jP)
 rP:Fun K "_law_names" "_law_names" jK t.jP t.rf
 vA:mg "_law_part" = some (.ref t.lQ)
 uN:Fun K "_law_part" "_law_part" lK t.lQ t.uZ
 l5:mg "_law_fraction" = some (.ref t.gR)
 mj:Fun K "_law_fraction" "_law_fraction" gZ t.gR t.mq
 vU:mg "_law_rule" = some (.ref t.lN)
 vm:Fun K "_law_rule" "_law_rule" lj t.lN t.uw
 wB:mg "_law_way" = some (.ref t.n6)
 wg:Fun K "_law_way" "_law_way" oz t.n6 t.xQ
 qf:mg "_law_sender" = some (.ref t.jh)
 pV:Fun K "_law_sender" "_law_sender" fJ t.jh t.pJ
 vb:mg "_law_plan" = some (.ref t.lL)
 uy:Fun K "_law_plan" "_law_plan" fx t.lL t.tS
 oH:mg "_law_strange" = some (.ref t.ix)
 mN:Fun K "_law_strange" "_law_strange" iq t.ix t.oY
 mm:mg "_law_ways_bad" = some (.ref t.gO)
 mi:Fun K "_law_ways_bad" "_law_ways_bad" eF t.gO t.lY
 jD:mg "_law_senders_bad" = some (.ref t.fo)
 jB:Fun K "_law_senders_bad" "_law_senders_bad" cP t.fo t.jF
 xo:mg "_law_bad" = some (.ref t.oR)
 xi:Fun K "_law_bad" "_law_bad" nO t.oR t.xY
 tN:mg "_law_great" = some (.ref t.ki)
 tK:Fun K "_law_great" "_law_great" cY t.ki t.rZ
 me:mg "_law_greatest" = some (.ref t.gW)
 l7:Fun K "_law_greatest" "_law_greatest" eG t.gW t.mf
 ue:mg "_law_told" = some (.ref t.ly)
 uC:Fun K "_law_told" "_law_told" lT t.ly t.vT
 MA:mg "law" = some (.ref t.Bu)
 yQ:Fun K "law" "law" GO t.Bu t.Hc
 vf:mg "abs" = none
 CQ:mg "all" = none
 D1:mg "bool" = none
 GK:mg "int" = none
 bp:mg "isinstance" = none
 fS:mg "len" = none
 sI:mg "list" = none
 fG:mg "range" = none
 GX:mg "set" = none
 vH:mg "sorted" = none
 BC:mg "str" = none
 ck:mg "tuple" = none
 HL:GV K mg "BEAT" (.int 2)
 Fm:GV K mg "BEGIN" (.int 3)
 IS:GV K mg "GRID" (.int 0)
 AL:GV K mg "LETTERS" (.str "abcdefghijklmnopqrstuvwxyz")
 ng:GV K mg "LONGEST_NAME" (.int 8)
 Jo:GV K mg "MANY" (.int 4)
 Jk:GV K mg "MARK" (.int 3)
 xS:GV K mg "MOST" (.int 60)
 uV:GV K mg "MOST_BEAT" (.int 8)
 jL:GV K mg "MOST_COUNT" (.int 1000000)
 ux:GV K mg "MOST_GRID" (.int 60)
 uH:GV K mg "MOST_MARK" (.int 60)
 vC:GV K mg "MOST_PACE" (.int 20)
 uU:GV K mg "MOST_ROOM" (.int 60)
 nE:GV K mg "MOST_SENDERS" (.int 8)
 vV:GV K mg "MOST_WAYS" (.int 6)
 oe:GV K mg "NAME" (.int 0)
 mJ:GV K mg "NOUGHT" (.tup [.int 0,.int 1])
 oP:GV K mg "ONE" (.tup [.int 1,.int 1])
 Ju:GV K mg "PACE" (.int 1)
 Jb:GV K mg "ROAD" (.int 1)
 HZ:GV K mg "ROOM" (.int 2)
 JH:GV K mg "RULE" (.int 5)
 AM:GV K mg "SENDERS" (.int 2)
 JF:GV K mg "SORT" (.int 4)
 CA:GV K mg "WAYS" (.int 1)
 qF:GT Pm K mg "LENGTHS" [((NA "still"),(.int 2:D)),((NA "step"),(.int 5:D)),((NA "swell"),(.int 5:D)),((NA "heed"),(.int 5:D)),((NA "calm"),(.int 6:D))]
local macro_rules | `(tactic| walk_at "sc")=>`(tactic| exact Lr rfl rfl rfl rfl (by decide +kernel))
local macro_rules | `(tactic| walk_at "b1")=>`(tactic| (rename_i hl;obtain ⟨x0,e⟩:=Mv hl;subst e;rfl))
local macro_rules | `(tactic| walk_at "b2")=>`(tactic| (rename_i hl;obtain ⟨x0,x1,e⟩:=Lx hl;subst e;rfl))
local macro_rules | `(tactic| walk_at "b3")=>`(tactic| (rename_i hl;obtain ⟨x0,x1,x2,e⟩:=LM hl;subst e;rfl))
local macro_rules | `(tactic| walk_at "b4")=>`(tactic| (rename_i hl;obtain ⟨x0,x1,x2,x3,e⟩:=KH hl;subst e;rfl))
section
variable {P:NR} {w:N6} {K:NB} {mg:Str->Option NC} {base:Heap} {t:Adr}
theorem vw:aJ ["thing"] ["thing"] (aw oo):=by walk_at "sc"
theorem jz (T:Txt w.params K mg t):aV P w K mg base 1 "is_whole" ["thing"] L3.cf:=aN T.xj T.wo vw L3.nJ L3.pj (λ_ _ _ _ _ _ _ _=>by walk_at "b1") λ_ _ _ _ _ _ hr hu=>
 av (aB (dq (dg rfl T.bp rfl (ag 0) rfl T.GK rfl) (du (xD (dg rfl T.bp rfl (ag 0) rfl T.D1 rfl)))))
theorem jx:aJ ["thing", "least", "most"] ["thing", "least", "most"] (aw fw):=by walk_at "sc"
theorem ba (T:Txt w.params K mg t):aV P w K mg base 2 "is_whole_within" ["thing", "least", "most"] L3.aL:=aN T.jW T.kd jx L3.hE L3.ip (λ_ _ _ _ _ _ _ _=>by walk_at "b3") λ_ _ _ _ _ _ hr hu=>
 av (aB (dq (ak (jz T) hr rfl (ae (ag 0) (aj))) (du (D2 qo qo (dj _) (dj _) (ag 1) (ag 0) (ag 2)))))
theorem mM:aJ ["thing", "many"] ["thing", "many"] (aw jm):=by walk_at "sc"
theorem dO (T:Txt w.params K mg t):aV P w K mg base 1 "is_tuple_of" ["thing", "many"] L3.bw:=aN T.qd T.pz mM L3.j7 L3.kU (λ_ _ _ _ _ _ _ _=>by walk_at "b2") λ_ _ _ _ _ _ hr hu=>
 av (aB (dq (dg rfl T.bp rfl (ag 0) rfl T.ck rfl) (du (le_eq hu (bf bP cM rfl T.fS rfl (ae (ag 0) (aj))) (ag 1)))))
theorem yq:aJ ["thing"] ["thing"] (aw kM):=by walk_at "sc"
theorem kz (T:Txt w.params K mg t):aV P w K mg base 1 "is_name" ["thing"] L3.cA:=aN T.Aq T.AZ yq L3.pH L3.qX (λ_ _ _ _ _ _ _ _=>by walk_at "b1") λ_ _ _ _ _ _ hr hu=>
 ao (bu (LW.lt (eA (bb (bh (dg rfl T.bp rfl (ag 0) rfl T.BC rfl))) (cS (bb (lt_chain qo qo (dj _) (dj _) (le_int) (bf bP cM rfl T.fS rfl (ae (ag 0) (aj))) (bc rfl T.ng)))))) (av (aB (bK))) (aO)) (av (aB (bf (kW rfl) sL rfl T.CQ rfl (ae (b8 (fsc:=aw kM) ["thing"] ["sign"] 1 [] rfl rfl (HV (ag 0)) (λcl C s₀ H₀ ex=>⟨bO 0 (show (["sign"]:List Str).Nodup from by decide +kernel),cj,JT (ag 0) (bc rfl T.AL)⟩) rfl rfl (by decide +kernel)) (aj)))))
theorem cy:aJ ["one", "other", "divisor", "rest", "behind"] ["one", "other"] (aw lM):=by walk_at "sc"
theorem vz (T:Txt w.params K mg t):aV P w K mg base 1 "common_of" ["one", "other"] L3.eR:=aN T.vP T.tX cy L3.pK L3.tG (λ_ _ _ _ _ _ _ _=>by walk_at "b2") λ_ _ _ _ _ _ hr hu=>
 ao (aH 2 cy.nd (bf iL kb rfl T.vf rfl (ae (ag 0) (aj)))) (ao (aH 3 cy.nd (bf iL kb rfl T.vf rfl (ae (ag 1) (aj)))) (ao (tW Pq (uo (ag 3) (le_int)) (ao (aH 4 cy.nd (dJ (ag 2) (ag 3))) (ao (aH 2 cy.nd (ag 3)) (av (aH 3 cy.nd (ag 4)))))) (av (aB (ag 2)))))
theorem mK:aJ ["thing"] ["thing"] (aw ju):=by walk_at "sc"
theorem pM (T:Txt w.params K mg t):aV P w K mg base 2 "is_fraction" ["thing"] L3.cw:=aN T.pT T.qe mK L3.jI L3.kR (λ_ _ _ _ _ _ _ _=>by walk_at "b1") λ_ _ _ _ _ _ hr hu=>
 ao (bu (LW.lt (eA (bb (bh (ak (dO T) hr rfl (ae (ag 0) (ae (le_int) (aj)))))) (eA (bb (bh (ak (jz T) hr rfl (ae (aF (ag 0) (le_int)) (aj))))) (cS (bb (bh (ak (jz T) hr rfl (ae (aF (ag 0) (le_int)) (aj))))))))) (av (aB (bK))) (aO)) (av (aB (dq (Mm (aF (ag 0) (le_int)) (le_int)) (du (le_eq hu (ak (vz T) hr rfl (ae (aF (ag 0) (le_int)) (ae (aF (ag 0) (le_int)) (aj)))) (le_int))))))
theorem E3:aJ ["one", "other"] ["one", "other"] (aw Bv):=by walk_at "sc"
theorem rD (T:Txt w.params K mg t):aV P w K mg base 1 "less" ["one", "other"] L3.cc:=aN T.I0 T.Jy E3 L3.xG L3.zL (λ_ _ _ _ _ _ _ _=>by walk_at "b2") λ_ _ _ _ _ _ hr hu=>
 av (aB (Lj (le_mul (aF (ag 0) (le_int)) (aF (ag 1) (le_int))) (le_mul (aF (ag 1) (le_int)) (aF (ag 0) (le_int)))))
theorem z5:aJ ["rule"] ["rule"] (aw u0):=by walk_at "sc"
theorem vq (T:Txt w.params K mg t):aV P w K mg base 1 "top_of" ["rule"] L3.cV:=aN T.CY T.D7 z5 L3.rR L3.uX (λ_ _ _ _ _ _ _ _=>by walk_at "b1") λ_ _ _ _ _ _ hr hu=>
 av (aB (aF (ag 0) (sP (bf bP cM rfl T.fS rfl (ae (ag 0) (aj))) (le_int))))
theorem hC:aJ ["thing", "least", "most"] ["thing", "least", "most"] (aw eE):=by walk_at "sc"
theorem bQ (T:Txt w.params K mg t):aV P w K mg base 3 "is_fraction_within" ["thing", "least", "most"] L3.aI:=aN T.iN T.ig hC L3.fO L3.gb (λ_ _ _ _ _ _ _ _=>by walk_at "b3") λ_ _ _ _ _ _ hr hu=>
 av (aB (dq (ak (pM T) hr rfl (ae (ag 0) (aj))) (dq (xD (ak (rD T) hr rfl (ae (ag 0) (ae (ag 1) (aj))))) (du (xD (ak (rD T) hr rfl (ae (ag 2) (ae (ag 0) (aj)))))))))
theorem hX:aJ ["thing", "bound", "most"] ["thing", "bound", "most"] (aw eM):=by walk_at "sc"
theorem cH (T:Txt w.params K mg t):aV P w K mg base 4 "is_fraction_above" ["thing", "bound", "most"] L3.aK:=aN T.ja T.je hX L3.fQ L3.gw (λ_ _ _ _ _ _ _ _=>by walk_at "b3") λ_ _ _ _ _ _ hr hu=>
 av (aB (dq (ak (bQ T) hr rfl (ae (ag 0) (ae (ag 1) (ae (ag 2) (aj))))) (du (ak (rD T) hr rfl (ae (ag 1) (ae (ag 0) (aj)))))))
theorem fN:aJ ["thing", "most", "least"] ["thing"] (aw jV):=by walk_at "sc"
theorem rF (T:Txt w.params K mg t):aV P w K mg base 5 "is_growing" ["thing"] L3.bF:=aN T.tH T.su fN L3.k7 L3.ml (λ_ _ _ _ _ _ _ _=>by walk_at "b1") λ_ _ _ _ _ _ hr hu=>
 ao (aH 1 fN.nd (aC (ae (bc rfl T.xS) (ae (le_int) (aj))))) (ao (bu (bb (bh (ak (bQ T) hr rfl (ae (ak (vq T) hr rfl (ae (ag 0) (aj))) (ae (bc rfl T.oP) (ae (ag 1) (aj))))))) (av (aB (bK))) (aO)) (ao (aH 2 fN.nd (HR (lt_eq hu (aF (ag 0) (le_int)) (le_str)) (bc rfl T.oP) (bc rfl T.mJ))) (av (aB (dq (ak (bQ T) hr rfl (ae (aF (ag 0) (le_int)) (ae (bc rfl T.oP) (ae (ak (vq T) hr rfl (ae (ag 0) (aj))) (aj))))) (du (ak (cH T) hr rfl (ae (aF (ag 0) (le_int)) (ae (ag 2) (ae (ag 1) (aj)))))))))))
theorem ma:aJ ["low", "high"] ["low", "high"] (aw h9):=by walk_at "sc"
theorem nS (T:Txt w.params K mg t):aV P w K mg base 3 "is_calm_span" ["low", "high"] L3.cn:=aN T.m9 T.nH ma L3.jw L3.jS (λ_ _ _ _ _ _ _ _=>by walk_at "b2") λ_ _ _ _ _ _ hr hu=>
 av (aB (dq (ak (ba T) hr rfl (ae (ag 1) (ae (le_int) (ae (bc rfl T.xS) (aj))))) (du (ak (ba T) hr rfl (ae (ag 0) (ae (le_int) (ae (ag 1) (aj))))))))
theorem o4:aJ ["thing", "word"] ["thing"] (aw qH):=by walk_at "sc"
theorem z6 (T:Txt w.params K mg t):aV P w K mg base 6 "is_rule" ["thing"] L3.eZ:=aN T.AB T.zJ o4 L3.pE L3.rQ (λ_ _ _ _ _ _ _ _=>by walk_at "b1") λ_ _ _ _ _ _ hr hu=>
 ao (bu (LW.lt (eA (bb (bh (dg rfl T.bp rfl (ag 0) rfl T.ck rfl))) (eA (lt_eq hu (bf bP cM rfl T.fS rfl (ae (ag 0) (aj))) (le_int)) (cS (bb (bh (dg rfl T.bp rfl (aF (ag 0) (le_int)) rfl T.BC rfl))))))) (av (aB (bK))) (aO)) (ao (aH 1 o4.nd (aF (ag 0) (le_int))) (ao (bu (LW.lt (eA (vK rfl T.qF (ag 1)) (cS (KZ hu (bf bP cM rfl T.fS rfl (ae (ag 0) (aj))) (BR rfl T.qF (ag 1)))))) (av (aB (bK))) (aO)) (ao (bu (lt_eq hu (ag 1) (le_str)) (av (aB (ak (bQ T) hr rfl (ae (aF (ag 0) (le_int)) (ae (bc rfl T.oP) (ae (aC (ae (bc rfl T.xS) (ae (le_int) (aj)))) (aj))))))) (aO)) (ao (bu (bb (bh (ak (rF T) hr rfl (ae (ag 0) (aj))))) (av (aB (bK))) (aO)) (ao (bu (lt_eq hu (ag 1) (le_str)) (av (aB (ak (nS T) hr rfl (ae (aF (ag 0) (le_int)) (ae (aF (ag 0) (le_int)) (aj)))))) (aO)) (ao (bu (lt_eq hu (ag 1) (le_str)) (av (aB (ak (cH T) hr rfl (ae (aF (ag 0) (le_int)) (ae (bc rfl T.mJ) (ae (bc rfl T.oP) (aj))))))) (aO)) (av (aB (dq (ak (cH T) hr rfl (ae (aF (ag 0) (le_int)) (ae (bc rfl T.mJ) (ae (bc rfl T.oP) (aj))))) (du (ak (rD T) hr rfl (ae (aF (ag 0) (le_int)) (ae (bc rfl T.oP) (aj))))))))))))))
theorem hW:aJ ["thing", "most"] ["thing", "most"] (aw eO):=by walk_at "sc"
theorem eK (T:Txt w.params K mg t):aV P w K mg base 3 "is_none_or_within" ["thing", "most"] L3.bo:=aN T.i8 T.i7 hW L3.fP L3.gu (λ_ _ _ _ _ _ _ _=>by walk_at "b2") λ_ _ _ _ _ _ hr hu=>
 av (aB (K0 (L8 (ag 0) (cG)) (du (ak (ba T) hr rfl (ae (ag 0) (ae (le_int) (ae (ag 1) (aj))))))))
theorem wm:aJ ["thing"] ["thing"] (aw qA):=by walk_at "sc"
theorem zR (T:Txt w.params K mg t):aV P w K mg base 1 "is_sort" ["thing"] L3.e9:=aN T.AA T.z8 wm L3.pU L3.qV (λ_ _ _ _ _ _ _ _=>by walk_at "b1") λ_ _ _ _ _ _ hr hu=>
 av (aB (dq (dg rfl T.bp rfl (ag 0) rfl T.BC rfl) (du (Jz hu (ag 0) (aC (ae (le_str) (ae (le_str) (aj))))))))
theorem zH:aJ ["thing"] ["thing"] (aw uO):=by walk_at "sc"
theorem Be (T:Txt w.params K mg t):aV P w K mg base 4 "is_way" ["thing"] L3.fv:=aN T.Dg T.CW zH L3.qY L3.vD (λ_ _ _ _ _ _ _ _=>by walk_at "b1") λ_ _ _ _ _ _ hr hu=>
 ao (bu (LW.lt (eA (bb (bh (ak (dO T) hr rfl (ae (ag 0) (ae (le_int) (aj)))))) (cS (bb (bh (ak (kz T) hr rfl (ae (aF (ag 0) (bc rfl T.oe)) (aj)))))))) (av (aB (bK))) (aO)) (ao (bu (LW.lt (eA (bb (bh (ak (ba T) hr rfl (ae (aF (ag 0) (bc rfl T.Ju)) (ae (le_int) (ae (bc rfl T.vC) (aj))))))) (cS (bb (bh (ak (ba T) hr rfl (ae (aF (ag 0) (bc rfl T.HZ)) (ae (le_int) (ae (bc rfl T.uU) (aj)))))))))) (av (aB (bK))) (aO)) (av (aB (dq (ak (eK T) hr rfl (ae (aF (ag 0) (bc rfl T.Jk)) (ae (bc rfl T.uH) (aj)))) (du (ak (zR T) hr rfl (ae (aF (ag 0) (bc rfl T.JF)) (aj))))))))
theorem uW:aJ ["thing"] ["thing"] (aw gL):=by walk_at "sc"
theorem wG (T:Txt w.params K mg t):aV P w K mg base 5 "are_ways" ["thing"] L3.d7:=aN T.xI T.wy uW L3.o6 L3.pf (λ_ _ _ _ _ _ _ _=>by walk_at "b1") λ_ _ _ _ _ _ hr hu=>
 ao (bu (LW.lt (eA (bb (bh (dg rfl T.bp rfl (ag 0) rfl T.ck rfl))) (cS (bb (lt_chain qo qo (dj _) (dj _) (le_int) (bf bP cM rfl T.fS rfl (ae (ag 0) (aj))) (bc rfl T.vV)))))) (av (aB (bK))) (aO)) (ao (bu (bb (bh (bf (kW rfl) sL rfl T.CQ rfl (ae (b8 (fsc:=aw gL) ["thing"] ["way"] 1 [] rfl rfl (fi (ag 0)) (λcl C s₀ H₀ ex=>⟨bO 0 (show (["way"]:List Str).Nodup from by decide +kernel),cj,ak (Be T) hr rfl (ae (ag 0) (aj))⟩) rfl rfl (by decide +kernel)) (aj))))) (av (aB (bK))) (aO)) (av (aB (le_eq hu (zM rfl rfl T.fS rfl rfl T.GX rfl (b8 (fsc:=aw gL) ["thing"] ["way"] 1 [] rfl rfl (fi (ag 0)) (λcl C s₀ H₀ ex=>⟨bO 0 (show (["way"]:List Str).Nodup from by decide +kernel),cj,aF (ag 0) (bc rfl T.oe)⟩) rfl rfl (by decide +kernel))) (bf bP cM rfl T.fS rfl (ae (ag 0) (aj)))))))
theorem gG:aJ ["thing", "names", "behind", "name"] ["thing", "names"] (aw ql):=by walk_at "sc"
theorem AW (T:Txt w.params K mg t):aV P w K mg base 2 "is_road" ["thing", "names"] L3.eW:=aN T.zF T.AU gG L3.qg L3.tM (λ_ _ _ _ _ _ _ _=>by walk_at "b2") λ_ _ _ _ _ _ hr hu=>
 ao (bu (LW.lt (eA (bb (bh (dg rfl T.bp rfl (ag 0) rfl T.ck rfl))) (cS (lt_eq hu (bf bP cM rfl T.fS rfl (ae (ag 0) (aj))) (le_int))))) (av (aB (bK))) (aO)) (ao (aH 2 gG.nd (le_int)) (ao (oI Pq rfl (fi (ag 0)) (jH 3 gG.nd) (ao (bu (LW.lt (eA (bb (bh (ak (kz T) hr rfl (ae (ag 3) (aj))))) (cS (zS hu (ag 3) (il (ag 1) (fe (ag 2)) (iG)))))) (av (aB (bK))) (aO)) (av (aH 2 gG.nd (aG (BG hu (ag 1) (ag 3)) (le_int)))))) (av (aB (bK)))))
theorem sd:aJ ["thing", "ways"] ["thing", "ways"] (aw hZ):=by walk_at "sc"
theorem t8 (T:Txt w.params K mg t):aV P w K mg base 7 "is_sender" ["thing", "ways"] L3.dk:=aN T.vG T.vS sd L3.mx L3.nP (λ_ _ _ _ _ _ _ _=>by walk_at "b2") λ_ _ _ _ _ _ hr hu=>
 ao (bu (LW.lt (eA (bb (bh (ak (dO T) hr rfl (ae (ag 0) (ae (le_int) (aj)))))) (cS (bb (bh (ak (kz T) hr rfl (ae (aF (ag 0) (bc rfl T.oe)) (aj)))))))) (av (aB (bK))) (aO)) (ao (bu (LW.lt (eA (bb (bh (ak (AW T) hr rfl (ae (aF (ag 0) (bc rfl T.Jb)) (ae (b8 (fsc:=aw hZ) ["thing", "ways"] ["way"] 1 [] rfl rfl (fi (ag 1)) (λcl C s₀ H₀ ex=>⟨bO 0 (show (["way"]:List Str).Nodup from by decide +kernel),cj,aF (ag 0) (bc rfl T.oe)⟩) rfl rfl (by decide +kernel)) (aj)))))) (cS (bb (bh (ak (ba T) hr rfl (ae (aF (ag 0) (bc rfl T.HL)) (ae (le_int) (ae (bc rfl T.uV) (aj)))))))))) (av (aB (bK))) (aO)) (ao (bu (LW.lt (eA (bb (bh (ak (ba T) hr rfl (ae (aF (ag 0) (bc rfl T.Fm)) (ae (le_int) (ae (bc rfl T.jL) (aj))))))) (cS (bb (bh (ak (eK T) hr rfl (ae (aF (ag 0) (bc rfl T.Jo)) (ae (bc rfl T.jL) (aj))))))))) (av (aB (bK))) (aO)) (av (aB (ak (z6 T) hr rfl (ae (aF (ag 0) (bc rfl T.JH)) (aj)))))))
theorem iK:aJ ["thing", "ways", "names"] ["thing", "ways"] (aw eu):=by walk_at "sc"
theorem o9 (T:Txt w.params K mg t):aV P w K mg base 8 "are_senders" ["thing", "ways"] L3.cx:=aN T.pW T.pS iK L3.jG L3.kT (λ_ _ _ _ _ _ _ _=>by walk_at "b2") λ_ _ _ _ _ _ hr hu=>
 ao (bu (LW.lt (eA (bb (bh (dg rfl T.bp rfl (ag 0) rfl T.ck rfl))) (cS (uo (bf bP cM rfl T.fS rfl (ae (ag 0) (aj))) (bc rfl T.nE))))) (av (aB (bK))) (aO)) (ao (bu (bb (bh (bf (kW rfl) sL rfl T.CQ rfl (ae (b8 (fsc:=aw eu) ["thing", "ways", "names"] ["sender", "ways"] 1 [1] rfl rfl (fi (ag 0)) (λcl C s₀ H₀ ex=>⟨bO 0 (show (["sender", "ways"]:List Str).Nodup from by decide +kernel),cj,ak (t8 T) hr rfl (ae (ag 0) (ae (ag 1) (aj)))⟩) rfl rfl (by decide +kernel)) (aj))))) (av (aB (bK))) (aO)) (ao (mR (fsc:=aw eu) 2 iK.nd ["thing", "ways", "names"] ["sender"] 1 [] rfl rfl (fi (ag 0)) (λcl C s₀ H₀ ex=>⟨bO 0 (show (["sender"]:List Str).Nodup from by decide +kernel),cj,aF (ag 0) (bc rfl T.oe)⟩) rfl rfl (by decide +kernel)) (av (aB (le_eq hu (ag 2) (xl rfl rfl T.vH rfl rfl T.GX rfl (ag 2)))))))
theorem xA:aJ ["thing"] ["thing"] (aw qj):=by walk_at "sc"
theorem AO (T:Txt w.params K mg t):aV P w K mg base 9 "is_plan" ["thing"] L3.eS:=aN T.zy T.AK xA L3.p5 L3.rX (λ_ _ _ _ _ _ _ _=>by walk_at "b1") λ_ _ _ _ _ _ hr hu=>
 ao (bu (LW.lt (eA (bb (bh (ak (dO T) hr rfl (ae (ag 0) (ae (le_int) (aj)))))) (cS (bb (bh (ak (ba T) hr rfl (ae (aF (ag 0) (bc rfl T.IS)) (ae (le_int) (ae (bc rfl T.ux) (aj)))))))))) (av (aB (bK))) (aO)) (av (aB (dq (ak (wG T) hr rfl (ae (aF (ag 0) (bc rfl T.CA)) (aj))) (du (ak (o9 T) hr rfl (ae (aF (ag 0) (bc rfl T.AM)) (ae (aF (ag 0) (bc rfl T.CA)) (aj))))))))
theorem iE:aJ ["_law_script", "_law_k", "_law_cell"] ["_law_script", "_law_k"] (aw nq):=by walk_at "sc"
theorem wx (T:Txt w.params K mg t):aV P w K mg base 1 "_law_box" ["_law_script", "_law_k"] L3.mC:=aN T.wD T.wM iE L3.BV L3.EN (λ_ _ _ _ _ _ _ _=>by walk_at "b2") λ_ _ _ _ _ _ hr hu=>
 ao (aH 2 iE.nd (le_int)) (ao (bu (Ll (ag 1) (bf bP cM rfl T.fS rfl (ae (ag 0) (aj)))) (av (aH 2 iE.nd (aF (ag 0) (ag 1)))) (aO)) (av (aB (CO (ae (le_mul (dJ (bf iL kb rfl T.vf rfl (ae (ag 2) (aj))) (le_pow (le_int) (le_int))) (cb Ab FW rfl T.GK rfl (ae (L6 (bf iL kb rfl T.vf rfl (ae (ag 2) (aj))) (le_pow (le_int) (le_int))) (aj)))) (ae (dJ (aG (aG (ag 2) (le_mul (le_mul (le_int) (ag 1)) (ag 1))) (le_mul (le_int) (ag 1))) (le_int)) (ae (le_int) (aj))))))))
theorem gM:aJ ["_law_box_here", "_law_many", "_law_told_here", "_law_once"] ["_law_box_here", "_law_many"] (aw lu):=by walk_at "sc"
theorem ax (T:Txt w.params K mg t):aV P w K mg base 1 "_law_take" ["_law_box_here", "_law_many"] gk:=aN T.vN T.tZ gM pB sV (λ_ _ _ _ _ _ _ _=>by walk_at "b2") λ_ _ _ _ _ _ hr hu=>
 ao (bu (uo (aF (ag 0) (le_int)) (le_int)) (ao (aH 2 gM.nd (dJ (aF (ag 0) (le_int)) (ag 1))) (ao (nL (ag 0) (le_int) (gy (aF (ag 0) (le_int)) (ag 1))) (av (aB (ag 2))))) (aO)) (ao (nL (ag 0) (le_int) (aG (aF (ag 0) (le_int)) (le_int))) (ao (aH 3 gM.nd (dJ (aG (aG (le_mul (aF (ag 0) (le_int)) (le_int)) (le_mul (le_int) (aF (ag 0) (le_int)))) (le_int)) (le_int))) (ao (nL (ag 0) (le_int) (dJ (aG (le_mul (ag 3) (ag 3)) (aF (ag 0) (le_int))) (le_int))) (av (aB (dJ (gy (aF (ag 0) (le_int)) (le_int)) (ag 1)))))))
theorem bj:aJ ["_law_box_here", "_law_many", "_law_letters", "_law_size", "_law_at", "_law_first", "_law_way_here", "_law_found", "_law_k", "_law_sign", "_law_stem"] ["_law_box_here", "_law_many"] (aw jK):=by walk_at "sc"
theorem j2 (T:Txt w.params K mg t):aV P w K mg base 2 "_law_names" ["_law_box_here", "_law_many"] L3.gc:=aN T.rj T.rP bj L3.wQ L3.zx (λ_ _ _ _ _ _ _ _=>by walk_at "b2") λ_ _ _ _ _ _ hr hu=>
 ao (aH 2 bj.nd (le_str)) (ao (aH 3 bj.nd (aG (le_int) (ak (ax T) hr rfl (ae (ag 0) (ae (le_int) (aj)))))) (ao (aH 4 bj.nd (ak (ax T) hr rfl (ae (ag 0) (ae (ag 3) (aj))))) (ao (aH 5 bj.nd (ak (ax T) hr rfl (ae (ag 0) (ae (le_int) (aj))))) (ao (aH 6 bj.nd (ak (ax T) hr rfl (ae (ag 0) (ae (le_int) (aj))))) (ao (aH 7 bj.nd (CO (aj))) (ao (oI Pq rfl (cT rfl T.fG (ag 1)) (jH 8 bj.nd) (ao (aH 9 bj.nd (jv (ag 2) (dJ (aG (ag 5) (le_mul (le_int) (ag 8))) (le_int)))) (av (bu (lt_eq hu (ag 6) (le_int)) (ao (aH 10 bj.nd (jv (ag 2) (ag 4))) (av (rC (le_app (ag 7) (aG (aG (jM (ag 10) (ag 4)) (ag 9)) (jM (ag 10) (sP (sP (ag 3) (le_int)) (ag 4)))))))) (av (bu (lt_eq hu (ag 6) (le_int)) (av (rC (le_app (ag 7) (jM (ag 9) (aG (le_int) (dJ (aG (ag 5) (le_mul (le_int) (ag 8))) (le_int))))))) (av (rC (le_app (ag 7) (jM (jv (ag 2) (ag 5)) (aG (le_int) (ag 8)))))))))))) (av (aB (JS (ag 7))))))))))
theorem gv:aJ ["_law_top", "_law_bottom", "_law_one", "_law_other"] ["_law_top", "_law_bottom"] (aw lK):=by walk_at "sc"
theorem iI (T:Txt w.params K mg t):aV P w K mg base 1 "_law_part" ["_law_top", "_law_bottom"] L3.eC:=aN T.vA T.uN gv L3.zP L3.Ec (λ_ _ _ _ _ _ _ _=>by walk_at "b2") λ_ _ _ _ _ _ hr hu=>
 ao (Eb 2 3 rfl gv.nd (ae (bf iL kb rfl T.vf rfl (ae (ag 0) (aj))) (ae (ag 1) (aj)))) (ao (tW Pq (uo (ag 3) (le_int)) (av (Eb 2 3 rfl gv.nd (ae (ag 3) (ae (dJ (ag 2) (ag 3)) (aj)))))) (av (aB (aC (ae (gy (ag 0) (ag 2)) (ae (gy (ag 1) (ag 2)) (aj)))))))
theorem f6:aJ ["_law_box_here", "_law_low", "_law_high", "_law_bottom"] ["_law_box_here", "_law_low", "_law_high"] (aw gZ):=by walk_at "sc"
theorem gU (T:Txt w.params K mg t):aV P w K mg base 2 "_law_fraction" ["_law_box_here", "_law_low", "_law_high"] L3.b4:=aN T.l5 T.mj f6 L3.pG L3.r6 (λ_ _ _ _ _ _ _ _=>by walk_at "b3") λ_ _ _ _ _ _ hr hu=>
 ao (aH 3 f6.nd (aF (bL (ae (le_int) (ae (le_int) (ae (le_int) (ae (le_int) (ae (le_int) (ae (le_int) (aj)))))))) (ak (ax T) hr rfl (ae (ag 0) (ae (le_int) (aj)))))) (av (aB (ak (iI T) hr rfl (ae (aG (le_mul (ag 1) (ag 3)) (ak (ax T) hr rfl (ae (ag 0) (ae (aG (le_mul (sP (ag 2) (ag 1)) (ag 3)) (le_int)) (aj))))) (ae (ag 3) (aj))))))
theorem bZ:aJ ["_law_box_here", "_law_most", "_law_word", "_law_top", "_law_w", "_law_up", "_law_down", "_law_low"] ["_law_box_here", "_law_most"] (aw lj):=by walk_at "sc"
theorem vM (T:Txt w.params K mg t):aV P w K mg base 3 "_law_rule" ["_law_box_here", "_law_most"] gD:=aN T.vU T.vm bZ pX rH (λ_ _ _ _ _ _ _ _=>by walk_at "b2") λ_ _ _ _ _ _ hr hu=>
 ao (aH 2 bZ.nd (aF (bL (ae (le_str) (ae (le_str) (ae (le_str) (ae (le_str) (ae (le_str) (aj))))))) (ak (ax T) hr rfl (ae (ag 0) (ae (le_int) (aj)))))) (ao (aH 3 bZ.nd (ak (gU T) hr rfl (ae (ag 0) (ae (le_int) (ae (ag 1) (aj)))))) (ao (aH 4 bZ.nd (ak (gU T) hr rfl (ae (ag 0) (ae (le_int) (ae (gy (aF (ag 3) (le_int)) (aF (ag 3) (le_int))) (aj)))))) (ao (bu (lt_eq hu (ag 2) (le_str)) (av (aB (aC (ae (ag 2) (ae (ag 4) (aj)))))) (aO)) (ao (aH 5 bZ.nd (ak (iI T) hr rfl (ae (aG (le_int) (ak (ax T) hr rfl (ae (ag 0) (ae (le_int) (aj))))) (ae (aG (le_int) (ak (ax T) hr rfl (ae (ag 0) (ae (le_int) (aj))))) (aj))))) (ao (aH 6 bZ.nd (aF (bL (ae (aC (ae (le_int) (ae (le_int) (aj)))) (ae (aC (ae (le_int) (ae (le_int) (aj)))) (ae (aC (ae (le_int) (ae (le_int) (aj)))) (ae (aC (ae (le_int) (ae (le_int) (aj)))) (aj)))))) (ak (ax T) hr rfl (ae (ag 0) (ae (le_int) (aj)))))) (ao (bu (lt_eq hu (ag 2) (le_str)) (av (aB (aC (ae (ag 2) (ae (ag 4) (ae (ak (iI T) hr rfl (ae (aG (aF (ag 5) (le_int)) (aF (ag 5) (le_int))) (ae (aF (ag 5) (le_int)) (aj)))) (ae (ag 6) (ae (ag 3) (aj))))))))) (aO)) (ao (bu (lt_eq hu (ag 2) (le_str)) (av (aB (aC (ae (ag 2) (ae (ag 4) (ae (ag 5) (ae (aF (bL (ae (ag 6) (ae (aC (ae (le_int) (ae (le_int) (aj)))) (ae (aC (ae (le_int) (ae (le_int) (aj)))) (aj))))) (ak (ax T) hr rfl (ae (ag 0) (ae (le_int) (aj))))) (ae (ag 3) (aj))))))))) (aO)) (ao (bu (lt_eq hu (ag 2) (le_str)) (ao (aH 7 bZ.nd (ak (ax T) hr rfl (ae (ag 0) (ae (le_int) (aj))))) (av (aB (aC (ae (ag 2) (ae (ag 4) (ae (ag 5) (ae (ag 7) (ae (aG (ag 7) (ak (ax T) hr rfl (ae (ag 0) (ae (le_int) (aj))))) (ae (ag 3) (aj))))))))))) (aO)) (av (aB (aC (ae (ag 2) (ae (ag 4) (ae (ag 5) (ae (ag 6) (ae (ag 3) (aj)))))))))))))))))
theorem fA:aJ ["_law_box_here", "_law_name", "_law_pace", "_law_room", "_law_mark"] ["_law_box_here", "_law_name"] (aw oz):=by walk_at "sc"
theorem xt (T:Txt w.params K mg t):aV P w K mg base 2 "_law_way" ["_law_box_here", "_law_name"] L3.my:=aN T.wB T.wg fA L3.CB L3.F0 (λ_ _ _ _ _ _ _ _=>by walk_at "b2") λ_ _ _ _ _ _ hr hu=>
 ao (aH 2 fA.nd (aF (bL (ae (aG (le_int) (ak (ax T) hr rfl (ae (ag 0) (ae (le_int) (aj))))) (ae (aG (le_int) (ak (ax T) hr rfl (ae (ag 0) (ae (le_int) (aj))))) (aj)))) (gy (ak (ax T) hr rfl (ae (ag 0) (ae (le_int) (aj)))) (le_int)))) (ao (aH 3 fA.nd (aF (bL (ae (aG (le_int) (ak (ax T) hr rfl (ae (ag 0) (ae (le_int) (aj))))) (ae (aG (le_int) (ak (ax T) hr rfl (ae (ag 0) (ae (le_int) (aj))))) (aj)))) (gy (ak (ax T) hr rfl (ae (ag 0) (ae (le_int) (aj)))) (le_int)))) (ao (aH 4 fA.nd (aF (bL (ae (cG) (ae (dJ (ak (ax T) hr rfl (ae (ag 0) (ae (aG (ag 3) (le_int)) (aj)))) (le_int)) (ae (le_int) (aj))))) (dJ (ak (ax T) hr rfl (ae (ag 0) (ae (le_int) (aj)))) (le_int)))) (av (aB (aC (ae (ag 1) (ae (ag 2) (ae (ag 3) (ae (ag 4) (ae (aF (bL (ae (le_str) (ae (le_str) (aj)))) (ak (ax T) hr rfl (ae (ag 0) (ae (le_int) (aj))))) (aj)))))))))))
theorem cq:aJ ["_law_box_here", "_law_name", "_law_ways", "_law_most", "_law_road", "_law_beat", "_law_many"] ["_law_box_here", "_law_name", "_law_ways", "_law_most"] (aw fJ):=by walk_at "sc"
theorem pP (T:Txt w.params K mg t):aV P w K mg base 4 "_law_sender" ["_law_box_here", "_law_name", "_law_ways", "_law_most"] fm:=aN T.qf T.pV cq l4 oT (λ_ _ _ _ _ _ _ _=>by walk_at "b4") λ_ _ _ _ _ _ hr hu=>
 ao (aH 4 cq.nd (cb bz cC rfl T.ck rfl (ae (b8 (fsc:=aw fJ) ["_law_box_here", "_law_name", "_law_ways", "_law_most", "_law_road", "_law_beat", "_law_many"] ["_law_way_here", "_law_box_here"] 1 [0] rfl rfl (fi (ag 2)) (λcl C s₀ H₀ ex=>⟨bO 0 (show (["_law_way_here", "_law_box_here"]:List Str).Nodup from by decide +kernel),FD (uo (ak (ax T) hr rfl (ae (ag 1) (ae (le_int) (aj)))) (le_int)),aF (ag 0) (le_int)⟩) rfl rfl (by decide +kernel)) (aj)))) (ao (bu (lt_eq hu (ag 4) (aC (aj))) (av (aH 4 cq.nd (aC (ae (aF (aF (ag 2) (ak (ax T) hr rfl (ae (ag 0) (ae (bf bP cM rfl T.fS rfl (ae (ag 2) (aj))) (aj))))) (le_int)) (aj))))) (aO)) (ao (aH 5 cq.nd (aF (bL (ae (aG (le_int) (ak (ax T) hr rfl (ae (ag 0) (ae (le_int) (aj))))) (ae (aG (le_int) (ak (ax T) hr rfl (ae (ag 0) (ae (le_int) (aj))))) (aj)))) (gy (ak (ax T) hr rfl (ae (ag 0) (ae (le_int) (aj)))) (le_int)))) (ao (aH 6 cq.nd (aF (bL (ae (cG) (ae (ak (ax T) hr rfl (ae (ag 0) (ae (le_int) (aj)))) (aj)))) (ak (ax T) hr rfl (ae (ag 0) (ae (le_int) (aj)))))) (av (aB (aC (ae (ag 1) (ae (ag 4) (ae (ag 5) (ae (ak (ax T) hr rfl (ae (ag 0) (ae (le_int) (aj)))) (ae (ag 6) (ae (ak (vM T) hr rfl (ae (ag 0) (ae (ag 3) (aj)))) (aj)))))))))))))
theorem dF:aJ ["_law_box_here", "_law_most", "_law_senders", "_law_grid", "_law_many", "_law_ways", "_law_names_here"] ["_law_box_here", "_law_most", "_law_senders"] (aw fx):=by walk_at "sc"
theorem vO (T:Txt w.params K mg t):aV P w K mg base 5 "_law_plan" ["_law_box_here", "_law_most", "_law_senders"] L3.j5:=aN T.vb T.uy dF L3.Ac L3.Cu (λ_ _ _ _ _ _ _ _=>by walk_at "b3") λ_ _ _ _ _ _ hr hu=>
 ao (aH 3 dF.nd (aF (bL (ae (le_int) (ae (le_int) (ae (le_int) (ae (aG (le_int) (ak (ax T) hr rfl (ae (ag 0) (ae (le_int) (aj))))) (aj)))))) (ak (ax T) hr rfl (ae (ag 0) (ae (le_int) (aj)))))) (ao (aH 4 dF.nd (aF (bL (ae (aG (le_int) (ak (ax T) hr rfl (ae (ag 0) (ae (le_int) (aj))))) (ae (aG (le_int) (ak (ax T) hr rfl (ae (ag 0) (ae (le_int) (aj))))) (aj)))) (gy (ak (ax T) hr rfl (ae (ag 0) (ae (le_int) (aj)))) (le_int)))) (ao (aH 5 dF.nd (cb bz cC rfl T.ck rfl (ae (b8 (fsc:=aw fx) ["_law_box_here", "_law_most", "_law_senders", "_law_grid", "_law_many", "_law_ways", "_law_names_here"] ["_law_name", "_law_box_here"] 1 [0] rfl rfl (fi (ak (j2 T) hr rfl (ae (ag 0) (ae (ag 4) (aj))))) (λcl C s₀ H₀ ex=>⟨bO 0 (show (["_law_name", "_law_box_here"]:List Str).Nodup from by decide +kernel),cj,ak (xt T) hr rfl (ae (ag 1) (ae (ag 0) (aj)))⟩) rfl rfl (by decide +kernel)) (aj)))) (ao (aH 6 dF.nd (Dw rfl T.vH rfl (ae (ak (j2 T) hr rfl (ae (ag 0) (ae (ak (ax T) hr rfl (ae (ag 0) (ae (aG (ag 2) (le_int)) (aj)))) (aj)))) (aj)))) (av (aB (aC (ae (ag 3) (ae (ag 5) (ae (cb bz cC rfl T.ck rfl (ae (b8 (fsc:=aw fx) ["_law_box_here", "_law_most", "_law_senders", "_law_grid", "_law_many", "_law_ways", "_law_names_here"] ["_law_name", "_law_box_here", "_law_ways", "_law_most"] 1 [0,5,1] rfl rfl (fi (ag 6)) (λcl C s₀ H₀ ex=>⟨bO 0 (show (["_law_name", "_law_box_here", "_law_ways", "_law_most"]:List Str).Nodup from by decide +kernel),cj,ak (pP T) hr rfl (ae (ag 1) (ae (ag 0) (ae (ag 2) (ae (ag 3) (aj)))))⟩) rfl rfl (by decide +kernel)) (aj))) (aj))))))))))
theorem b9:aJ ["_law_box_here", "_law_deep", "_law_k", "_law_some"] ["_law_box_here"] (aw iq):=by walk_at "sc"
theorem o5 (T:Txt w.params K mg t):aV P w K mg base 2 "_law_strange" ["_law_box_here"] cN:=aN T.oH T.mN b9 k8 lX (λ_ _ _ _ _ _ _ _=>by walk_at "b1") λ_ _ _ _ _ _ hr hu=>
 ao (aH 1 b9.nd (aC (aj))) (ao (oI Pq rfl (cT rfl T.fG (le_int)) (jH 2 b9.nd) (av (aH 1 b9.nd (aC (ae (ag 1) (ae (il (bL (ae (ag 1) (aj))) (iG) (fe (dJ (ag 2) (le_int)))) (aj))))))) (ao (aH 3 b9.nd (bL (ae (cG) (ae (le_int) (ae (le_str) (ae (aC (aj)) (ae (bL (aj)) (ae (wu) (ae (bK) (ae (ag 1) (ae (aC (ae (le_int) (ae (le_int) (ae (le_int) (aj))))) (ae (aC (ae (cG) (ae (cG) (ae (cG) (aj))))) (ae (Gb (GA (le_int) (Gd))) (ae (aC (ae (le_int) (ae (aC (aj)) (ae (aC (aj)) (aj))))) (aj))))))))))))))) (av (aB (aF (ag 3) (ak (ax T) hr rfl (ae (ag 0) (ae (le_int) (aj)))))))))
theorem aZ:aJ ["_law_box_here", "_law_ways", "_law_name", "_law_pace", "_law_room", "_law_mark", "_law_sort", "_law_many", "_law_some"] ["_law_box_here", "_law_ways"] (aw eF):=by walk_at "sc"
theorem mr (T:Txt w.params K mg t):aV P w K mg base 2 "_law_ways_bad" ["_law_box_here", "_law_ways"] cD:=aN T.mm T.mi aZ j6 kZ (λ_ _ _ _ _ _ _ _=>by walk_at "b2") λ_ _ _ _ _ _ hr hu=>
 ao (wO (aF (ag 1) (le_int)) (yl rfl (bU 2 aZ.nd (bU 3 aZ.nd (bU 4 aZ.nd (bU 5 aZ.nd (bU 6 aZ.nd (sD)))))))) (ao (mR (fsc:=aw eF) 7 aZ.nd ["_law_box_here", "_law_ways", "_law_name", "_law_pace", "_law_room", "_law_mark", "_law_sort", "_law_many", "_law_some"] ["_law_k"] 1 [] rfl rfl (cT rfl T.fG (le_int)) (λcl C s₀ H₀ ex=>⟨bO 0 (show (["_law_k"]:List Str).Nodup from by decide +kernel),cj,aC (ae (aG (le_str) (jv (le_str) (ag 0))) (ae (le_int) (ae (le_int) (ae (cG) (ae (le_str) (aj))))))⟩) rfl rfl (by decide +kernel)) (ao (aH 8 aZ.nd (bL (ae (aC (aj)) (ae (cb bz cC rfl T.ck rfl (ae (ag 7) (aj))) (ae (aG (ag 1) (aC (ae (aC (ae (ag 2) (ae (le_int) (ae (le_int) (ae (cG) (ae (le_str) (aj))))))) (aj)))) (ae (aG (il (ag 1) (iG) (fe (le_neg (le_int)))) (aC (ae (cG) (aj)))) (ae (jO rfl rfl T.sI rfl (ae (ag 1) (aj))) (ae (cG) (ae (wu) (ae (aF (ag 1) (le_int)) (aj))))))))))) (ao (aH 8 aZ.nd (aG (ag 8) (bL (ae (aG (aC (ae (aC (ae (ag 2) (ae (bK) (ae (ag 4) (ae (ag 5) (ae (ag 6) (aj))))))) (aj))) (il (ag 1) (fe (le_int)) (iG))) (ae (aG (aC (ae (jO rfl rfl T.sI rfl (ae (aF (ag 1) (le_int)) (aj))) (aj))) (il (ag 1) (fe (le_int)) (iG))) (ae (aG (ag 1) (aC (ae (aC (ae (ag 2) (ae (le_int) (ae (le_int) (aj))))) (aj)))) (ae (le_int) (aj)))))))) (av (aB (aF (ag 8) (ak (ax T) hr rfl (ae (ag 0) (ae (le_int) (aj))))))))))
theorem bq:aJ ["_law_box_here", "_law_ways", "_law_senders", "_law_one", "_law_other", "_law_nine", "_law_some"] ["_law_box_here", "_law_ways", "_law_senders"] (aw cP):=by walk_at "sc"
theorem jE (T:Txt w.params K mg t):aV P w K mg base 2 "_law_senders_bad" ["_law_box_here", "_law_ways", "_law_senders"] bT:=aN T.jD T.jB bq iH iY (λ_ _ _ _ _ _ _ _=>by walk_at "b3") λ_ _ _ _ _ _ hr hu=>
 ao (aH 3 bq.nd (aC (ae (le_str) (ae (aC (ae (aF (aF (ag 1) (le_int)) (le_int)) (aj))) (ae (le_int) (ae (le_int) (ae (cG) (ae (aC (ae (le_str) (ae (aC (ae (le_int) (ae (le_int) (aj)))) (aj)))) (aj))))))))) (ao (aH 4 bq.nd (aG (aC (ae (le_str) (aj))) (il (ag 3) (fe (le_int)) (iG)))) (ao (aH 5 bq.nd (cb bz cC rfl T.ck rfl (ae (b8 (fsc:=aw cP) ["_law_box_here", "_law_ways", "_law_senders", "_law_one", "_law_other", "_law_nine", "_law_some"] ["_law_k", "_law_one"] 1 [3] rfl rfl (cT rfl T.fG (le_int)) (λcl C s₀ H₀ ex=>⟨bO 0 (show (["_law_k", "_law_one"]:List Str).Nodup from by decide +kernel),cj,aG (aC (ae (aG (le_str) (jv (le_str) (ag 0))) (aj))) (il (ag 1) (fe (le_int)) (iG))⟩) rfl rfl (by decide +kernel)) (aj)))) (ao (aH 6 bq.nd (bL (ae (ag 5) (ae (aC (ae (ag 4) (ae (ag 3) (aj)))) (ae (aC (ae (ag 3) (ae (ag 3) (aj)))) (ae (aC (ae (ag 3) (ae (ag 4) (ae (ag 3) (aj))))) (ae (aG (ag 2) (aC (ae (cG) (aj)))) (ae (bL (ae (ag 3) (aj))) (ae (cG) (ae (wu) (ae (ag 3) (ae (le_int) (aj))))))))))))) (ao (aH 6 bq.nd (aG (ag 6) (bL (ae (aC (ae (ag 3) (ae (jO rfl rfl T.sI rfl (ae (ag 4) (aj))) (aj)))) (ae (aC (ae (ag 3) (ae (il (ag 4) (iG) (fe (le_int))) (aj)))) (ae (aC (ae (ag 3) (ae (aG (aC (ae (le_str) (ae (aC (ae (le_str) (ae (le_str) (aj)))) (aj)))) (il (ag 3) (fe (le_int)) (iG))) (aj)))) (aj))))))) (av (aB (aF (ag 6) (ak (ax T) hr rfl (ae (ag 0) (ae (le_int) (aj)))))))))))
theorem cW:aJ ["_law_box_here", "_law_plan_here", "_law_grid", "_law_ways", "_law_senders", "_law_place", "_law_some"] ["_law_box_here", "_law_plan_here"] (aw nO):=by walk_at "sc"
theorem wY (T:Txt w.params K mg t):aV P w K mg base 3 "_law_bad" ["_law_box_here", "_law_plan_here"] cX:=aN T.xo T.xi cW rg uv (λ_ _ _ _ _ _ _ _=>by walk_at "b2") λ_ _ _ _ _ _ hr hu=>
 ao (wO (ag 1) (yl rfl (bU 2 cW.nd (bU 3 cW.nd (bU 4 cW.nd (sD)))))) (ao (aH 5 cW.nd (ak (ax T) hr rfl (ae (ag 0) (ae (le_int) (aj))))) (ao (bu (lt_eq hu (ag 5) (le_int)) (av (aB (aC (ae (aF (bL (ae (le_int) (ae (le_int) (ae (le_neg (le_int)) (ae (bK) (ae (bK) (ae (cG) (ae (le_str) (ae (aC (ae (le_int) (aj))) (ae (le_pow (le_int) (le_int)) (aj))))))))))) (ak (ax T) hr rfl (ae (ag 0) (ae (le_int) (aj))))) (ae (ag 3) (ae (ag 4) (aj))))))) (aO)) (ao (bu (lt_eq hu (ag 5) (le_int)) (av (aB (aC (ae (ag 2) (ae (ak (mr T) hr rfl (ae (ag 0) (ae (ag 3) (aj)))) (ae (ag 4) (aj))))))) (aO)) (ao (bu (lt_eq hu (ag 5) (le_int)) (av (aB (aC (ae (ag 2) (ae (ag 3) (ae (ak (jE T) hr rfl (ae (ag 0) (ae (ag 3) (ae (ag 4) (aj))))) (aj))))))) (aO)) (ao (bu (lt_eq hu (ag 5) (le_int)) (ao (aH 6 cW.nd (bL (ae (jO rfl rfl T.sI rfl (ae (ag 1) (aj))) (ae (il (ag 1) (iG) (fe (le_int))) (ae (aG (ag 1) (aC (ae (cG) (aj)))) (ae (aC (ae (ag 1) (aj))) (ae (aC (ae (ag 3) (ae (ag 2) (ae (ag 4) (aj))))) (ae (aC (ae (ag 2) (ae (ag 4) (ae (ag 3) (aj))))) (aj))))))))) (av (aB (aF (ag 6) (ak (ax T) hr rfl (ae (ag 0) (ae (le_int) (aj)))))))) (aO)) (av (aB (ak (o5 T) hr rfl (ae (ag 0) (aj))))))))))
theorem ef:aJ ["_law_box_here", "_law_names_here", "_law_ways", "_law_rule_here"] ["_law_box_here"] (aw cY):=by walk_at "sc"
theorem sE (T:Txt w.params K mg t):aV P w K mg base 2 "_law_great" ["_law_box_here"] d9:=aN T.tN T.tK ef mU pO (λ_ _ _ _ _ _ _ _=>by walk_at "b1") λ_ _ _ _ _ _ hr hu=>
 ao (mR (fsc:=aw cY) 1 ef.nd ["_law_box_here", "_law_names_here", "_law_ways", "_law_rule_here"] ["_law_k"] 1 [] rfl rfl (cT rfl T.fG (le_int)) (λcl C s₀ H₀ ex=>⟨bO 0 (show (["_law_k"]:List Str).Nodup from by decide +kernel),cj,aG (le_str) (jv (le_str) (ag 0))⟩) rfl rfl (by decide +kernel)) (ao (aH 2 ef.nd (cb bz cC rfl T.ck rfl (ae (b8 (fsc:=aw cY) ["_law_box_here", "_law_names_here", "_law_ways", "_law_rule_here"] ["_law_name", "_law_box_here"] 1 [0] rfl rfl (fi (ag 1)) (λcl C s₀ H₀ ex=>⟨bO 0 (show (["_law_name", "_law_box_here"]:List Str).Nodup from by decide +kernel),cj,aC (ae (ag 0) (ae (le_int) (ae (le_int) (ae (le_int) (ae (aF (bL (ae (le_str) (ae (le_str) (aj)))) (ak (ax T) hr rfl (ae (ag 1) (ae (le_int) (aj))))) (aj))))))⟩) rfl rfl (by decide +kernel)) (aj)))) (ao (aH 3 ef.nd (aC (ae (le_str) (ae (aC (ae (le_int) (ae (le_int) (aj)))) (ae (aC (ae (le_int) (ae (le_int) (aj)))) (ae (le_int) (ae (le_int) (ae (aC (ae (le_int) (ae (le_int) (aj)))) (aj))))))))) (av (aB (aC (ae (le_int) (ae (ag 2) (ae (cb bz cC rfl T.ck rfl (ae (b8 (fsc:=aw cY) ["_law_box_here", "_law_names_here", "_law_ways", "_law_rule_here"] ["_law_k"] 1 [] rfl rfl (cT rfl T.fG (le_int)) (λcl C s₀ H₀ ex=>⟨bO 0 (show (["_law_k"]:List Str).Nodup from by decide +kernel),cj,jM (jv (le_str) (ag 0)) (le_int)⟩) rfl rfl (by decide +kernel)) (aj))) (ae (cb bz cC rfl T.ck rfl (ae (ag 1) (aj))) (ae (ag 3) (aj)))))))))))
theorem bJ:aJ ["_law_box_here", "_law_grid", "_law_ways", "_law_callers", "_law_road", "_law_rule_here"] ["_law_box_here"] (aw eG):=by walk_at "sc"
theorem lZ (T:Txt w.params K mg t):aV P w K mg base 3 "_law_greatest" ["_law_box_here"] cB:=aN T.me T.l7 bJ kr kJ (λ_ _ _ _ _ _ _ _=>by walk_at "b1") λ_ _ _ _ _ _ hr hu=>
 ao (wO (ak (sE T) hr rfl (ae (ag 0) (aj))) (yl rfl (bU 1 bJ.nd (bU 2 bJ.nd (bU 3 bJ.nd (bU 4 bJ.nd (bU 5 bJ.nd (sD)))))))) (av (aB (aC (ae (ag 1) (ae (ag 2) (ae (cb bz cC rfl T.ck rfl (ae (b8 (fsc:=aw eG) ["_law_box_here", "_law_grid", "_law_ways", "_law_callers", "_law_road", "_law_rule_here"] ["_law_name", "_law_road", "_law_rule_here"] 1 [4,5] rfl rfl (fi (ag 3)) (λcl C s₀ H₀ ex=>⟨bO 0 (show (["_law_name", "_law_road", "_law_rule_here"]:List Str).Nodup from by decide +kernel),cj,aC (ae (ag 0) (ae (ag 1) (ae (le_int) (ae (le_pow (le_int) (le_int)) (ae (le_pow (le_int) (le_int)) (ae (ag 2) (aj)))))))⟩) rfl rfl (by decide +kernel)) (aj))) (aj)))))))
theorem kc:aJ ["_law_thing", "_law_due", "_law_found"] ["_law_thing", "_law_due"] (aw lT):=by walk_at "sc"
theorem fy (T:Txt w.params K mg t):aV P w K mg base 10 "_law_told" ["_law_thing", "_law_due"] bG:=aN T.ue T.uC kc pA rW (λ_ _ _ _ _ _ _ _=>by walk_at "b2") λ_ _ _ _ _ _ hr hu=>
 ao (aH 2 kc.nd (ak (AO T) hr rfl (ae (ag 0) (aj)))) (av (aB (dq (dg rfl T.bp rfl (ag 2) rfl T.D1 rfl) (du (le_eq hu (ag 2) (ag 1))))))
theorem oV:aJ ["_law_script", "_law_k", "_law_box_here", "_law_plan_here", "_law_turn"] ["_law_script"] (aw GO):=by walk_at "sc"
theorem yQ (T:Txt w.params K mg t):jy P w K mg base CX0 11 t.Bu t.Hc ["_law_script"] (lift K fM):=by
 refine Hf (T:=CK) T.yQ oV rL (λcdv A outer s H E hr=>?_) JQ
 have hu:=hr.units
 exact ao (oI Pq rfl (cT rfl T.fG (aG (le_int) (bf bP cM rfl T.fS rfl (ae (il (ag 0) (iG) (fe (le_int))) (aj))))) (jH 1 oV.nd) (ao (aH 2 oV.nd (ak (wx T) hr rfl (ae (ag 0) (ae (ag 1) (aj))))) (ao (aH 3 oV.nd (ak (vO T) hr rfl (ae (ag 2) (ae (le_int) (ae (le_int) (aj)))))) (ao (bu (bb (bh (ak (fy T) hr rfl (ae (ag 3) (ae (bK) (aj)))))) (av (aB (bK))) (aO)) (ao (oI Pq rfl (cT rfl T.fG (le_int)) (jH 4 oV.nd) (av (bu (bb (bh (ak (fy T) hr rfl (ae (ak (wY T) hr rfl (ae (ag 2) (ae (ag 3) (aj)))) (ae (bK) (aj)))))) (av (aB (bK))) (aO)))) (av (bu (LW.lt (eA (bb (bh (ak (fy T) hr rfl (ae (ak (lZ T) hr rfl (ae (ag 2) (aj))) (ae (bK) (aj)))))) (cS (bb (bh (ak (fy T) hr rfl (ae (ag 3) (ae (bK) (aj))))))))) (av (aB (bK))) (aO)))))))) (av (aB (bK)))
end
theorem all_mk {l:Sd}{w:N6}{K:NB}{mg:Str->Option NC}{fa:Addr}{t:Adr}(hfa:mg "law" = some (.ref fa))(T:Txt w.params K mg t):∃ fd:N0,(∀ (s:ND) (v:NC),TH s fd ⟨[v],[]⟩ [("_law_script", v)])/\∀ base:Heap,K.In base->base.Ns Oy mg->jy l.prog w K mg base CX0 11 fa fd ["_law_script"] (lift K fM):=by
 have e:=hfa.symm.trans T.MA
 injection e with e
 injection e with e
 subst e
 obtain ⟨oc,od,kV,dc,pm,an,cd,ct,sl,ed,_,_⟩:=T.yQ.ex
 exact ⟨_,λs v=>.of_eq (by rw[ed];rfl),λbase _ _=>yQ T⟩
end Kk
namespace PySem.W.Fast
def tw5568209667867386076:=0
def tw14982251563579271168:=0
def tw17677614220612288896:=0
def tw7878013118490654208:=0
def tw18422977519647009344:=0
def tw9356537670173977280:=0
def tw285463167314969504:=0
def tw16378286782157616641:=0
def tw7731953089954517633:=0
def tw12010394722013843169:=0
def tw14976162661190078209:=0
def tw1018422359657192321:=0
def tw10399304591036503586:=0
def tw4121093416742506691:=0
def tw14871650771225283491:=0
def tw790522178901425476:=0
def tw11428439195021972613:=0
def tw18036752734588950757:=0
def tw11673371878604828133:=0
def tw4866800119986818693:=0
def tw2361353463749845350:=0
def tw7332369197770307110:=0
def tw5410272637854806694:=0
def tw12404747259615772614:=0
def tw5385665559598217447:=0
def tw17541739847474042471:=0
def tw3548292903710855911:=0
def tw14998667558093620167:=0
def tw616466202698288648:=0
def tw10276885217791166440:=0
def tw12058401840712523785:=0
def tw1245466723156739849:=0
def tw4261266412454970345:=0
def tw3759135948851843434:=0
def tw9835088678064738315:=0
def tw2753765824140447979:=0
def tw9024569582853145419:=0
def tw1188369734078271339:=0
def tw13865914946826935436:=0
def tw14544672814613631468:=0
def tw4532413978684786317:=0
def tw11623419836501866125:=0
def tw16901533338611354413:=0
def tw16200099588414361549:=0
def tw4389884227875362958:=0
def tw4624917207012546030:=0
def tw9545879346028014254:=0
def tw10881857166256524046:=0
def tw5320473332603664334:=0
def tw2340818072689068367:=0
def tw14086904545042434863:=0
def tw15527713888210398448:=0
def tw335511696850804016:=0
def tw5752834339318288816:=0
def tw7138756910914823696:=0
def tw13168216260935336496:=0
def tw2516314670181876304:=0
def tw6406690338569881937:=0
def tw13560913812147907441:=0
def tw6320518067395197873:=0
def tw5339678392635504722:=0
def tw802668723313571026:=0
def tw6365870550536085906:=0
def tw3499495216859411858:=0
def tw421194740657270995:=0
def tw551645981400264051:=0
def tw10963726034785348083:=0
def tw18125515944315272979:=0
def tw17546613009327664084:=0
def tw11879402741069691860:=0
def tw7516675292823472693:=0
def tw15230491528908593941:=0
def tw11708723954440342389:=0
def tw8613856012777556917:=0
def tw12724887669372360726:=0
def tw14189649982858785174:=0
def tw3902727578242175574:=0
def tw5216462575468103287:=0
def tw13258659844427214615:=0
def tw11299442117502215159:=0
def tw3553646141380179992:=0
def tw13363968740987014520:=0
def tw5373585584758962936:=0
def tw13638839954323661624:=0
def tw18230678835454104665:=0
def tw11219182783864395065:=0
def tw14198454579159683769:=0
def tw7690178167032435770:=0
def tw9133739943461276858:=0
def tw11536723284328483162:=0
def tw17314977393639103866:=0
def tw3995067290640627322:=0
def tw1772008642060706458:=0
def tw2513280796116807514:=0
def tw6075516534799124795:=0
def tw4825184742561704891:=0
def tw10477508980087238876:=0
def tw12209913442287231260:=0
def tw15083150970408476988:=0
def tw17031013207151058332:=0
def tw1238359358134877820:=0
def tw16320598239141648060:=0
def tw14844367755793369980:=0
def tw14673116431808772413:=0
def tw10286349537788190077:=0
def tw4337084330568911325:=0
def tw11636914365616002654:=0
def tw17454720017227815518:=0
def tw7818420470400311455:=0
def tw3275354121879457663:=0
end PySem.W.Fast
open PySem PySem.W PyProof.Rows L2 L3
set_option maxRecDepth 100000 in
set_option maxHeartbeats 0 in
theorem PySem.Challenge.cw_swellways_k21_how_a_plan_stands_holds : PySem.Challenge.rw_swellways_k21_how_a_plan_stands.Holds := by
 w_on;o_law;k_head;(case hw=>w_witness2)
 k_fill
 refine L3.K7 (l:=PySem.Challenge.rw_swellways_k21_how_a_plan_stands) (k:=11) (sp:=Kk.fM) (x := "_law_script") rfl rfl ⟨rfl,by decide,by decide⟩ (λw h Y=>PySem.W.kIn_of Y) Kk.kG ?F
 case F=>
  intro w mg fa h KX G hmg
  refine' Kk.all_mk (t:=⟨_,_,_,_,_,_,_,_,_,_,_,_,_,_,_,_,_,_,_,_,_,_,_,_,_,_,_,_,_,_,_,_,_,_,_,_,_,_,_,_,_,_,_,_,_,_,_,_,_,_,_,_,_,_,_,_,_,_,_,_,_,_,_,_,_,_,_,_,_,_,_,_,_,_,_,_⟩) hmg ⟨O0 KX G ?_,aW ?_ ?_ ?_,O0 KX G ?_,aW ?_ ?_ ?_,O0 KX G ?_,aW ?_ ?_ ?_,O0 KX G ?_,aW ?_ ?_ ?_,O0 KX G ?_,aW ?_ ?_ ?_,O0 KX G ?_,aW ?_ ?_ ?_,O0 KX G ?_,aW ?_ ?_ ?_,O0 KX G ?_,aW ?_ ?_ ?_,O0 KX G ?_,aW ?_ ?_ ?_,O0 KX G ?_,aW ?_ ?_ ?_,O0 KX G ?_,aW ?_ ?_ ?_,O0 KX G ?_,aW ?_ ?_ ?_,O0 KX G ?_,aW ?_ ?_ ?_,O0 KX G ?_,aW ?_ ?_ ?_,O0 KX G ?_,aW ?_ ?_ ?_,O0 KX G ?_,aW ?_ ?_ ?_,O0 KX G ?_,aW ?_ ?_ ?_,O0 KX G ?_,aW ?_ ?_ ?_,O0 KX G ?_,aW ?_ ?_ ?_,O0 KX G ?_,aW ?_ ?_ ?_,O0 KX G ?_,aW ?_ ?_ ?_,O0 KX G ?_,aW ?_ ?_ ?_,O0 KX G ?_,aW ?_ ?_ ?_,O0 KX G ?_,aW ?_ ?_ ?_,O0 KX G ?_,aW ?_ ?_ ?_,O0 KX G ?_,aW ?_ ?_ ?_,O0 KX G ?_,aW ?_ ?_ ?_,O0 KX G ?_,aW ?_ ?_ ?_,O0 KX G ?_,aW ?_ ?_ ?_,O0 KX G ?_,aW ?_ ?_ ?_,O0 KX G ?_,aW ?_ ?_ ?_,O0 KX G ?_,aW ?_ ?_ ?_,O0 KX G ?_,aW ?_ ?_ ?_,O0 KX G ?_,aW ?_ ?_ ?_,O0 KX G ?_,aW ?_ ?_ ?_,O0 KX G ?_,aW ?_ ?_ ?_,O0 KX G ?_,aW ?_ ?_ ?_,O0 KX G ?_,aW ?_ ?_ ?_,Pj KX G ?_,Pj KX G ?_,Pj KX G ?_,Pj KX G ?_,Pj KX G ?_,Pj KX G ?_,Pj KX G ?_,Pj KX G ?_,Pj KX G ?_,Pj KX G ?_,Pj KX G ?_,Pj KX G ?_,bM KX G ?_,bM KX G ?_,bM KX G ?_,Im KX G ?_,bM KX G ?_,bM KX G ?_,bM KX G ?_,bM KX G ?_,bM KX G ?_,bM KX G ?_,bM KX G ?_,bM KX G ?_,bM KX G ?_,bM KX G ?_,bM KX G ?_,bM KX G ?_,bM KX G ?_,DY (its:=#[.int 0 _,.int 1 _]) (xs:=[V.int 0,V.int 1]) KX G ?_ ?_ ?_ ?_ ?_ (show 2<=sizeLine by decide) (.cons ⟨_,rfl⟩ (.cons ⟨_,rfl⟩ (.nil))) (λ_=>.cons (.int _) (.cons (.int _) (.nil))),DY (its:=#[.int 1 _,.int 1 _]) (xs:=[V.int 1,V.int 1]) KX G ?_ ?_ ?_ ?_ ?_ (show 2<=sizeLine by decide) (.cons ⟨_,rfl⟩ (.cons ⟨_,rfl⟩ (.nil))) (λ_=>.cons (.int _) (.cons (.int _) (.nil))),bM KX G ?_,bM KX G ?_,bM KX G ?_,bM KX G ?_,bM KX G ?_,bM KX G ?_,bM KX G ?_,LU KX G ?_ ?_ ?_ ?_ ?_⟩
  all_goals try first | k_is | rfl | exact ⟨⟨_,_,rfl,rfl⟩,⟨_,_,rfl,rfl⟩,⟨_,_,rfl,rfl⟩,⟨_,_,rfl,rfl⟩,⟨_,_,rfl,rfl⟩,PK⟩
