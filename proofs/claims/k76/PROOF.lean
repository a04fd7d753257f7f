import PyProof.Rows.All
import Wide.All
import OpenK.AllK
import Wide.FinOn
import Lean
import PyProof.EqAt
import PyProof.EqKinds
import PyProof.TupleCall
import PyProof.P3Eq
import PyProof.NeKinds
import PyProof.NeData
import PyProof.ZipIter
import PyProof.EnumMake
import PyProof.EnumFor
import OpenK.KTop
import PyProof.IsRules
import PyProof.AttrMissHeap
import PyProof.DictUpdate
import KE.KDictOf
import PyProof.Rows.SortStr
import PyProof.FString5
import PyProof.StrOps
import PyProof.ListRange
import PyProof.TupleOfGen
import PyProof.Rows.SumAny
import PyProof.Rows.CallKwBuiltin
import PyProof.StrLoop
import PyProof.StrWalks
import PyProof.StrOps2
import PyProof.SliceStr2
import PyProof.StrBlockI
import PyProof.StrLaws
import PyProof.StrBlock
import PyProof.StrBlockL
import PyProof.StrCalls2
import KE.KStrOpen
import KE.KDictList
import PyProof.DictValues
import PyProof.DictTruth
import PyProof.DictIter
import PyProof.DictWalks
import PyProof.SetKind
import PyProof.SetNew
import PyProof.Rows.SetFrom
import PyProof.MeetsDict
import PyProof.Rows.FStr
import PyProof.Rows.StrJoin2
import PyProof.CallStr
import PyProof.Rows.StrJoinMade
import PyProof.Rows.ReprOcc
import KE.KRevIter
import PyProof.Rows.StrItems
import KE.KIntText
import PyProof.Rows.StrSplitCount
import PySem.Challenge.RW_swellways_k76_plans_read
set_option Elab.async false
set_option linter.all false
set_option maxRecDepth 100000
set_option maxHeartbeats 4000000
def zzS (t:String):Lean.MacroM (Lean.TSyntax `tactic):=do
 let a←(t.splitOn " ").toArray.mapM fun s=>if s.startsWith "↓" then `(Lean.Parser.Tactic.simpLemma| ↓ $(Lean.mkIdent (s.drop 1).toString.toName):term) else `(Lean.Parser.Tactic.simpLemma| $(Lean.mkIdent s.toName):term)
 `(tactic| try simp only [$a,*])
open PySem.Str renaming ofString → OF, join → Vk, empty → XC, length_append → Y3
open PySem.W renaming Frag → UB, mg_of → VN, kia_one → Wq, mg_none_of → Ws, fnOf → Xo, keepIn → XR, KeysLit → Ys, methodObj → YY, mg_of → Y8, cellsFrom_some → Zu, nsIn → ZD, OpenLaw → ZJ, codeIn → ZZ, kitx_list → zaY, plainGet → zbe, mapOf_K → zbw, kitOne → zbO, WalkO → zb2
open PySem renaming Value → UC, Shared → UE, starEach → UI, FuncData → US, Program → UT, wpAny → UU, model → U1, Expr → U5, Around → U9, World → Va, wpAny_callSpecial?_slot → Vi, bootBuiltins → Vm, backTo → Vr, wpAny_call_entry → Vu, compareOp → VG, eval → VI, mainGlobals → VM, wpAny_newObj_type → VP, mem_of_lookup → VT, wpAny_truthy_bool → VU, foldedSetIterable → VV, wpAny_field → VW, assignEach → V1, wpAny_seqItems → V4, wpAny_setField → V5, IsPair → V6, SetTable → V8, wpAny_setState_of → V9, wpAny_mono → Wg, wpAny_setEntries_of → Wt, behindInMarks → Wx, strLen_append → WB, DictEntry → WC, wpAny_Call_Name_kw → WE, wpAny_setField_rec → WI, wpAny_passesOwn → WM, wpAny_ite_false → WO, binaryOp → WR, IsZip → WU, attributeBase → WX, Keyword → WZ, Builtin → W0, rawInt → W3, intText? → W6, wpAny_of_eq → W7, wpAny_attempt → Xe, pyNext → Xf, codeAny → Xh, sizeLine_eq → Xk, keywordEach → Xl, wpAny_updateSeq_pair → Xm, sliceBounds → XE, pickOrder → XI, wpAny_pyIter_list → XT, wpAny_fieldsOf → XY, swapsWithSole → Yb, swappedStores → Yc, plainId_quiet → Ye, NameKind → Yf, wpAny_execs_nil → Yl, letOwnedTupleGo → Ym, wpAny_loadPart' → Yu, codeAny_mono → Yy, swapsWith → YF, assign → YH, backToKw → YN, call → YO, firstArgMember → YR, holding → Y0, wpAny_standAt → Y5, intBits_le_64 → Y6, wpAny_onRaise → Y9, noFill_tuple_add → Zf, relayAll → Zl, Paired → Zq, sysModules → Zr, wpAny_pyNext_list_item → Zt, concat_meets → Zv, wpAny_Call_method_late → Zx, call_meets → Zz, callerA → ZA, wpAny_ite_split → ZO, wpAny_pyNext_list_end → ZP, builtinLookup_eq_fast → ZT, hashByValue → Z6, lastMarks → zae, getItem → zaf, KeyKind → zag, setNext → zah, assignInOrder → zaq, seq_tuple_add → zar, pyIter → zaF, wpAny_call → zaH, typeIs_str → zaJ, wpAny_pyIter_tuple → zaK, findBy → zaN, CmpOp → zaR, BindsTo → zaS, wpAny_sequenceKey → zaT, seqIndex_neg → zaU, slot_list_getitem → zaV, valueAt → zaW, wpAny_storeSet_of → za4, fits_of_scanBound → za5, wpAny_pyIter_slot → za8, wpAny_setEpoch_of → za9, wpAny_execs_cons → zbc, PassesOwn → zbd, Params → zbg, wpAny_pyIter_zip → zbl, strValues → zbn, seqIndex_of → zbo, wpAny_letGo → zbp, spliced → zbC, builtinsNs → zbF, Model → zbG, wpAny_Name → zbH, bindName → zbI, Result → zbJ, bindL → zbK, bindC → zbL, ItemsAre → zbM, compEnvC → zbP, compPost → zbQ, field → zbR, isInstance → zbT, entryFor → zbY
open PySem.Heap renaming get?_push_of_some → UD, lt_size → UO, get?_push_size → UP, get?_update_self → Vz, get?_update_other → VC, SameBut → Wu, size_push → XU, ExtBut → Z1
open False renaming elim → UG
open Iff renaming rfl → UH
open List renaming length_map → UJ, mem_cons_self → UK, mem_cons_of_mem → UN, mem_cons → UQ, size_toArray → UR, length_cons → UX, length_append → UY, mem_singleton → UZ, not_mem_nil → U2, mem_map → U3, replicate → Vb, map_append → Vc, mem_append_right → Vd, append_nil → Ve, getElem?_eq_getElem → Vf, map_map → Vg, mem_append → Vo, find?_cons → Vp, map_cons → Vt, all_eq_true → Vv, getElem?_map → VB, getElem?_eq_some_iff → VJ, length → VQ, getElem?_append_right → VR, append_assoc → V7, nodup_cons → Wc, length_replicate → We, lookup_cons → Wh, getElem?_cons_succ → Wj, length_eq_zero_iff → Wm, range → Wo, cons_append → WD, nil_append → WN, getElem?_set_ne → WQ, mem_range → W2, eq_nil_of_length_eq_zero → W8, length_singleton → Xg, nodup_append → Xj, all_map → Xp, getElem?_append_left → Xq, drop_eq_getElem_cons → Xs, replicate_succ → Xu, getElem?_cons_zero → XG, getElem?_set_self → XM, length_range → XZ, findIdx_lt_length_of_exists → X0, getElem?_eq_none → X3, filterMap_append → X4, length_take → X7, drop_length → X8, any_eq_true → X9, any_cons → Yd, mem_of_getElem? → Yg, forIn_cons → Yo, length_nil → Yv, filterMap_cons → Yw, map_nil → Yz, zipWith → YC, ext_getElem? → Y2, getElem?_replicate → Ze, length_drop → Zg, getElem_mem → Zk, take_of_length_le → ZE, of_mem_zip → ZI, foldl_cons → ZM, getElem?_toArray → ZU, filterMap_eq_map → ZW, mem_append_left → ZY, mem_iff_getElem → Z4, length_eraseIdx → Z7, mem_of_mem_drop → Z9, head?_replicate → zaa, map_congr_left → zaj, length_zipWith → zal, length_pos_iff → zao, mem_filterMap → zaG, pairwise_cons → zaP, filter_cons → zbh, zipIdx_cons → zbk, append → zbq, mem_filter → zbr, zipIdx_nil → zbu, forIn_nil → zbS, findIdx? → zb3, map → zcp, set → zcq, not_lt → zcr
open PySem.PyData renaming strOk → UL, eqv → WY, eqvAll → Y7, canLayAll0 → zaX, depthAll → zbt, canLay0 → zbN
open Bool renaming and_eq_true → UM, false_and → U6, true_and → U7, and_false → WJ, false_eq_true → W9, beq_eq_decide_eq → X2, false_ne_true → YJ, and_true → Zb, or_eq_true → ZN, not_false → Z2, or_false → zas, not_true → zav, and_self → zaB, false_or → zaD, eq_iff_iff → zbx, decide_and → zbB, or_true → zcf, true_or → zcg
open Nat renaming ne_of_lt → UW, le_refl → U0, lt_of_lt_of_le → U4, le_trans → Vy, zero_le → Wz, lt_irrefl → Xd, ne_of_gt → XO, lt_trans → XX, succ_lt_succ_iff → Yh, min_le_left → Yn, reduceAdd → Za, reduceLeDiff → Zi, zero_lt_succ → Zj, le_of_lt → Zs, reduceLT → ZF, zero_lt_one → ZK, lt_add_one → Z3, reduceSub → zau, sub_self → za0, succ_le_succ → zbi, min_eq_right → zbm, min_eq_left → zbv, mul_le_mul → zbX, le_of_dvd → zb6, le_total → zcc, succ_mul → zce, toDigits → zcj, add_comm → zck
open PySem.Obj renaming data_mapFields → U8, isFreed_of_fields → VX, mapFields → WA, mapSeq → WG, cls_mapFields → WS
open Array renaming all_eq_true_iff_forall_mem → Vh, getElem?_eq_getElem → VA, length_toList → VS, getElem?_eq_none → Wv, getElem?_toList → WK, mem_toList_iff → WV, getElem?_eq_none_iff → YT, size_append → Y1, mem_iff_getElem → ZQ, toList_append → zam, append_assoc → zaE, toList → zcb
open PySem.Builtin.SmallTypes renaming nextOf → Vj, ownedTupleIsFree → VZ, ownedTupleHandOut → Xt
open Int renaming toNat_natCast → Vn, mul_le_mul_of_nonneg_right → Vw, gcd → Vx, eq_ofNat_of_zero_le → Wl, gcd_pos_of_ne_zero_right → Yr, ediv_eq_of_eq_mul_right → YB, dvd_gcd_mul_iff_dvd_mul → YE, natCast_nonneg → YS, fmod_eq_emod_of_nonneg → YU, mul_neg_of_pos_of_neg → YV, le_of_mul_le_mul_left → YX, mul_left_comm → Y4, le_ediv_iff_mul_le → ZH, reduceToNat → ZL, natAbs_dvd_natAbs → ZV, mul_nonneg → zab, reducePow → zaw, reduceNeg → zax, reduceSub → zay, reduceAdd → zaz, reduceMul → zaA, natAbs_natCast → zaL, gcd_zero_right → zaM, reduceEq → za1, lt_trichotomy → za2, mul_comm → zbb, mul_assoc → zb7, gcd_comm → zcd, le_trans → zch
open Ne renaming symm → Vq
open PySem.Value renaming ref → Vs, isStrOf → VH, none → VO, str → XB, bool → Zn, type → Zo, int → zad, isInt → zcm
open PyProof.Rows renaming slot_tuple_getitem → VD, callWith_type1 → V3, joinOk_of → Ww, callWith_builtin1 → W4, seqObj → Xz, StrsAre → XW, toString_length_le → X1, formatField_int_small → X5, kindOf → X6, FormattedValue_plain → Yk, assignInOrder_cons → YI, envOfC → YK, AllBare → YZ, intBits_le → Zh, subscriptTail_builtinR → Zw, mem_join → ZX, joinParts_cons → Z8, entry_tuple_getitem → zai, args_tuple_getitem → zaI, assignInOrder_nil → zaQ, IntsAre → zbD, int_text_free' → zbE, sortedHeap → zbW, digit_range → zb8, split_pos → zci
open PySem.Heap.SameBut renaming update → VE, refl → zcv
open Option.some renaming inj → VF, injEq → za3
open PySem.SetTable renaming fresh → VL, below → Wa, grown → W5, fits → zb5
open PySem.Builtin.List renaming listTooLong → VY, listExtendWith → Xi, listLengthHint → YD, listSameRef → Zc
open PySem.PassesOwn renaming never → V0
open PySem.Builtin.Str renaming occurrences → V2, partsBetween → Zd, tooLong → zan, strKind → zap
open PySem.NameKind renaming free → Wi, cell → zat
open ForInStep renaming yield → Wr
open PySem.F renaming slot_tuple_iterator_next → WH, args_tuple_add_2 → Xw, entry_tuple_add → XD, plainAttrs_list → XF, slot_tuple_add → XS, args_tuple_iterator_next_1 → Yp, slot_zip_next → Yq, entry_tuple_iterator_next → YA, plain_extend_loop → YW, slot_str_join → ZR, type_str_join → ZS, args_list_extend_2 → Z5, entry_list_extend → zak, slot_list_extend → zaO, args_zip_next_1 → zaZ, plain_list_iadd → zba, entry_zip_next → zbj, plain_set_new → zby, slot_set_iter → zbA
open PySem.Builtin.Slice renaming slicePlaces → WL, sliceAdjust → Xr, sliceApplied → YL, slicePartIndex → zbs, sliceFields → zb0
open PySem.Builtin.Tuple renaming tupleExact → WW, tupleItemsOf → YM, tupleIsExact → zbU
open PySem.StrLaws renaming join_length_le → Xa
open List.cons renaming injEq → Xc
open PySem.Around renaming under_plainId → Xn
open Option renaming isSome_iff_exists → Xv, getD_none → zbf, none → zcn
open PySem.Calls renaming spliced_cons → Xx, spliced_nil → XQ, Name_function_global → YG, callWith_builtin → Zy, evalArgs_plain → Z0
open True renaming intro → Xy
open Classical renaming propDecidable → XH
open Sum renaming inr → XJ, inl → zac
open PySem.AutoSeq1 renaming sub_tuple_tuple → Ya, sub_tuple_list → Yi, sub_list_tuple → Yj, sub_list_list → Yt, idx_int → ZG
open Function renaming comp_apply → Yx
open Or renaming inr → YQ, inl → ZC
open PyProof.Rows.F renaming plain_set_update_loop → Zm
open PySem.Shared renaming TypeIs → zaC, heap → zco
open PySem.pickOrder renaming go → za6
open PySem.SetTable.below renaming go → za7
open PySem.Builtin.Frozenset renaming updateFrom → zbz, isAnySet → zbZ, sizeOf → zb4, slot0 → zca
open PySem.SeqAt renaming EqAt → zbV
open PySem.Paired renaming length → zb1
open PySem.Builtin.Range renaming rangeSize → zb9
open PySem.setAddHashedIn renaming eq_def → zcl
open PySem.Heap.IsSliceOf renaming new → zcs
open PySem.W.WShape renaming has → zct
open List.Pairwise renaming nil → zcu
open List.Sublist renaming refl → zcw
namespace L2
open PySem PySem.Spec PyProof.Rows
abbrev Key:=Sum Int Str
def pK:Key->UC->Bool
 | .inl k,v=>zcm k v
 | .inr x,v=>VH x v
def T8 (w:Va):Key->Int
 | .inl k=>hashInt k
 | .inr x=>hashStr w x
theorem bK:∀ {k:Key} {v:UC},pK k v=true->(∃ i t,k=zac i/\v=zad i t)∨(∃ x t,k=XJ x/\v=XB x t)
 | .inl i,v,h=>by
  obtain ⟨t,e⟩:=Value.isInt_shape (k:=i) (v:=v) h
  exact .inl ⟨i,t,rfl,e⟩
 | .inr x,v,h=>by
  obtain ⟨t,e⟩:=Value.isStrOf_shape (x:=x) (v:=v) h
  exact .inr ⟨x,t,rfl,e⟩
theorem FG (i:Int)(t:Tok):pK (.inl i) (.int i t)=true:=by simp[pK,zcm]
theorem FE (x:Str)(t:Tok):pK (.inr x) (.str x t)=true:=by simp[pK,VH]
theorem O5 (a b:Int):decide ((zac a:Key)=zac b)=(a == b):=by
 by_cases e:a=b
 ·subst e;simp
 ·have h:¬ (zac a:Key)=zac b:=λq=>e (Sum.inl.inj q)
  rw[decide_eq_false h]
  exact (beq_eq_false_iff_ne.mpr e).symm
theorem PC (a b:Str):decide ((XJ a:Key)=XJ b)=decide (a=b):=by
 by_cases e:a=b
 ·subst e;simp
 ·have h:¬ (XJ a:Key)=XJ b:=λq=>e (Sum.inr.inj q)
  rw[decide_eq_false h,decide_eq_false e]
theorem Pl (a:Int)(b:Str):decide ((zac a:Key)=XJ b)=false:=decide_eq_false (λq=>nomatch q)
theorem O8 (a:Str)(b:Int):decide ((XJ a:Key)=zac b)=false:=decide_eq_false (λq=>nomatch q)
def eV (prog:UT)(w:Va):PySem.KeyKind prog w Key where
 is:=pK
 hash:=T8 w
 inj:=λv a b ha hb=>by
  rcases bK ha with ⟨i,t,rfl,rfl⟩ | ⟨x,t,rfl,rfl⟩
  ·rcases bK hb with ⟨j,u,rfl,e⟩ | ⟨y,u,rfl,e⟩
   ·injection e with e1 _;rw[e1]
   ·exact nomatch e
  ·rcases bK hb with ⟨j,u,rfl,e⟩ | ⟨y,u,rfl,e⟩
   ·exact nomatch e
   ·injection e with e1 _;rw[e1]
 byValue:=λk v h=>by
  rcases bK h with ⟨i,t,rfl,rfl⟩ | ⟨x,t,rfl,rfl⟩ <;> rfl
 pyHash:=λhv h=>by
  rcases bK hv with ⟨i,t,rfl,rfl⟩ | ⟨x,t,rfl,rfl⟩
  ·exact wpAny_pyHash_int h
  ·exact wpAny_pyHash_str h
 eqBool:=λhu hv h=>by
  rcases bK hu with ⟨i,t,rfl,rfl⟩ | ⟨x,t,rfl,rfl⟩
  ·rcases bK hv with ⟨j,u,rfl,rfl⟩ | ⟨y,u,rfl,rfl⟩
   ·rw[O5] at h;exact wpAny_eqBool_int h
   ·rw[Pl] at h;exact SeqAt.EqAt.int_str i t y u _ _ _ _ h
  ·rcases bK hv with ⟨j,u,rfl,rfl⟩ | ⟨y,u,rfl,rfl⟩
   ·rw[O8] at h;exact SeqAt.EqAt.str_int x t j u _ _ _ _ h
   ·rw[PC] at h;exact wpAny_eqBool_str h
 «strs»:=λk x t v h=>by
  rcases bK h with ⟨i,u,rfl,e⟩ | ⟨y,u,rfl,e⟩
  ·exact nomatch e
  ·injection e with e1 _
   subst e1
   cases v<;>rfl
theorem zZ (prog:UT)(w:Va)(i:Int)(t:Tok):(eV prog w).is (.inl i) (.int i t)=true:=FG i t
theorem Bc (prog:UT)(w:Va)(x:Str)(t:Tok):(eV prog w).is (.inr x) (.str x t)=true:=FE x t
end L2
namespace L2
open PySem PySem.Spec PyProof.Rows
inductive V where
 | non | bl (b:Bool) | int (i:Int) | str (x:Str) | byt (b:Array UInt8) | flt (b:UInt64) | ref (a:Addr) | ty (n:String)
 deriving DecidableEq
def RelV:V->UC->Prop
 | .non,u=>u=VO
 | .bl b,u=>u=Zn b
 | .int i,u=>∃ t,u=zad i t
 | .str x,u=>∃ t,u=XB x t
 | .byt b,u=>∃ t,u=Value.bytes b t
 | .flt b,u=>∃ t,u=Value.float b t
 | .ref a,u=>u=Vs a
 | .ty n,u=>u=Zo n
abbrev Vals:List V->List UC->Prop:=Zq RelV
theorem Vals.length {xs:List V}{us:List UC}(r:Vals xs us):xs.length=us.length:=zb1 r
theorem Vals.get:∀ {xs:List V} {us:List UC} {i:Nat} {x:V},Vals xs us->xs[i]? = some x->∃ u,us[i]? = some u/\RelV x u
 | _,_,_,_,.nil,e=>by simp at e
 | _,_,0,_,.cons r _,e=>by simp at e;subst e;exact ⟨_,rfl,r⟩
 | _,_,i+1,x,.cons _ t,e=>by
  obtain ⟨u,h1,h2⟩:=Vals.get (i:=i) (x:=x) t (by simpa using e)
  exact ⟨u,by simpa using h1,h2⟩
theorem Vals.set {x:V}{u:UC}(r:RelV x u):∀ {xs:List V} {us:List UC} (i:Nat),Vals xs us->Vals (xs.set i x) (us.set i u)
 | _,_,_,.nil=>.nil
 | _,_,0,.cons _ t=>.cons r t
 | _,_,i+1,.cons q t=>.cons q (Vals.set r i t)
theorem Vals.append:∀ {xs ys:List V} {us ws:List UC},Vals xs us->Vals ys ws->Vals (xs++ys) (us++ws)
 | _,_,_,_,.nil,s=>s
 | _,_,_,_,.cons r t,s=>.cons r (Vals.append t s)
theorem Vals.take:∀ {xs:List V} {us:List UC} (n:Nat),Vals xs us->Vals (xs.take n) (us.take n)
 | _,_,0,_=>.nil
 | _,_,_+1,.nil=>.nil
 | _,_,n+1,.cons r t=>.cons r (Vals.take n t)
theorem Vals.drop:∀ {xs:List V} {us:List UC} (n:Nat),Vals xs us->Vals (xs.drop n) (us.drop n)
 | _,_,0,r=>r
 | _,_,_+1,.nil=>.nil
 | _,_,n+1,.cons _ t=>Vals.drop n t
def Gg:Option V->Option UC->Prop
 | some v,some u=>RelV v u
 | none,none=>True
 | _,_=>False
def KV {κ:Type}:List (κ×V)->List (κ×UC)->Prop:=Zq λ(p:κ×V) (q:κ×UC)=>p.1=q.1/\RelV p.2 q.2
def kV:Key->V
 | .inl i=>.int i
 | .inr x=>.str x
inductive HO where
  | lst (xs:List V)
  | tup (xs:List V)
  | dK (kvs:List (Key×V)) | dT (kvs:List (List Key×V))
  | set (S:Int->Bool) (n:Nat)
  | ins (C dx:Addr) (fs:List (Str×V))
  | own (x:Addr)
  | xd (fs:List (Str×V))
  | met (f x:Addr)
  | rng (lo hi:Int)
  | frz (o:Obj) (u:HO)
  | tbl (ps:Array UC)
  | ext (φ:Heap->Prop)
abbrev Hp:=Addr->Option HO
def upd (H:Hp)(a:Addr)(o:HO):Hp:=λb=>if b=a then some o else H b
theorem bc {H:Hp}{a:Addr}{o:HO}:upd H a o a=some o:=by unfold upd;rw[if_pos rfl]
theorem aV {H:Hp}{a b:Addr}{o:HO}(h:b≠a):upd H a o b=H b:=by unfold upd;rw[if_neg h]
theorem xu {H:Hp}{a:Addr}{o u:HO}:upd (upd H a o) a u=upd H a u:=by
 funext b;unfold upd;split<;>rfl
theorem bX {H:Hp}{a b:Addr}{o:HO}(h:H a=some o)(h':H b=none):a≠b:=by
 intro e;subst e;rw[h] at h';cases h'
def Ao (h:Heap)(a:Addr)(items:Array UC):Prop:=∃ n,h.get? a=some { cls:=.type "tuple", data:=.seq items n }
theorem Ao.tup {h:Heap}{a:Addr}{items:Array UC}(p:Ao h a items):IsTup h a items:=by obtain ⟨n,e⟩:=p;exact ⟨_,e,rfl,n,rfl⟩
theorem Ao.new (h:Heap)(items:Array UC):Ao (h.push { cls:=.type "tuple", data:=.seq items }) h.objs.size items:=⟨_,UP _ rfl⟩
section
variable (P:UT) (w:Va)
def gn (H:Hp)(h:Heap)(a:Addr):HO->Prop
 | .lst xs=>xs.length<=sizeLine/\∃ (its:List UC) (n:Nat),Vals xs its/\h.get? a=some { cls:=.type "list", data:=.seq its.toArray n }
 | .tup xs=>xs.length<=sizeLine/\∃ its:List UC,Vals xs its/\Ao h a its.toArray
 | .dK kvs=>kvs.length<=sizeLine/\(a == Zr)=false/\∃ vs,KV kvs vs/\h.DictOf (eV P w) a vs
 | .dT kvs=>kvs.length<=sizeLine/\(a == Zr)=false/\∃ xs:List (List Key×Addr×UC),
   Zq (λ(p:List Key×V) (q:List Key×Addr×UC)=>p.1=q.1/\H q.2.1=some (.tup (p.1.map kV))/\RelV p.2 q.2.2) kvs xs/\
   ∃ o es ep,h.get? a=some o/\o.ExactDict/\o.data=.dict es ep/\es.toList=xs.map (entryOfKey (tupleKind (eV P w)))/\(xs.map (·.1)).Nodup
 | .set S n=>h.SetOf (intKind P w) a S n
 | .ins C dx fs=>H dx=some (.own a)/\fs.length<=1000/\dx≠a/\h.get? a=some (PySem.W.instObj C dx)/\
   ∃ mA,h.Ns1 dx mA/\(∀ f,Gg (fs.lookup f) (mA f))/\PySem.Within mA (fs.map (·.1))
 | .own _=>∃ o,h.get? a=some o
 | .xd fs=>∃ mA,h.Ns1 a mA/\∀ f,Gg (fs.lookup f) (mA f)
 | .rng lo hi=>∃ t u v,h.get? a=some { cls:=.type "range", data:=.fields #[.int lo t,.int hi u,.int 1 v] }
 | .frz o u=>h.get? a=some o/\gn H h a u
 | .tbl ps=>h.get? a=some { cls:=.none,data:=.fields ps }
 | .met f x=>h.get? a=some (YY (.ref f) (.ref x))
 | .ext φ=>φ h/\(∃ o,h.get? a=some o)/\∀ h1 h2:Heap,φ h1->(∀ o,h1.get? a=some o->h2.get? a=some o)->φ h2
def HOk (H:Hp)(h:Heap):Prop:=∀ a o,H a=some o->gn P w H h a o
end
section
variable {P:UT} {w:Va} {H H':Hp} {h h':Heap} {a:Addr} {o:HO}
theorem gn.lt (x:gn P w H h a o):a < h.objs.size:=by
 cases o with
 | lst xs=>obtain ⟨_,_,_,_,e⟩:=x;exact UO e
 | tup xs=>obtain ⟨_,_,_,p⟩:=x;exact p.tup.lt
 | dK kvs=>obtain ⟨_,_,_,_,o,_,_,e,_⟩:=x;exact UO e
 | dT kvs=>obtain ⟨_,_,_,_,o,_,_,e,_⟩:=x;exact UO e
 | set S n=>obtain ⟨o,_,_,_,e,_⟩:=x;exact UO e
 | ins C dx fs=>obtain ⟨_,_,_,e,_⟩:=x;exact UO e
 | own y=>obtain ⟨_,e⟩:=x;exact UO e
 | xd fs=>obtain ⟨_,⟨_,_,_,e,_⟩,_⟩:=x;exact UO e
 | rng lo hi=>obtain ⟨_,_,_,e⟩:=x;exact UO e
 | frz ob u=>obtain ⟨e,_⟩:=x;exact UO e
 | tbl ps=>exact UO (show h.get? a=some _ from x)
 | met f y=>exact UO (show h.get? a=some _ from x)
 | ext φ=>obtain ⟨_,⟨_,e⟩,_⟩:=x;exact UO e
theorem Zq.OZ {α β:Type}{F G:α->β->Prop}:∀ {l₁:List α} {l₂:List β},Zq F l₁ l₂->(∀ a b,F a b->G a b)->Zq G l₁ l₂
 | _,_,.nil,_=>.nil
 | _,_,.cons r t,f=>.cons (f _ _ r) (Zq.OZ t f)
theorem gn.rY (x:gn P w H h a o)(k:∀ b u,(b=a∨H b=some (.own a))->h.get? b=some u->h'.get? b=some u)
  (ho:∀ b,H b=some (.own a)->H' b=some (.own a)) (ht:∀ b xs,H b=some (.tup xs)->H' b=some (.tup xs)):gn P w H' h' a o:=by
 induction o with
 | lst xs=>obtain ⟨z,its,n,r,e⟩:=x;exact ⟨z,its,n,r,k _ _ (.inl rfl) e⟩
 | tup xs=>obtain ⟨z,its,r,m,e⟩:=x;exact ⟨z,its,r,m,k _ _ (.inl rfl) e⟩
 | dK kvs=>obtain ⟨z,y,vs,r,ob,es,ep,e,c⟩:=x;exact ⟨z,y,vs,r,ob,es,ep,k _ _ (.inl rfl) e,c⟩
 | dT kvs=>
  obtain ⟨z,y,xs,r,ob,es,ep,e,c⟩:=x
  exact ⟨z,y,xs,Zq.OZ r λp q z=>⟨z.1,ht _ _ z.2.1,z.2.2⟩,ob,es,ep,k _ _ (.inl rfl) e,c⟩
 | set S n=>obtain ⟨ob,es,ep,t,e,c⟩:=x;exact ⟨ob,es,ep,t,k _ _ (.inl rfl) e,c⟩
 | ins C dx fs=>
  obtain ⟨d,z,ne,e,mA,⟨od,es,ep,e2,c⟩,r⟩:=x
  exact ⟨ho _ d,z,ne,k _ _ (.inl rfl) e,mA,⟨od,es,ep,k _ _ (.inr d) e2,c⟩,r⟩
 | own y=>obtain ⟨ob,e⟩:=x;exact ⟨ob,k _ _ (.inl rfl) e⟩
 | xd fs=>obtain ⟨mA,⟨od,es,ep,e,c⟩,r⟩:=x;exact ⟨mA,⟨od,es,ep,k _ _ (.inl rfl) e,c⟩,r⟩
 | rng lo hi=>obtain ⟨t,u,v,e⟩:=x;exact ⟨t,u,v,k _ _ (.inl rfl) e⟩
 | frz ob u ih=>obtain ⟨e,q⟩:=x;exact ⟨k _ _ (.inl rfl) e,ih q⟩
 | tbl ps=>
  have e:h.get? a=some { cls:=.none,data:=.fields ps }:=x
  show h'.get? a=some { cls:=.none,data:=.fields ps }
  exact k a _ (.inl rfl) e
 | met f y=>
  have e:h.get? a=some (YY (.ref f) (.ref y)):=x
  show h'.get? a=some (YY (.ref f) (.ref y))
  exact k a _ (.inl rfl) e
 | ext φ=>obtain ⟨p,⟨o,e⟩,st⟩:=x;exact ⟨st _ _ p λo q=>k _ _ (.inl rfl) q,⟨o,k _ _ (.inl rfl) e⟩,st⟩
theorem HOk.lt (x:HOk P w H h)(e:H a=some o):a < h.objs.size:=(x a o e).lt
theorem HOk.fresh (x:HOk P w H h)(e:h.objs.size<=a):H a=none:=by
 cases q:H a with
 | none=>rfl
 | some u=>exact absurd (U4 (x.lt q) e) (Xd _)
theorem HOk.kept (x:HOk P w H h)(k:∀ b u,h.get? b=some u->h'.get? b=some u):HOk P w H h':=λa o e=>
 (x a o e).rY (λb u _ q=>k b u q) (λ_ q=>q) λ_ _ q=>q
theorem HOk.laid (x:HOk P w H h)(k:∀ b u,h.get? b=some u->h'.get? b=some u)(hp:h.objs.size<=a)(new:gn P w (upd H a o) h' a o):HOk P w (upd H a o) h':=λb u e=>by
 have hn:=x.fresh hp
 by_cases hb:b=a
 ·subst hb;rw[bc] at e;cases e;exact new
 ·rw[aV hb] at e
  exact (x b u e).rY (λc v _ q=>k c v q) (λc q=>by rw[aV (bX q hn)];exact q) λc xs q=>by rw[aV (bX q hn)];exact q
end
def Rd (H:Hp)(a:Addr)(u:HO):Prop:=H a=some u∨∃ o,H a=some (.frz o u)
theorem Rd.ok {P:UT}{w:Va}{H:Hp}{h:Heap}{a:Addr}{u:HO}(r:Rd H a u)(x:HOk P w H h):gn P w H h a u:=by
 rcases r with r | ⟨o,r⟩
 ·exact x a u r
 ·obtain ⟨_,q⟩:=x a _ r
  exact q
def Mut:Option HO->Prop
 | some (.lst _)=>True
 | some (.dK _)=>True
 | some (.dT _)=>True
 | some (.set _ _)=>True
 | some (.ins _ _ _)=>True
 | some (.ext _)=>True
 | _=>False
section
variable {P:UT} {w:Va} {H:Hp} {h h':Heap} {x e:Addr} {o':HO}
theorem HOk.write (ok:HOk P w H h)(mu:Mut (H x))(he:e=x∨H e=some (.own x))(k:∀ b u,b≠e->h.get? b=some u->h'.get? b=some u)(heo:∃ u,h'.get? e=some u)
  (new:gn P w (upd H x o') h' x o'):HOk P w (upd H x o') h':=λb u q=>by
 have RI:∀ c y,H c=some (.own y)->c≠x:=λc y r z=>by subst z;rw[r] at mu;exact mu
 have Uh:∀ c xs,H c=some (.tup xs)->c≠x:=λc xs r z=>by subst z;rw[r] at mu;exact mu
 by_cases hb:b=x
 ·subst hb;rw[bc] at q;cases q;exact new
 ·rw[aV hb] at q
  by_cases hbe:b=e
  ·have q':H b=some (.own x):=by
    rcases he with z | z
    ·exact absurd (hbe.trans z) hb
    ·rw[hbe];exact z
   rw[q] at q';cases q'
   obtain ⟨v,hv⟩:=heo
   exact ⟨v,by rw[hbe];exact hv⟩
  ·refine (ok b u q).rY (λc v hc r=>k c v ?_ r) (λc r=>by rw[aV (RI c b r)];exact r) λc xs r=>by rw[aV (Uh c xs r)];exact r
   rcases hc with rfl | hc
   ·exact hbe
   ·rintro rfl
    rcases he with z | z
    ·exact RI c b hc z
    ·rw[hc] at z;cases z;exact hb rfl
end
structure Un (fs ex:List Addr) (H H':Hp) (h h':Heap):Prop where
 keep:∀ b o,h.get? b=some o->H b=none->b ∉ fs->b ∉ ex->h'.get? b=some o
 slot:∀ b o,h.get? b=some o->H b=none->b∈fs->b ∉ ex->∃ sl,h'.get? b=some { o with slots:=sl }
 free:∀ b o,h.get? b=some o->H b=none->b ∉ ex->H' b=none
 there:∀ b o,h.get? b=some o->b ∉ ex->∃ o',h'.get? b=some o'
 qh:∀ b xs,H b=some (.tup xs)->H' b=some (.tup xs)
 ou:∀ b o u,H b=some (.frz o u)->H' b=some (.frz o u)
 qo:∀ b ps,H b=some (.tbl ps)->∃ more,H' b=some (.tbl (ps++more))
section
variable {fs fs' ex ex':List Addr} {H H1 H2:Hp} {h h1 h2 h':Heap} {a x e:Addr} {o:HO}
theorem Un.any (u:Un fs ex H H1 h h1){b:Addr}{ob:Obj}(q:h.get? b=some ob)(n:H b=none)(hx:b ∉ ex):∃ sl,h1.get? b=some { ob with slots:=sl }:=by
 by_cases hb:b∈fs
 ·exact u.slot b ob q n hb hx
 ·exact ⟨ob.slots,u.keep b ob q n hb hx⟩
theorem Un.trans (a:Un fs ex H H1 h h1)(b:Un fs ex H1 H2 h1 h2):Un fs ex H H2 h h2 where
 keep:=λc ob q n hc hx=>b.keep c ob (a.keep c ob q n hc hx) (a.free c ob q n hx) hc hx
 slot:=λc ob q n hc hx=>by
  obtain ⟨sl,e1⟩:=a.slot c ob q n hc hx
  obtain ⟨sl',e2⟩:=b.slot c _ e1 (a.free c ob q n hx) hc hx
  exact ⟨sl',e2⟩
 free:=λc ob q n hx=>by
  obtain ⟨o',e1⟩:=a.there c ob q hx
  exact b.free c o' e1 (a.free c ob q n hx) hx
 there:=λc ob q hx=>by
  obtain ⟨o',e1⟩:=a.there c ob q hx
  exact b.there c o' e1 hx
 qh:=λc xs q=>b.qh c xs (a.qh c xs q)
 ou:=λc ob xs q=>b.ou c ob xs (a.ou c ob xs q)
 qo:=λc ps q=>by
  obtain ⟨m1,e1⟩:=a.qo c ps q
  obtain ⟨m2,e2⟩:=b.qo c _ e1
  exact ⟨m1++m2,by rw[e2,zaE]⟩
theorem Un.kept (k:∀ b u,h.get? b=some u->h'.get? b=some u):Un fs ex H H h h':=
 ⟨λb ob q _ _ _=>k b ob q,λb ob q _ _ _=>⟨ob.slots,k b ob q⟩,λ_ _ _ n _=>n,λb ob q _=>⟨ob,k b ob q⟩,λ_ _ q=>q,λ_ _ _ q=>q,λ_ ps q=>⟨#[],by rw[q];simp⟩⟩
theorem Un.refl:Un fs ex H H h h:=Un.kept λ_ _ q=>q
theorem Un.laid (k:∀ b u,h.get? b=some u->h'.get? b=some u)(hp:h.objs.size<=a)(hn:H a=none):Un fs ex H (upd H a o) h h' where
 keep:=λb u q _ _ _=>k b u q
 slot:=λb u q _ _ _=>⟨u.slots,k b u q⟩
 free:=λb u q n _=>by rw[aV (UW (U4 (UO q) hp))];exact n
 there:=λb u q _=>⟨u,k b u q⟩
 qh:=λb xs q=>by rw[aV (bX q hn)];exact q
 ou:=λb u xs q=>by rw[aV (bX q hn)];exact q
 qo:=λb ps q=>⟨#[],by rw[aV (bX q hn),q];simp⟩
theorem Un.write (mu:Mut (H x))(he:e=x∨H e=some (.own x))(k:∀ b u,b≠e->h.get? b=some u->h'.get? b=some u)(heo:∃ u,h'.get? e=some u):Un fs ex H (upd H x o) h h':=by
 have hx:∀ b,H b=none->b≠x:=λb n z=>by subst z;rw[n] at mu;exact mu
 have hb:∀ b,H b=none->b≠e:=λb n z=>by
  subst z
  rcases he with r | r
  ·exact hx b n r
  ·rw[n] at r;cases r
 have hm:∀ b u,H b=some u->¬ Mut (some u)->b≠x:=λb u q nm z=>by subst z;rw[q] at mu;exact nm mu
 refine ⟨λb u q n _ _=>k b u (hb b n) q,λb u q n _ _=>⟨u.slots,k b u (hb b n) q⟩,λb u q n _=>by rw[aV (hx b n)];exact n,λb u q _=>?_,
  λb xs q=>by rw[aV (hm b _ q λz=>z)];exact q,λb u xs q=>by rw[aV (hm b _ q λz=>z)];exact q,λb ps q=>⟨#[],by rw[aV (hm b _ q λz=>z),q];simp⟩⟩
 by_cases hbe:b=e
 ·subst hbe;exact heo
 ·exact ⟨u,k b u hbe q⟩
theorem Un.mono (u:Un fs ex H H1 h h1)(hs:∀ b∈fs,b∈fs')(hx:∀ b∈ex,b∈ex'):Un fs' ex' H H1 h h1:=
 ⟨λb ob q n hb he=>u.keep b ob q n (λz=>hb (hs b z)) λz=>he (hx b z),λ_ _ q n _ he=>u.any q n λz=>he (hx _ z),λb ob q n he=>u.free b ob q n λz=>he (hx b z),λb ob q he=>u.there b ob q λz=>he (hx b z),u.qh,u.ou,u.qo⟩
end
def trk (h:Heap)(H:Hp):List Addr:=(Wo h.objs.size).filter λa=>(H a).isSome
def yd (h:Heap)(H:Hp):Heap:=PySem.W.hideAll h (trk h H)
theorem Gd (h:Heap)(H:Hp):(yd h H).objs.size=h.objs.size:=PySem.W.hideAll_size _ _
theorem JT {h:Heap}{H:Hp}{b:Addr}{o:Obj}(e:h.get? b=some o)(n:H b=none):(yd h H).get? b=some o:=
 PySem.W.hideAll_get _ e λhm=>by
  have q:(H b).isSome=true:=(zbr.mp hm).2
  rw[n] at q;simp at q
theorem L5 {h:Heap}{H:Hp}{b:Addr}{o:Obj}(e:(yd h H).get? b=some o):h.get? b=some o/\H b=none:=by
 have e':h.get? b=some o:=PySem.W.of_hideAll (trk h H) e
 refine ⟨e',?_⟩
 cases q:H b with
 | none=>rfl
 | some x=>
  have hm:b∈trk h H:=zbr.mpr ⟨W2.mpr (UO e'),by simp[q]⟩
  have z:(yd h H).get? b=none:=PySem.W.hideAll_none (trk h H) hm
  rw[z] at e;cases e
def M6 (g h:Heap)(L:Addr):List (Addr×Obj):=(Wo h.objs.size).filterMap λa=>if a=L∨(g.get? a).isSome=true then none else (h.get? a).map λo=>(a,o)
def rest (g h:Heap)(L d:Addr):List (Addr×Obj):=(M6 g h L).filter λp=>decide (p.1≠d)
end L2
namespace L2
open PySem PySem.Spec PyProof.Rows
structure Mod (K:UB) (mg:Str->Option UC) (base:Heap):Prop where
 kin:K.In base
 glob:base.Ns VM mg
 blt:∃ mb,base.Ns zbF mb/\∀ x:Str,x ≠ "__name__" -> mb x=Vm x
 nolimit:base.NoLimit
structure Cx where
 prog:UT
 w:Va
 K:UB
 mg:Str->Option UC
 base:Heap
 A:U9
 N:List Str
 s₀:UE
 H₀:Hp
 env:Env
 outer:List Env
 stack:List Env
 ex:List Addr
 fn:Str->Bool
 calm:Bool
 pn:List (Addr×Obj)
 xe:UC->UE->Prop
def frs (l:List Env):List Addr:=l.filterMap (·.frame)
abbrev Cx.fs (X:Cx):List Addr:=frs X.outer
def Vis (sc:Scope)(x:Str):Prop:=sc.names.lookup x=some .local∨sc.names.lookup x=some .cell∨sc.names.lookup x=some .free
def Loc (sc:Scope)(x:Str):Prop:=sc.names.lookup x=some .local∨sc.names.lookup x=some .cell
def Look (env:Env)(h:Heap)(m:Str->Option UC)(x:Str)(u:UC):Prop:=
 (env.kindOf x=some .local/\m x=some u)∨((env.kindOf x=some .cell∨env.kindOf x=some .free)/\∃ c,env.cells.lookup x=some c/\h.IsCell c (some u))
structure Cx.Ok (X:Cx):Prop where
 mod:Mod X.K X.mg X.base
 kind:X.env.scope.kind=.function
 glob:X.env.globals=VM
 blt:X.env.builtins=zbF
 above:X.s₀.heap.objs.size<=X.env.locals
 inj:∀ x y c,X.env.cells.lookup x=some c->X.env.cells.lookup y=some c->x=y
 has:∀ x,(X.env.kindOf x=some .cell∨X.env.kindOf x=some .free)->∃ c,X.env.cells.lookup x=some c
 cab:∀ x c,X.fn x=true->X.env.cells.lookup x=some c->X.s₀.heap.objs.size<=c
 hd:X.calm=true->X.A.handled=none
 frames:X.A.frames=some X.stack
 stk:X.stack=X.outer∨(X.stack=X.env::X.outer/\X.env.frame=some X.env.locals)
 exf:∀ b∈X.ex,b≠X.env.locals/\∀ x c,X.env.cells.lookup x=some c->c≠b
 bs:∀ b o,X.base.get? b=some o->X.s₀.heap.get? b=some o/\X.H₀ b=none
 bsz:X.base.objs.size<=X.s₀.heap.objs.size
 Ks:∀ b o,X.base.get? b=some o->b ∉ X.ex
 GZ:∀ b∈X.ex,b ∉ X.fs
 ui:X.s₀.heap.FunFrames X.base X.outer
 frf:∀ b∈X.fs,X.H₀ b=none
structure Inv (X:Cx) (pins:List (Addr×Obj)) (σ:List (Option V)) (H:Hp) (s:UE):Prop where
 ok:X.Ok
 os:s.os=X.s₀.os
 bare:YZ s.gens
 base:Un X.fs X.ex X.H₀ H X.s₀.heap s.heap
 loc:∃ m,s.heap.Ns X.env.locals m/\∀ (i:Nat) (x:Str) (v:V),X.N[i]? = some x->σ[i]? = some (some v)->Vis X.env.scope x->∃ u,RelV v u/\Look X.env s.heap m x u
 cell:∀ x c,X.env.cells.lookup x=some c->∃ v,s.heap.IsCell c v
 free:H X.env.locals=none
 jG:∀ x c,X.env.cells.lookup x=some c->H c=none
 pin:∀ p∈X.pn++pins,s.heap.get? p.1=some p.2/\H p.1=none/\p.1≠X.env.locals/\p.1 ∉ X.fs/\∀ v,p.2.data≠.cell v
 hok:HOk X.prog X.w H s.heap
 len:σ.length=X.N.length
section
variable {X:Cx} {pins:List (Addr×Obj)} {σ:List (Option V)} {H H':Hp} {s:UE} {h':Heap}
theorem Cx.Ok.Ud (ok:X.Ok){b:Addr}{o:Obj}(e:X.base.get? b=some o):b ∉ X.fs:=λhb=>by
 have:=(ok.ui.mem hb).1
 rw[e] at this;cases this
theorem Inv.bs (I:Inv X pins σ H s):∀ b o,X.base.get? b=some o->s.heap.get? b=some o/\H b=none:=λb o e=>
 ⟨I.base.keep b o (I.ok.bs b o e).1 (I.ok.bs b o e).2 (I.ok.Ud e) (I.ok.Ks b o e),I.base.free b o (I.ok.bs b o e).1 (I.ok.bs b o e).2 (I.ok.Ks b o e)⟩
theorem Inv.bk (I:Inv X pins σ H s):∀ b o,X.base.get? b=some o->s.heap.get? b=some o:=λb o e=>(I.bs b o e).1
theorem Inv.mod (I:Inv X pins σ H s):Mod X.K X.mg X.base:=I.ok.mod
theorem Inv.kIn (I:Inv X pins σ H s):X.K.In s.heap:=I.ok.mod.kin.keeps I.bk
theorem Inv.nolimit (I:Inv X pins σ H s):s.heap.NoLimit:=I.ok.mod.nolimit.keeps I.bk
theorem Inv.fr (I:Inv X pins σ H s):∃ m,Fr X.base X.env.locals s.heap m:=
 let ⟨m,hn,_⟩:=I.loc
 ⟨m,hn,I.bk,Vy I.ok.bsz I.ok.above⟩
theorem Inv.lt (I:Inv X pins σ H s):X.env.locals < s.heap.objs.size:=let ⟨_,hn,_⟩:=I.loc;hn.lt
theorem Inv.sz (I:Inv X pins σ H s):X.s₀.heap.objs.size<=s.heap.objs.size:=Vy I.ok.above (Zs I.lt)
theorem Inv.Ux (I:Inv X pins σ H s){a:Addr}(h:s.heap.objs.size<=a):a ∉ X.fs:=λhb=>by
 obtain ⟨_,o,ho,_⟩:=I.ok.ui.mem hb
 exact absurd (U4 (UO ho) (Vy I.sz h)) (Xd _)
theorem Inv.cne (I:Inv X pins σ H s):∀ x c,X.env.cells.lookup x=some c->c≠X.env.locals:=λx c e z=>by
 obtain ⟨v,o,ho,hd⟩:=I.cell x c e
 obtain ⟨m,⟨o',es,ep,ho',hd',_⟩,_⟩:=I.loc
 rw[z,ho'] at ho;cases ho;rw[hd'] at hd;cases hd
theorem Inv.ui (I:Inv X pins σ H s):s.heap.FunFrames X.base X.outer:=by
 have all:∀ (l:List Env),(∀ b∈frs l,b∈X.fs)->X.s₀.heap.FunFrames X.base l->s.heap.FunFrames X.base l:=by
  intro l
  induction l with
  | nil=>intro _ _;trivial
  | cons env r ih=>
   intro hs hl
   obtain ⟨hk,⟨L,o,hf,hn,ho,hd⟩,hr⟩:=hl
   have hL:L∈X.fs:=hs L (by unfold frs;rw[Yw,hf];exact UK)
   obtain ⟨sl,e⟩:=I.base.slot L o ho (I.ok.frf L hL) hL λz=>I.ok.GZ L z hL
   exact ⟨hk,⟨L,_,hf,hn,e,hd⟩,ih (λb hb=>hs b (by unfold frs;rw[Yw,hf];exact UN _ hb)) hr⟩
 exact all X.outer (λ_ hb=>hb) I.ok.ui
theorem Inv.stack (I:Inv X pins σ H s):s.heap.FunFrames X.base X.stack:=by
 rcases I.ok.stk with e | ⟨e,hf⟩
 ·rw[e];exact I.ui
 ·rw[e]
  obtain ⟨m,hn,_⟩:=I.loc
  refine .cons (by rw[I.ok.kind];decide) hf hn ?_ I.ui
  exact Heap.get?_none_of_le (Vy I.ok.bsz I.ok.above)
theorem Inv.Ca (I:Inv X pins σ H s):∀ b∈frs X.stack,b∈X.env.locals::X.fs:=λb hb=>by
 rcases I.ok.stk with e | ⟨e,hf⟩
 ·rw[e] at hb;exact UN _ hb
 ·rw[e] at hb
  unfold frs at hb
  rw[Yw,hf] at hb
  exact hb
theorem Inv.Ef (I:Inv X pins σ H s):∀ b∈frs X.stack,H b=none:=λb hb=>by
 rcases UQ.mp (I.Ca b hb) with e | hb
 ·rw[e];exact I.free
 ·obtain ⟨_,o,ho,_⟩:=I.ok.ui.mem hb
  exact I.base.free b o ho (I.ok.frf b hb) λz=>I.ok.GZ b z hb
theorem Inv.step {g':Array GenState}{t':Nat}{d':Drawn}{ch:List Addr}(I:Inv X pins σ H s)
  (hch:∀ b∈ch,(b∈X.ex∨X.s₀.heap.objs.size<=b)/\b≠X.env.locals/\(∀ x c,X.env.cells.lookup x=some c->c≠b)/\∀ p∈X.pn++pins,p.1≠b)
  (keep:∀ b o,b≠X.env.locals->b ∉ X.fs->b ∉ ch->s.heap.get? b=some o->H b=none->h'.get? b=some o)
  (slot:∀ b o,b≠X.env.locals->b∈X.fs->b ∉ ch->s.heap.get? b=some o->H b=none->∃ sl,h'.get? b=some { o with slots:=sl }) (free:∀ b o,b ∉ ch->s.heap.get? b=some o->H b=none->H' b=none)
  (there:∀ b o,b ∉ ch->s.heap.get? b=some o->∃ o',h'.get? b=some o')
  (qh:∀ b xs,H b=some (.tup xs)->H' b=some (.tup xs)) (ou:∀ b o u,H b=some (.frz o u)->H' b=some (.frz o u)) (qo:∀ b ps,H b=some (.tbl ps)->∃ more,H' b=some (.tbl (ps++more)))
  (ns:∀ m,s.heap.Ns X.env.locals m->h'.Ns X.env.locals m) (hok:HOk X.prog X.w H' h') (hg:YZ g') :
  Inv X pins σ H' { s with heap:=h',gens:=g',drawn:=d',toks:=t' }:=by
 have neL:∀ b o,X.s₀.heap.get? b=some o->b≠X.env.locals:=λb o e=>UW (U4 (UO e) I.ok.above)
 have neC:∀ b o,X.s₀.heap.get? b=some o->b ∉ X.ex->b ∉ ch:=λb o e hx hb=>by
  rcases (hch b hb).1 with z | z
  ·exact hx z
  ·exact absurd (U4 (UO e) z) (Xd _)
 have cellK:∀ x c,X.env.cells.lookup x=some c->∀ v,s.heap.IsCell c v->h'.IsCell c v:=λx c e v ⟨o,ho,hd⟩=>by
  have nch:c ∉ ch:=λz=>(hch c z).2.2.1 x c e rfl
  by_cases hc:c∈X.fs
  ·obtain ⟨sl,q⟩:=slot c o (I.cne x c e) hc nch ho (I.jG x c e)
   exact ⟨_,q,hd⟩
  ·exact ⟨o,keep c o (I.cne x c e) hc nch ho (I.jG x c e),hd⟩
 refine ⟨I.ok,I.os,hg,⟨λb o e n hb hx=>?_,λb o e n hb hx=>?_,λb o e n hx=>?_,λb o e hx=>?_,λb xs e=>qh b xs (I.base.qh b xs e),λb o xs e=>ou b o xs (I.base.ou b o xs e),λb ps e=>?_⟩,?_,λx c e=>?_,?_,λx c e=>?_,λp hp=>?_,hok,I.len⟩
 ·exact keep b o (neL b o e) hb (neC b o e hx) (I.base.keep b o e n hb hx) (I.base.free b o e n hx)
 ·obtain ⟨sl,e1⟩:=I.base.slot b o e n hb hx
  obtain ⟨sl',e2⟩:=slot b _ (neL b o e) hb (neC b o e hx) e1 (I.base.free b o e n hx)
  exact ⟨sl',e2⟩
 ·obtain ⟨o',e1⟩:=I.base.there b o e hx
  exact free b o' (neC b o e hx) e1 (I.base.free b o e n hx)
 ·obtain ⟨o',e1⟩:=I.base.there b o e hx
  exact there b o' (neC b o e hx) e1
 ·obtain ⟨m1,e1⟩:=I.base.qo b ps e
  obtain ⟨m2,e2⟩:=qo b _ e1
  exact ⟨m1++m2,by rw[e2,zaE]⟩
 ·obtain ⟨m,hn,hl⟩:=I.loc
  refine ⟨m,ns m hn,λi x v e1 e2 e3=>?_⟩
  obtain ⟨u,r,l⟩:=hl i x v e1 e2 e3
  refine ⟨u,r,?_⟩
  rcases l with l | ⟨k,c,e,z⟩
  ·exact .inl l
  ·exact .inr ⟨k,c,e,cellK x c e _ z⟩
 ·obtain ⟨v,z⟩:=I.cell x c e
  exact ⟨v,cellK x c e v z⟩
 ·obtain ⟨m,⟨o,_,_,ho,_⟩,_⟩:=I.loc
  exact free _ o (λz=>(hch _ z).2.1 rfl) ho I.free
 ·obtain ⟨v,o,ho,hd⟩:=I.cell x c e
  exact free c o (λz=>(hch c z).2.2.1 x c e rfl) ho (I.jG x c e)
 ·obtain ⟨e,n,ne,nf,d⟩:=I.pin p hp
  have nch:p.1 ∉ ch:=λz=>(hch p.1 z).2.2.2 p hp rfl
  exact ⟨keep p.1 p.2 ne nf nch e n,free p.1 p.2 nch e n,ne,nf,d⟩
theorem Inv.un {t':Nat}(I:Inv X pins σ H s)(u:Un X.fs [] H H' s.heap h')(hok:HOk X.prog X.w H' h'):Inv X pins σ H' { s with heap:=h',toks:=t' }:=by
 obtain ⟨m,⟨o,es,ep,ho,r⟩,_⟩:=id I.loc
 obtain ⟨sl,hL⟩:=u.any ho I.free (by simp)
 exact I.step (g':=s.gens) (d':=s.drawn) (ch:=[]) (λ_ z=>nomatch z) (λb o _ hb _ e n=>u.keep b o e n hb (by simp)) (λb o _ hb _ e n=>u.slot b o e n hb (by simp)) (λb o _ e n=>u.free b o e n (by simp)) (λb o _ e=>u.there b o e (by simp)) u.qh u.ou u.qo (λm' hm=>by
  obtain ⟨o',es',ep',ho',r'⟩:=hm
  rw[ho] at ho';cases ho'
  exact ⟨_,es',ep',hL,r'⟩) hok I.bare
theorem Inv.call {g':Array GenState}{t':Nat}{d':Drawn}{ch:List Addr}(I:Inv X pins σ H s)(u:Un (frs X.stack) ch H H' s.heap h')(hok:HOk X.prog X.w H' h')(hg:YZ g')
  (hch:∀ b∈ch,(b∈X.ex∨X.s₀.heap.objs.size<=b)/\b≠X.env.locals/\(∀ x c,X.env.cells.lookup x=some c->c≠b)/\∀ p∈X.pn++pins,p.1≠b) :
  Inv X pins σ H' { s with heap:=h',gens:=g',drawn:=d',toks:=t' }:=by
 obtain ⟨m,⟨o,es,ep,ho,r⟩,_⟩:=id I.loc
 obtain ⟨sl,hL⟩:=u.any ho I.free λz=>(hch _ z).2.1 rfl
 exact I.step (ch:=ch) hch (λb o hL hb hc e n=>u.keep b o e n (λz=>(UQ.mp (I.Ca b z)).elim hL hb) hc) (λb o _ _ hc e n=>u.any e n hc) (λb o hc e n=>u.free b o e n hc) (λb o hc e=>u.there b o e hc) u.qh u.ou u.qo (λm' hm=>by
  obtain ⟨o',es',ep',ho',r'⟩:=hm
  rw[ho] at ho';cases ho'
  exact ⟨_,es',ep',hL,r'⟩) hok hg
theorem Inv.turned {t':Nat}{it:Addr}(I:Inv X pins σ H s)(k:∀ b o,b≠it->s.heap.get? b=some o->h'.get? b=some o)(hn:H it=none)(hL:it≠X.env.locals)
  (h1:it∈X.ex∨X.s₀.heap.objs.size<=it) (h2:∀ x c,X.env.cells.lookup x=some c->c≠it) (h3:∀ p∈X.pn++pins,p.1≠it):Inv X pins σ H { s with heap:=h',toks:=t' }:=by
 have nit:∀ b u,H b=some u->b≠it:=λb u e z=>by rw[z,hn] at e;cases e
 refine I.step (g':=s.gens) (d':=s.drawn) (ch:=[it]) (λb hb=>?_) (λb o _ _ hc e _=>k b o (λz=>hc (by simp[z])) e) (λb o _ _ hc e _=>⟨o.slots,k b o (λz=>hc (by simp[z])) e⟩) (λ_ _ _ _ n=>n)
  (λb o hc e=>⟨o,k b o (λz=>hc (by simp[z])) e⟩) (λ_ _ e=>e) (λ_ _ _ e=>e) (λb ps e=>⟨#[],by rw[e];simp⟩) (λm hm=>?_) (λb u e=>?_) I.bare
 ·have e:b=it:=by simpa using hb
  subst e
  exact ⟨h1,hL,h2,h3⟩
 ·obtain ⟨o,es,ep,ho,r⟩:=hm
  exact ⟨o,es,ep,k _ o (Vq hL) ho,r⟩
 ·refine (I.hok b u e).rY (λc v hc q=>k c v ?_ q) (λ_ q=>q) λ_ _ q=>q
  rcases hc with z | z
  ·rw[z];exact nit b u e
  ·exact nit c _ z
theorem Inv.tok (I:Inv X pins σ H s)(t:Nat):Inv X pins σ H { s with toks:=t }:=I.un (h':=s.heap) (t':=t) Un.refl I.hok
theorem Inv.kept {t':Nat}(I:Inv X pins σ H s)(k:∀ b u,s.heap.get? b=some u->h'.get? b=some u):Inv X pins σ H { s with heap:=h',toks:=t' }:=I.un (Un.kept k) (I.hok.kept k)
theorem Inv.laid {a:Addr}{o:HO}{t':Nat}(I:Inv X pins σ H s)(k:∀ b u,s.heap.get? b=some u->h'.get? b=some u)(hp:s.heap.objs.size<=a)(new:gn X.prog X.w (upd H a o) h' a o) :
  Inv X pins σ (upd H a o) { s with heap:=h',toks:=t' }:=I.un (Un.laid k hp (I.hok.fresh hp)) (I.hok.laid k hp new)
theorem Inv.write {x e:Addr}{o:HO}{t':Nat}(I:Inv X pins σ H s)(mu:Mut (H x))(he:e=x∨H e=some (.own x))(k:∀ b u,b≠e->s.heap.get? b=some u->h'.get? b=some u)(heo:∃ u,h'.get? e=some u)
  (new:gn X.prog X.w (upd H x o) h' x o):Inv X pins σ (upd H x o) { s with heap:=h',toks:=t' }:=I.un (Un.write mu he k heo) (I.hok.write mu he k heo new)
theorem Inv.weak {σ':List (Option V)}(I:Inv X pins σ H s)(hl:σ'.length=σ.length)(w:∀ (i:Nat) v,σ'[i]? = some (some v)->σ[i]? = some (some v)):Inv X pins σ' H s:=
 ⟨I.ok,I.os,I.bare,I.base,let ⟨m,hn,hl'⟩:=I.loc;⟨m,hn,λi x v e1 e2 e3=>hl' i x v e1 (w i v e2) e3⟩,I.cell,I.free,I.jG,I.pin,I.hok,hl.trans I.len⟩
theorem Inv.ED {pins':List (Addr×Obj)}(I:Inv X pins σ H s)(h:∀ p∈pins',s.heap.get? p.1=some p.2/\H p.1=none/\p.1≠X.env.locals/\p.1 ∉ X.fs/\∀ v,p.2.data≠.cell v):Inv X pins' σ H s:=
 ⟨I.ok,I.os,I.bare,I.base,I.loc,I.cell,I.free,I.jG,λp hp=>(Vo.mp hp).elim (λz=>I.pin p (ZY _ z)) (h p),I.hok,I.len⟩
theorem zV {N:List Str}(hN:N.Nodup){i j:Nat}{x:Str}(a:N[i]? = some x)(b:N[j]? = some x):i=j:=by
 obtain ⟨h1,e1⟩:=VJ.mp a
 obtain ⟨h2,e2⟩:=VJ.mp b
 exact (List.getElem_inj hN).mp (e1.trans e2.symm)
theorem FJ {M:zbG}{A:U9}{E:UC->UE->Prop}{i:Nat}{x:Str}{v:V}{u:UC}{Q:Unit->UE->Prop}(I:Inv X pins σ H s)(hN:X.N.Nodup)(hi:X.N[i]? = some x)(hx:Loc X.env.scope x)(r:RelV v u)
  (h:∀ s',Inv X pins (σ.set i (some v)) H s'->(∃ a,Wu a s.heap s'.heap/\(a=X.env.locals∨X.env.cells.lookup x=some a))->Q () s') (hf:X.fn x=true∨X.env.scope.names.lookup x=some .local:=by first | exact .inl rfl | exact .inr rfl | assumption):UU M A (storeName X.env x u) Q E s:=by
 obtain ⟨m,hn,hl⟩:=id I.loc
 have Um:(X.env.scope.kind == .class || (X.env.scope.kind == .module&&X.env.locals != X.env.globals))=false:=by rw[I.ok.kind];rfl
 have hiσ:i < σ.length:=by rw[I.len];exact (VJ.mp hi).1
 have cne:=I.cne
 have tracked:∀ {a:Addr} {h':Heap},(∃ o,s.heap.get? a=some o/\H a=none)->Wu a s.heap h'->HOk X.prog X.w H h':=λ{a h'} ha hs b ob e=>by
  obtain ⟨_,_,hfree⟩:=ha
  refine (I.hok b ob e).rY (λc w' hc q=>(hs.2 c ?_).trans q) (λ_ q=>q) λ_ _ q=>q
  rintro rfl
  rcases hc with rfl | hc
  ·rw[hfree] at e;cases e
  ·rw[hfree] at hc;cases hc
 rcases hx with hk | hk
 ·refine wpAny_storeName_local hk hn (λh' hn' hs=>?_) Um
  obtain ⟨oL,_,_,hoL,_⟩:=id hn
  refine h _ ⟨I.ok,I.os,I.bare,⟨λb o e n hb hx=>?_,λb o e n hb hx=>?_,I.base.free,λb o e hx=>?_,I.base.qh,I.base.ou,I.base.qo⟩,⟨_,hn',λj y v' e1 e2 e3=>?_⟩,λy c e=>?_,I.free,I.jG,λp hp=>?_,tracked ⟨oL,hoL,I.free⟩ hs,by simpa using I.len⟩ ⟨_,hs,.inl rfl⟩
  ·exact (hs.2 b (UW (U4 (UO e) I.ok.above))).trans (I.base.keep b o e n hb hx)
  ·obtain ⟨sl,e1⟩:=I.base.slot b o e n hb hx
   exact ⟨sl,(hs.2 b (UW (U4 (UO e) I.ok.above))).trans e1⟩
  ·obtain ⟨o',e1⟩:=I.base.there b o e hx
   exact ⟨o',(hs.2 b (UW (U4 (UO e) I.ok.above))).trans e1⟩
  ·by_cases hj:j=i
   ·subst hj
    rw[hi] at e1;cases e1
    rw[XM hiσ] at e2
    cases e2
    exact ⟨u,r,.inl ⟨hk,by simp⟩⟩
   ·rw[WQ (Vq hj)] at e2
    obtain ⟨u',r',q⟩:=hl j y v' e1 e2 e3
    refine ⟨u',r',?_⟩
    rcases q with ⟨k,e⟩ | ⟨k,c,e,z⟩
    ·refine .inl ⟨k,?_⟩
     have:y≠x:=λe=>hj (zV hN e1 (e ▸ hi))
     simp[this,e]
    ·exact .inr ⟨k,c,e,z.sameBut hs (cne y c e)⟩
  ·obtain ⟨w',z⟩:=I.cell y c e
   exact ⟨w',z.sameBut hs (cne y c e)⟩
  ·obtain ⟨e,n,ne,nf,d⟩:=I.pin p hp
   exact ⟨(hs.2 p.1 ne).trans e,n,ne,nf,d⟩
 ·have hfn:X.fn x=true:=by
   rcases hf with z | z
   ·exact z
   ·rw[z] at hk;cases hk
  obtain ⟨c,hc⟩:=I.ok.has x (.inl hk)
  obtain ⟨w',z⟩:=I.cell x c hc
  refine wpAny_storeName_cell I.ok.kind hk hc z (λh' hc' hs=>?_)
  obtain ⟨oc,hoc,hocd⟩:=id z
  refine h { s with heap:=h' } ⟨I.ok,I.os,I.bare,⟨λb o e n hb hx=>?_,λb o e n hb hx=>?_,I.base.free,λb o e hx=>?_,I.base.qh,I.base.ou,I.base.qo⟩,⟨m,hn.sameBut hs (Vq (cne x c hc)),λj y v' e1 e2 e3=>?_⟩,λy c' e=>?_,I.free,I.jG,λp hp=>?_,tracked ⟨oc,hoc,I.jG x c hc⟩ hs,by simpa using I.len⟩ ⟨c,hs,.inr hc⟩
  ·exact (hs.2 b (UW (U4 (UO e) (I.ok.cab x c hfn hc)))).trans (I.base.keep b o e n hb hx)
  ·obtain ⟨sl,e1⟩:=I.base.slot b o e n hb hx
   exact ⟨sl,(hs.2 b (UW (U4 (UO e) (I.ok.cab x c hfn hc)))).trans e1⟩
  ·obtain ⟨o',e1⟩:=I.base.there b o e hx
   exact ⟨o',(hs.2 b (UW (U4 (UO e) (I.ok.cab x c hfn hc)))).trans e1⟩
  ·by_cases hj:j=i
   ·subst hj
    rw[hi] at e1;cases e1
    rw[XM hiσ] at e2
    cases e2
    exact ⟨u,r,.inr ⟨.inl hk,c,hc,hc'⟩⟩
   ·rw[WQ (Vq hj)] at e2
    obtain ⟨u',r',q⟩:=hl j y v' e1 e2 e3
    refine ⟨u',r',?_⟩
    rcases q with q | ⟨k,c',e,z'⟩
    ·exact .inl q
    ·refine .inr ⟨k,c',e,z'.sameBut hs ?_⟩
     rintro rfl
     exact hj (zV hN e1 (I.ok.inj _ _ _ e hc ▸ hi))
  ·by_cases hcc:c'=c
   ·subst hcc;exact ⟨_,hc'⟩
   ·obtain ⟨w2,z2⟩:=I.cell y c' e
    exact ⟨w2,z2.sameBut hs hcc⟩
  ·obtain ⟨e,n,ne,nf,d⟩:=I.pin p hp
   refine ⟨(hs.2 p.1 ?_).trans e,n,ne,nf,d⟩
   intro q
   rw[q,hoc] at e
   have q':oc=p.2:=VF e
   exact d w' (by rw[← q'];exact hocd)
theorem mL {M:zbG}{A:U9}{E:UC->UE->Prop}{i:Nat}{x:Str}{v:V}{u:UC}{Q:Unit->UE->Prop}(I:Inv X pins σ H s)(hN:X.N.Nodup)(hi:X.N[i]? = some x)(hx:Loc X.env.scope x)(r:RelV v u)
  (h:∀ s',Inv X pins (σ.set i (some v)) H s'->Q () s') (hf:X.fn x=true∨X.env.scope.names.lookup x=some .local:=by first | exact .inl rfl | exact .inr rfl | assumption):UU M A (storeName X.env x u) Q E s:=
 FJ I hN hi hx r (λs' I' _=>h s' I') hf
theorem Inv.N1 {s':UE}{ch:List Addr}(I:Inv X pins σ H s)(ho:s'.os=s.os)(u:Un (frs X.stack) ch H H' s.heap s'.heap)(hok:HOk X.prog X.w H' s'.heap)(hg:YZ s'.gens)
  (hch:∀ b∈ch,(b∈X.ex∨X.s₀.heap.objs.size<=b)/\b≠X.env.locals/\(∀ x c,X.env.cells.lookup x=some c->c≠b)/\∀ p∈X.pn++pins,p.1≠b):Inv X pins σ H' s':=by
 obtain ⟨h',g',d',t',o'⟩:=s'
 have e:o'=s.os:=ho
 subst e
 exact I.call (g':=g') (t':=t') (d':=d') u hok hg hch
end
abbrev XK:=UC->Option Addr->Hp->Prop
abbrev St:=List (Option V)
abbrev VK:=V->Hp->Prop
abbrev TE:=St->Hp->VK->Prop
abbrev TT:=St->Hp->(Bool->Hp->Prop)->Prop
abbrev TA:=St->Hp->(List V->Hp->Prop)->Prop
structure Ends where
 nx:St->Hp->Prop
 rt:VK
 bk:St->Hp->Prop:=λ_ _=>False
 ct:St->Hp->Prop:=λ_ _=>False
abbrev TS:=Ends->St->Hp->Prop
def EP (X:Cx)(pins:List (Addr×Obj))(σ:St)(Q:VK)(u:UC)(s':UE):Prop:=∃ v H',Inv X pins σ H' s'/\RelV v u/\Q v H'
def TP (X:Cx)(pins:List (Addr×Obj))(σ:St)(Q:Bool->Hp->Prop)(b:Bool)(s':UE):Prop:=∃ H',Inv X pins σ H' s'/\Q b H'
def AP (X:Cx)(pins:List (Addr×Obj))(σ:St)(Q:List V->Hp->Prop)(us:List UC)(s':UE):Prop:=∃ vs H',Inv X pins σ H' s'/\Vals vs us/\Q vs H'
def SP (X:Cx)(pins:List (Addr×Obj))(D:Ends)(f:Flow)(s':UE):Prop:=
 match f with
 | .next=>∃ σ' H',Inv X pins σ' H' s'/\D.nx σ' H'
 | .brk=>∃ σ' H',Inv X pins σ' H' s'/\D.bk σ' H'
 | .cont=>∃ σ' H',Inv X pins σ' H' s'/\D.ct σ' H'
 | .ret u=>∃ v σ' H',Inv X pins σ' H' s'/\RelV v u/\D.rt v H'
def PE (X:Cx)(e:U5)(t:TE):Prop:=
 ∀ (pins:List (Addr×Obj)) (s:UE) (σ:St) (H:Hp) (Q:VK),Inv X pins σ H s->t σ H Q->UU (U1 X.prog X.w) X.A (VI e X.env) (EP X pins σ Q) X.xe s
def PT (X:Cx)(e:U5)(t:TT):Prop:=
 ∀ (pins:List (Addr×Obj)) (s:UE) (σ:St) (H:Hp) (Q:Bool->Hp->Prop),Inv X pins σ H s->t σ H Q->UU (U1 X.prog X.w) X.A (isTrue e X.env (VI e X.env)) (TP X pins σ Q) X.xe s
def PW (X:Cx)(e:U5)(t:TT):Prop:=
 ∀ (whole:Sem UC) (pins:List (Addr×Obj)) (s:UE) (σ:St) (H:Hp) (Q:Bool->Hp->Prop),Inv X pins σ H s->t σ H Q->UU (U1 X.prog X.w) X.A (isTrue e X.env whole) (TP X pins σ Q) X.xe s
theorem PW.pt {X:Cx}{e:U5}{t:TT}(h:PW X e t):PT X e t:=h _
def PA (X:Cx)(es:List U5)(t:TA):Prop:=
 ∀ (pos:Pos) (pins:List (Addr×Obj)) (s:UE) (σ:St) (H:Hp) (Q:List V->Hp->Prop),Inv X pins σ H s->t σ H Q->UU (U1 X.prog X.w) X.A (zbC (Vr pos (UI es X.env))) (AP X pins σ Q) X.xe s
def PS (X:Cx)(st:Stmt)(t:TS):Prop:=
 ∀ (pins:List (Addr×Obj)) (s:UE) (σ:St) (H:Hp) (D:Ends),Inv X pins σ H s->t D σ H->UU (U1 X.prog X.w) X.A (exec st X.env) (SP X pins D) X.xe s
def PSs (X:Cx)(st:List Stmt)(t:TS):Prop:=
 ∀ (pins:List (Addr×Obj)) (s:UE) (σ:St) (H:Hp) (D:Ends),Inv X pins σ H s->t D σ H->UU (U1 X.prog X.w) X.A (execs st X.env) (SP X pins D) X.xe s
theorem thn {α:Type}{t:Sem α}{Q Q':α->UE->Prop}{M:zbG}{A:U9}{E:UC->UE->Prop}{s:UE}(h:UU M A t Q E s)(hQ:∀ a s,Q a s->Q' a s):UU M A t Q' E s:=Wg h hQ λ_ _ x=>x
end L2
namespace L2
open PySem PySem.Spec PyProof.Rows
section
variable {X:Cx}
def RP (i:Nat):TE:=λσ H Q=>∃ v,σ[i]? = some (some v)/\Q v H
def tC (v:V):TE:=λ_ H Q=>Q v H
theorem IQ {i:Nat}{x:Str}{pos:Pos}(hN:X.N[i]? = some x)(hv:Vis X.env.scope x)(hd:(x == ("__debug__" : Str))=false:=by decide)(hcd:(x == ("__classdict__" : Str))=false:=by decide):PE X (.Name x pos) (RP i):=by
 intro pins s σ H Q I h
 obtain ⟨v,e,h⟩:=h
 obtain ⟨m,hn,hl⟩:=I.loc
 obtain ⟨u,r,l⟩:=hl i x v hN e hv
 have fin:EP X pins σ Q u s:=⟨v,H,I,r,h⟩
 rcases l with ⟨hk,hm⟩ | ⟨hk,c,hc,hcell⟩
 ·exact zbH (wpAny_loadName_local I.ok.kind hk hn hm fin) hd
 ·rcases hk with hk | hk
  ·exact zbH (wpAny_loadName_cell I.ok.kind hk hc hcell fin) hd
  ·exact zbH (wpAny_loadName_free I.ok.kind hk hc hcell fin hcd) hd
theorem OO {i j pos}:PE X (.Constant (.int i) j pos) (tC (.int i)):=λ_ _ _ H _ I h=>wpAny_Constant_int ⟨.int i,H,I.tok _,⟨_,rfl⟩,h⟩
theorem Sm {b j pos}:PE X (.Constant (.bool b) j pos) (tC (.bl b)):=λ_ _ _ H _ I h=>Constant_bool ⟨.bl b,H,I,rfl,h⟩
theorem Pn {j pos}:PE X (.Constant .none j pos) (tC .non):=λ_ _ _ H _ I h=>Constant_none ⟨.non,H,I,rfl,h⟩
theorem QI {x j pos}:PE X (.Constant (.str x) j pos) (tC (.str x)):=λ_ _ _ H _ I h=>Calls.Constant_str ⟨.str x,H,I.tok _,⟨_,rfl⟩,h⟩
def Gl (X:Cx)(x:Str):Prop:=X.env.kindOf x=some .globalImplicit
theorem DY {E:UC->UE->Prop}{pins:List (Addr×Obj)}{s:UE}{σ:St}{H:Hp}{x:Str}{u:UC}{pos:Pos}{Q:UC->UE->Prop}(I:Inv X pins σ H s)(hg:Gl X x)(hm:X.mg x=some u)(h:Q u s)
  (hd:(x == ("__debug__" : Str))=false:=by decide):UU (U1 X.prog X.w) X.A (VI (.Name x pos) X.env) Q E s:=
 YG I.ok.kind hg (Calls.loadGlobal_global (by rw[I.ok.glob];exact I.mod.glob.keeps I.bk) hm h) hd
theorem je {E:UC->UE->Prop}{pins:List (Addr×Obj)}{s:UE}{σ:St}{H:Hp}{x:Str}{u:UC}{pos:Pos}{Q:UC->UE->Prop}(I:Inv X pins σ H s)(hg:Gl X x)(hm:X.mg x=none)(hv:Vm x=some u)(h:Q u s)
  (hn:x ≠ "__name__" := by decide) (hd:(x == ("__debug__" : Str))=false:=by decide):UU (U1 X.prog X.w) X.A (VI (.Name x pos) X.env) Q E s:=by
 obtain ⟨mb,h1,h2⟩:=I.mod.blt
 exact YG I.ok.kind hg (Calls.loadGlobal_builtin (by rw[I.ok.glob];exact I.mod.glob.keeps I.bk) hm (by rw[I.ok.blt];exact h1.keeps I.bk) ((h2 x hn).trans hv) h) hd
theorem xf {x:Str}{v:V}{u:UC}{pos:Pos}(hg:Gl X x)(hm:X.mg x=some u)(r:RelV v u)(hd:(x == ("__debug__" : Str))=false:=by decide):PE X (.Name x pos) (tC v):=
 λ_ _ _ H _ I h=>DY I hg hm ⟨v,H,I,r,h⟩ hd
theorem DX {x:Str}{v:V}{u:UC}{pos:Pos}(hg:Gl X x)(hm:X.mg x=none)(hv:Vm x=some u)(r:RelV v u)(hn:x ≠ "__name__" := by decide)(hd:(x == ("__debug__" : Str))=false:=by decide):PE X (.Name x pos) (tC v):=
 λ_ _ _ H _ I h=>je I hg hm hv ⟨v,H,I,r,h⟩ hn hd
variable {a b:U5} {ta tb:TE} {pos:Pos}
def tB (t:TE):TT:=λσ H Q=>t σ H λx H1=>∃ c,x=.bl c/\Q c H1
theorem Qb {e:U5}{t:TE}(h:PE X e t)(he:∀ whole,isTrue e X.env whole=(do let v ← whole;standAt e.pos;Y0 [v] (truthy v)):=by intro _;rfl):PT X e (tB t):=by
 intro pins s σ H Q I hw
 refine isTrue_plain (thn (h pins s σ H _ I hw) λv s1 ⟨x,H1,I1,r1,q1⟩=>?_) (he _)
 obtain ⟨d,rfl,q⟩:=q1
 cases r1
 exact VU ⟨H1,I1,q⟩
variable {tA tB':TT} {rest:List U5}
def Us (t u:TT):TT:=λσ H Q=>t σ H λc H1=>if c=true then u σ H1 Q else Q false H1
def tOr (t u:TT):TT:=λσ H Q=>t σ H λc H1=>if c=true then Q true H1 else u σ H1 Q
def T4 (t:TT):TT:=λσ H Q=>t σ H λc H1=>Q (!c) H1
theorem pw_and1 (ha:PT X a tA):PW X (.BoolOp .And [a] pos) tA:=by
 intro wh pins s σ H Q I h
 refine isTrue_and (thn (ha pins s σ H Q I h) λc s1 e=>?_)
 cases c with
 | true=>exact isTrue_and_nil e
 | false=>exact e
theorem pw_or1 (ha:PT X a tA):PW X (.BoolOp .Or [a] pos) tA:=by
 intro wh pins s σ H Q I h
 refine isTrue_or (thn (ha pins s σ H Q I h) λc s1 e=>?_)
 cases c with
 | false=>exact isTrue_or_nil e
 | true=>exact e
theorem pw_and (ha:PT X a tA)(hb:PW X (.BoolOp .And (b::rest) pos) tB'):PW X (.BoolOp .And (a::b::rest) pos) (Us tA tB'):=by
 intro wh pins s σ H Q I h
 refine isTrue_and (thn (ha pins s σ H _ I h) λc s1 ⟨H1,I1,q1⟩=>?_)
 cases c with
 | true=>exact hb wh pins s1 σ H1 Q I1 q1
 | false=>exact ⟨H1,I1,q1⟩
theorem pw_or (ha:PT X a tA)(hb:PW X (.BoolOp .Or (b::rest) pos) tB'):PW X (.BoolOp .Or (a::b::rest) pos) (tOr tA tB'):=by
 intro wh pins s σ H Q I h
 refine isTrue_or (thn (ha pins s σ H _ I h) λc s1 ⟨H1,I1,q1⟩=>?_)
 cases c with
 | true=>exact ⟨H1,I1,q1⟩
 | false=>exact hb wh pins s1 σ H1 Q I1 q1
theorem Pz (ha:PT X a tA):PT X (.UnaryOp .Not a pos) (T4 tA):=by
 intro pins s σ H Q I h
 exact isTrue_not (ha pins s σ H (λc H1=>Q (!c) H1) I h)
def SH (ta tb:TE):TE:=λσ H Q=>ta σ H λx H1=>∃ c,x=.bl c/\if c=true then tb σ H1 Q else Q (.bl false) H1
def T7 (ta tb:TE):TE:=λσ H Q=>ta σ H λx H1=>∃ c,x=.bl c/\if c=true then Q (.bl true) H1 else tb σ H1 Q
def RE (ta:TE):TE:=λσ H Q=>ta σ H λx H1=>∃ c,x=.bl c/\Q (.bl (!c)) H1
theorem N6 {op}{t:TE}(h:PE X a t):PE X (.BoolOp op [a] pos) t:=λpins s σ H Q I hw=>BoolOp_one (h pins s σ H Q I hw)
theorem QZ (ha:PE X a ta)(hb:PE X (.BoolOp .And (b::rest) pos) tb):PE X (.BoolOp .And (a::b::rest) pos) (SH ta tb):=by
 intro pins s σ H Q I h
 refine BoolOp_and (thn (ha pins s σ H _ I h) λv s1 ⟨x,H1,I1,r1,q1⟩=>?_)
 obtain ⟨c,rfl,q1⟩:=q1
 cases r1
 refine VU ?_
 cases c with
 | true=>exact hb pins s1 σ H1 Q I1 q1
 | false=>exact ⟨.bl false,H1,I1,rfl,q1⟩
theorem RK (ha:PE X a ta)(hb:PE X (.BoolOp .Or (b::rest) pos) tb):PE X (.BoolOp .Or (a::b::rest) pos) (T7 ta tb):=by
 intro pins s σ H Q I h
 refine BoolOp_or (thn (ha pins s σ H _ I h) λv s1 ⟨x,H1,I1,r1,q1⟩=>?_)
 obtain ⟨c,rfl,q1⟩:=q1
 cases r1
 refine VU ?_
 cases c with
 | false=>exact hb pins s1 σ H1 Q I1 q1
 | true=>exact ⟨.bl true,H1,I1,rfl,q1⟩
theorem Oj (ha:PE X a ta):PE X (.UnaryOp .Not a pos) (RE ta):=by
 intro pins s σ H Q I h
 refine UnaryOp_ (thn (ha pins s σ H _ I h) λv s1 ⟨x,H1,I1,r1,q1⟩=>?_)
 obtain ⟨c,rfl,q1⟩:=q1
 cases r1
 exact not_of (VU ⟨.bl (!c),H1,I1,rfl,q1⟩)
def tIf (t:TT)(ta tb:TE):TE:=λσ H Q=>t σ H λc H1=>if c=true then ta σ H1 Q else tb σ H1 Q
theorem Hr {c:U5}(hc:PT X c tA)(ha:PE X a ta)(hb:PE X b tb):PE X (.IfExp c a b pos) (tIf tA ta tb):=by
 intro pins s σ H Q I h
 refine wpAny_IfExp (thn (hc pins s σ H _ I h) λd s1 ⟨H1,I1,q1⟩=>?_)
 cases d with
 | true=>exact ha pins s1 σ H1 Q I1 q1
 | false=>exact hb pins s1 σ H1 Q I1 q1
end
end L2
namespace L2
open PySem PySem.Spec PyProof.Rows
def SqL (K:UB)(H:Hp)(a:Addr)(xs:List V):Prop:=
 Rd H a (.lst xs)∨
  ∃ (o:Obj) (its:Array UC) (n:Nat),K.lookup a=some o/\o.cls=.type "list" /\ o.dict=none/\o.data=.seq its n/\its.size<=sizeLine/\Vals xs its.toList
def SqT (K:UB)(H:Hp)(a:Addr)(xs:List V):Prop:=
 Rd H a (.tup xs)∨
  ∃ (o:Obj) (its:Array UC) (n:Nat),K.lookup a=some o/\o.cls=.type "tuple" /\ o.dict=none/\o.data=.seq its n/\its.size<=sizeLine/\Vals xs its.toList
def Uc:UC->Option V
 | .none=>some .non
 | .bool b=>some (.bl b)
 | .int i _=>some (.int i)
 | .str x _=>some (.str x)
 | .bytes b _=>some (.byt b)
 | .float b _=>some (.flt b)
 | .ref a=>some (.ref a)
 | .type n=>some (.ty n)
 | _=>none
theorem RelV.abs {x:V}{u:UC}(r:RelV x u):Uc u=some x:=by
 cases x with
 | non=>cases r;rfl
 | bl _=>cases r;rfl
 | int _=>obtain ⟨t,rfl⟩:=r;rfl
 | str _=>obtain ⟨t,rfl⟩:=r;rfl
 | byt _=>obtain ⟨t,rfl⟩:=r;rfl
 | flt _=>obtain ⟨t,rfl⟩:=r;rfl
 | ref _=>cases r;rfl
 | ty _=>cases r;rfl
theorem RelV.inj {x y:V}{u:UC}(r:RelV x u)(q:RelV y u):x=y:=VF (r.abs.symm.trans q.abs)
theorem Vals.inj:∀ {xs ys:List V} {us:List UC},Vals xs us->Vals ys us->xs=ys
 | _,_,_,.nil,.nil=>rfl
 | _,_,_,.cons r t,.cons r' t'=>by rw[r.inj r',Vals.inj t t']
section
variable {X:Cx} {pins:List (Addr×Obj)} {σ:St} {H:Hp} {s:UE} {a:Addr} {xs ys:List V}
theorem SqL.of {K:UB}(h:H a=some (.lst xs)):SqL K H a xs:=.inl (.inl h)
theorem SqT.of {K:UB}(h:H a=some (.tup xs)):SqT K H a xs:=.inl (.inl h)
theorem Inv.list (I:Inv X pins σ H s)(h:SqL X.K H a xs):∃ its:List UC,Vals xs its/\PlainL s.heap a its.toArray/\xs.length<=sizeLine:=by
 rcases h with h | ⟨o,its,n,hk,hc,hd,hs,hz,r⟩
 ·obtain ⟨z,its,n,r,e⟩:=h.ok I.hok
  exact ⟨its,r,⟨_,n,e,rfl,rfl,rfl⟩,z⟩
 ·refine ⟨its.toList,r,⟨o,n,I.kIn a o hk,hc,hd,by simpa using hs⟩,?_⟩
  have e:=r.length
  simp only[VS] at e
  omega
theorem Inv.tuple (I:Inv X pins σ H s)(h:SqT X.K H a xs):∃ its:List UC,Vals xs its/\IsTup s.heap a its.toArray/\xs.length<=sizeLine:=by
 rcases h with h | ⟨o,its,n,hk,hc,hdn,hs,hz,r⟩
 ·obtain ⟨z,its,r,p⟩:=h.ok I.hok
  exact ⟨its,r,p.tup,z⟩
 ·refine ⟨its.toList,r,⟨o,I.kIn a o hk,hc,n,by simpa using hs⟩,?_⟩
  have e:=r.length
  simp only[VS] at e
  omega
theorem Inv.Aa (I:Inv X pins σ H s)(h:SqL X.K H a xs)(h':SqL X.K H a ys):xs=ys:=by
 obtain ⟨its,r,⟨o,n,e,_,_,d⟩,_⟩:=I.list h
 obtain ⟨its',r',⟨o',n',e',_,_,d'⟩,_⟩:=I.list h'
 rw[e] at e';cases e'
 rw[d] at d'
 injection d' with d1 _
 have:its=its':=by simpa using congrArg zcb d1
 subst this
 exact r.inj r'
theorem Inv.vL (I:Inv X pins σ H s)(h:SqT X.K H a xs)(h':SqT X.K H a ys):xs=ys:=by
 obtain ⟨its,r,⟨o,e,_,n,d⟩,_⟩:=I.tuple h
 obtain ⟨its',r',⟨o',e',_,n',d'⟩,_⟩:=I.tuple h'
 rw[e] at e';cases e'
 rw[d] at d'
 injection d' with d1 _
 have:its=its':=by simpa using congrArg zcb d1
 subst this
 exact r.inj r'
end
abbrev Cx.qk (X:Cx)(E:UC->UE->Prop):Cx:={ X with xe:=E }
abbrev Cx.nox (X:Cx):Cx:=X.qk λ_ _=>False
theorem Cx.Ok.qk {X:Cx}(ok:X.Ok)(E:UC->UE->Prop):(X.qk E).Ok:=
 ⟨ok.mod,ok.kind,ok.glob,ok.blt,ok.above,ok.inj,ok.has,ok.cab,ok.hd,ok.frames,ok.stk,ok.exf,ok.bs,ok.bsz,ok.Ks,ok.GZ,ok.ui,ok.frf⟩
theorem Cx.Ok.gS {X:Cx}{E:UC->UE->Prop}(ok:(X.qk E).Ok):X.Ok:=
 ⟨ok.mod,ok.kind,ok.glob,ok.blt,ok.above,ok.inj,ok.has,ok.cab,ok.hd,ok.frames,ok.stk,ok.exf,ok.bs,ok.bsz,ok.Ks,ok.GZ,ok.ui,ok.frf⟩
section
variable {X:Cx} {pins:List (Addr×Obj)} {σ:St} {H:Hp} {s:UE} {E:UC->UE->Prop}
theorem Inv.qk (I:Inv X pins σ H s)(E:UC->UE->Prop):Inv (X.qk E) pins σ H s:=⟨I.ok.qk E,I.os,I.bare,I.base,I.loc,I.cell,I.free,I.jG,I.pin,I.hok,I.len⟩
theorem Inv.gS (I:Inv (X.qk E) pins σ H s):Inv X pins σ H s:=⟨I.ok.gS,I.os,I.bare,I.base,I.loc,I.cell,I.free,I.jG,I.pin,I.hok,I.len⟩
theorem SP.gS {D:Ends}{f:Flow}{s':UE}(h:SP (X.qk E) pins D f s'):SP X pins D f s':=by
 cases f with
 | next=>obtain ⟨σ',H',I,q⟩:=h;exact ⟨σ',H',I.gS,q⟩
 | brk=>obtain ⟨σ',H',I,q⟩:=h;exact ⟨σ',H',I.gS,q⟩
 | cont=>obtain ⟨σ',H',I,q⟩:=h;exact ⟨σ',H',I.gS,q⟩
 | ret u=>obtain ⟨v,σ',H',I,r,q⟩:=h;exact ⟨v,σ',H',I.gS,r,q⟩
theorem PE.nox {e:U5}{t:TE}(h:PE X.nox e t):PE X e t:=λpins s σ H Q I hw=>
 Wg (h pins s σ H Q (I.qk _) hw) (λ_ _ ⟨v,H',I',r,q⟩=>⟨v,H',I'.gS,r,q⟩) λ_ _ z=>UG z
theorem PT.nox {e:U5}{t:TT}(h:PT X.nox e t):PT X e t:=λpins s σ H Q I hw=>
 Wg (h pins s σ H Q (I.qk _) hw) (λ_ _ ⟨H',I',q⟩=>⟨H',I'.gS,q⟩) λ_ _ z=>UG z
theorem PSs.nox {st:List Stmt}{t:TS}(h:PSs X.nox st t):PSs X st t:=λpins s σ H D I hw=>
 Wg (h pins s σ H D (I.qk _) hw) (λ_ _ q=>q.gS) λ_ _ z=>UG z
end
section
variable {X:Cx} {st:Stmt} {rest:List Stmt} {t u:TS} {e:U5} {te:TE} {pos:Pos}
def Rv:TS:=λD σ H=>D.nx σ H
def TN (t u:TS):TS:=λD σ H=>t { D with nx:=u D } σ H
theorem MK:PSs X [] Rv:=λ_ _ σ H _ I h=>Yl ⟨σ,H,I,h⟩
theorem J6 (h1:PS X st t)(h2:PSs X rest u):PSs X (st::rest) (TN t u):=by
 intro pins s σ H D I h
 refine zbc (thn (h1 pins s σ H { D with nx:=u D } I h) λf s1 q=>?_)
 cases f with
 | next=>
  obtain ⟨σ',H',I',q⟩:=q
  exact h2 pins s1 σ' H' D I' q
 | ret v=>exact q
 | brk=>exact q
 | cont=>exact q
theorem MX (h1:PS X st t):PSs X [st] t:=by
 intro pins s σ H D I h
 refine zbc (thn (h1 pins s σ H D I h) λf s1 q=>?_)
 cases f with
 | next=>exact Yl q
 | ret v=>exact q
 | brk=>exact q
 | cont=>exact q
theorem Inv.quiet {pins:List (Addr×Obj)}{σ:St}{H:Hp}{s:UE}(I:Inv X pins σ H s):interactive X.env=false:=by simp[interactive,I.ok.kind]
def Rw (te:TE):TS:=λD σ H=>te σ H λ_ H1=>D.nx σ H1
theorem My (he:PE X e te)(hs:YF e none pos.line X.env=pure false:=by rfl):PS X (.Expr e pos) (Rw te):=by
 intro pins s σ H D I h
 exact wpAny_Expr_any (thn (he pins s σ H _ I h) λv s1 ⟨x,H1,I1,r1,q1⟩=>⟨σ,H1,I1,q1⟩) I.quiet hs
def Ut (te:TE):TS:=λD σ H=>te σ H D.rt
theorem Qa (he:PE X e te):PS X (.Return (some e) pos) (Ut te):=by
 intro pins s σ H D I h
 exact wpAny_Return_some (thn (he pins s σ H _ I h) λv s1 ⟨x,H1,I1,r1,q1⟩=>⟨x,σ,H1,I1,r1,q1⟩)
def TM (c:TT)(t u:TS):TS:=λD σ H=>c σ H λb H1=>if b=true then t D σ H1 else u D σ H1
theorem SV {c:U5}{a b:List Stmt}{tc:TT}(hc:PT X c tc)(ha:PSs X a t)(hb:PSs X b u):PS X (.If c a b pos) (TM tc t u):=by
 intro pins s σ H D I h
 refine wpAny_If (thn (hc pins s σ H _ I h) λd s1 ⟨H1,I1,q1⟩=>?_)
 cases d with
 | true=>exact ha pins s1 σ H1 D I1 q1
 | false=>exact hb pins s1 σ H1 D I1 q1
end
abbrev TG:=V->St->Hp->(St->Hp->Prop)->Prop
abbrev TGs:=List V->St->Hp->(St->Hp->Prop)->Prop
def PG (X:Cx)(target:U5)(t:TG):Prop:=
 ∀ (pins:List (Addr×Obj)) (s:UE) (σ:St) (H:Hp) (v:V) (u:UC) (Q:St->Hp->Prop),Inv X pins σ H s->RelV v u->t v σ H Q->
  UU (U1 X.prog X.w) X.A (YH target X.env u) (λ_ s'=>∃ σ' H',Inv X pins σ' H' s'/\Q σ' H') X.xe s
def PGs (X:Cx)(ts:List U5)(t:TGs):Prop:=
 ∀ (pins:List (Addr×Obj)) (s:UE) (σ:St) (H:Hp) (vs:List V) (us:List UC) (Q:St->Hp->Prop),Inv X pins σ H s->Vals vs us->t vs σ H Q->
  UU (U1 X.prog X.w) X.A (zaq ((V1 ts X.env).map (·.2)) us) (λ_ s'=>∃ σ' H',Inv X pins σ' H' s'/\Q σ' H') X.xe s
abbrev Ox:=V->V->V->Hp->(Hp->Prop)->Prop
def Rm (X:Cx)(t:Ox):Prop:=
 ∀ (pins:List (Addr×Obj)) (s:UE) (σ:St) (H:Hp) (o i v:V) (ov iv u:UC) (Q:Hp->Prop),Inv X pins σ H s->RelV o ov->RelV i iv->RelV v u->t o i v H Q->
  UU (U1 X.prog X.w) X.A (setItem ov iv u) (λ_ s'=>∃ H',Inv X pins σ H' s'/\Q H') X.xe s
section
variable {X:Cx} {pos:Pos}
def rj (i:Nat):TG:=λv σ H Q=>Q (σ.set i (some v)) H
theorem nG {i:Nat}{x:Str}(hN:X.N.Nodup)(hi:X.N[i]? = some x)(hx:Loc X.env.scope x)(hf:X.fn x=true∨X.env.scope.names.lookup x=some .local:=by first | exact .inl rfl | exact .inr rfl | assumption):PG X (.Name x pos) (rj i):=by
 intro pins s σ H v u Q I r h
 exact wpAny_assign_Name (mL I hN hi hx r (λs' I'=>⟨_,H,I',h⟩) hf)
def TL:TGs:=λvs σ H Q=>vs=[]/\Q σ H
def Q7 (t:TG)(u:TGs):TGs:=λvs σ H Q=>∃ v r,vs=v::r/\t v σ H λσ' H'=>u r σ' H' Q
theorem D6:PGs X [] TL:=by
 intro pins s σ H vs us Q I r h
 obtain ⟨e,h⟩:=h
 subst e
 cases r
 exact zaQ ⟨σ,H,I,h⟩
theorem Aq {e:U5}{es:List U5}{t:TG}{u:TGs}(h1:PG X e t)(h2:PGs X es u)
  (hs:(V1 (e::es) X.env).map (·.2)=YH e X.env::(V1 es X.env).map (·.2):=by rfl):PGs X (e::es) (Q7 t u):=by
 intro pins s σ H vs us Q I r h
 obtain ⟨v,vr,e1,h⟩:=h
 subst e1
 cases r with
 | cons r rr=>
  rw[hs]
  refine YI (thn (h1 pins s σ H _ _ _ I r h) λ_ s1 ⟨σ1,H1,I1,q1⟩=>?_)
  exact h2 pins s1 σ1 H1 _ _ Q I1 rr q1
def T5 (K:UB)(n:Nat)(t:TGs):TG:=λv σ H Q=>∃ a xs,v=.ref a/\SqT K H a xs/\xs.length=n/\t xs σ H Q
theorem G7 {es:List U5}{k:Nat}{t:TGs}{n:Nat}(hc:X.calm=true)(h:PGs X es t)
  (hn:(V1 es X.env).length=n:=by rfl) (hst:(V1 es X.env).findIdx? (·.1)=none:=by rfl):PG X (.Tuple es k pos) (T5 X.K n t):=by
 intro pins s σ H v u Q I r hw
 obtain ⟨a,xs,e1,hq,hl,hw⟩:=hw
 subst e1
 cases r
 obtain ⟨its,rv,ht,hz⟩:=I.tuple hq
 refine assign_Tuple_tuple (I.ok.hd hc) ht (by simp[hn,← hl,rv.length]) hst λh' hx=>?_
 have I1:Inv X pins σ H { s with heap:=h' }:=I.kept (t':=s.toks) λb o e=>hx b o (UW (UO e)) e
 exact h pins _ σ H xs _ Q I1 (by simpa using rv) hw
def Uo (to ti:TE)(t:Ox):TG:=λv σ H Q=>to σ H λo H1=>ti σ H1 λi H2=>t o i v H2 λH3=>Q σ H3
theorem QG {o i:U5}{to ti:TE}{t:Ox}(ho:PE X o to)(hi:PE X i ti)(hs:Rm X t)
  (ha:∀ v,YH (.Subscript o i pos) X.env v=(do
   let ov ← Y0 [v] (VI o X.env)
   let iv ← Y0 [v,ov] (VI i X.env)
   standAt pos
   Y0 [v,ov,iv] (setItem ov iv v)
   release [v,ov,iv] []):=by intro _;rfl):PG X (.Subscript o i pos) (Uo to ti t):=by
 intro pins s σ H v u Q I r h
 rw[ha]
 refine wpAny_bind (wpAny_holding (thn (ho pins s σ H _ I h) λov s1 ⟨x,H1,I1,r1,q1⟩=>?_))
 refine wpAny_bind (wpAny_holding (thn (hi pins s1 σ H1 _ I1 q1) λiv s2 ⟨y,H2,I2,r2,q2⟩=>?_))
 refine wpAny_bind (Y5 (wpAny_bind (wpAny_holding (thn (hs pins s2 σ H2 x y v ov iv u _ I2 r1 r2 r q2) λ_ s3 ⟨H3,I3,q3⟩=>?_))))
 exact wpAny_release ⟨σ,H3,I3,q3⟩
def LC (te:TE)(g:TG):TS:=λD σ H=>te σ H λx H1=>g x σ H1 D.nx
theorem GK {tg e:U5}{te:TE}{g:TG}(he:PE X e te)(hg:PG X tg g)(hs:Yb [tg] e pos.line X.env=pure false:=by rfl)(hw:Yc [tg] e X.env=pure none:=by rfl)
  (h1:(V1 [tg] X.env).map (·.2)=[YH tg X.env]:=by rfl):PS X (.Assign [tg] e pos) (LC te g):=by
 intro pins s σ H D I h
 refine wpAny_Assign_stores (thn (he pins s σ H _ I h) λv s1 ⟨x,H1,I1,r1,q1⟩=>?_) hs hw
 rw[h1]
 exact thn (hg pins s1 σ H1 x v _ I1 r1 q1) λ_ s2 q=>q
theorem N2 {i:Nat}{x:Str}{e:U5}{te:TE}{pos':Pos}(hN:X.N.Nodup)(hi:X.N[i]? = some x)(hx:Loc X.env.scope x)(he:PE X e te)(hs:YF e (some (.Name x pos')) pos.line X.env=pure false:=by rfl)(hf:X.fn x=true∨X.env.scope.names.lookup x=some .local:=by first | exact .inl rfl | exact .inr rfl | assumption) :
  PS X (.Assign [.Name x pos'] e pos) (LC te (rj i)):=by
 intro pins s σ H D I h
 refine wpAny_Assign_Name (thn (he pins s σ H _ I h) λv s1 ⟨y,H1,I1,r1,q1⟩=>?_) hs
 exact mL I1 hN hi hx r1 (λs2 I2=>⟨_,H1,I2,q1⟩) hf
def Ub (i j:Nat)(ta:TA):TS:=λD σ H=>ta σ H λvs H1=>∃ v w,vs=[v,w]/\D.nx ((σ.set i (some v)).set j (some w)) H1
theorem Pa {i j:Nat}{x y:Str}{a b:U5}{ta:TA}{px py pt:Pos}{kt k2 pt2}(hc:X.calm=true)(hN:X.N.Nodup)(hi:X.N[i]? = some x)(hj:X.N[j]? = some y)(hij:i≠j)
  (hx:X.env.scope.names.lookup x=some .local) (hy:X.env.scope.names.lookup y=some .local) (ha:PA X [a,b] ta)
  (hw:Yc [.Tuple [.Name x px,.Name y py] kt pt] (.Tuple [a,b] k2 pt2) X.env=pure (some [x,y]))
  (hs:Yb [.Tuple [.Name x px,.Name y py] kt pt] (.Tuple [a,b] k2 pt2) pos.line X.env=pure false:=by rfl) :
  PS X (.Assign [.Tuple [.Name x px,.Name y py] kt pt] (.Tuple [a,b] k2 pt2) pos) (Ub i j ta):=by
 intro pins s σ H D I h
 rw[exec_Assign_arm]
 refine wpAny_bind (Y5 ?_)
 rw[hs]
 refine wpAny_bind (wpAny_pure ?_)
 rw[if_neg (by decide)]
 refine wpAny_bind (Tuple_ (thn (ha _ pins s σ H _ I h) λus s1 ⟨vs,H1,I1,r1,q1⟩=>?_))
 obtain ⟨v,w,e1,q1⟩:=q1
 subst e1
 obtain ⟨u1,u2,rfl,rv,rw'⟩:∃ u1 u2,us=[u1,u2]/\RelV v u1/\RelV w u2:=by
  cases r1 with
  | cons p q=>
   cases q with
   | cons p' q'=>
    cases q'
    exact ⟨_,_,rfl,p,p'⟩
 refine VP ?_ (by show 2<=sizeLine;decide)
 have I2:Inv X pins σ H1 { s1 with heap:=s1.heap.push { cls:=.type "tuple", data:=.seq [u1,u2].toArray } }:=I1.kept (t':=s1.toks) λb o e=>UD _ e
 rw[hw]
 refine wpAny_bind (wpAny_pure ?_)
 show UU (U1 X.prog X.w) X.A (do rule "assign.swapped-stores";let items ← unpackItems (.ref s1.heap.objs.size) 2 none;zaq [λv=>zbI X.env y v,λv=>zbI X.env x v] items.reverse;pure Flow.next) _ _ _
 refine wpAny_bind (wpAny_rule (wpAny_bind (unpackItems_tuple (items:=#[u1,u2]) (I.ok.hd hc) (IsTup.new s1.heap _) λh' hx'=>?_)))
 have I3:=I2.kept (h':=h') (t':=s1.toks) λb o e=>hx' b o (UW (UO e)) e
 show UU _ _ (zaq [λv=>zbI X.env y v,λv=>zbI X.env x v] [u2,u1] >>= λ_=>pure Flow.next) _ _ _
 refine wpAny_bind (YI (wpAny_bindName (mL I3 hN hj (.inl hy) rw' (λs2 I4=>?_) (.inr hy))))
 refine YI (wpAny_bindName (mL I4 hN hi (.inl hx) rv (λs3 I5=>zaQ (wpAny_pure ?_)) (.inr hx)))
 rw[List.set_comm _ _ (Vq hij)] at I5
 exact ⟨_,H1,I5,q1⟩
end
section
variable {X:Cx} {pos:Pos}
def QK (c:TT)(tb:TS):TS:=λD σ H=>∃ W:Nat->St->Hp->Prop,(∃ m,W m σ H)/\∀ m σ H,W m σ H->
 c σ H λb H1=>if b=true then ∃ N:St->Hp->Prop,(∀ σ' H',N σ' H'->∃ m',m' < m/\W m' σ' H')/\tb { D with nx:=N,ct:=N,bk:=D.nx } σ H1 else D.nx σ H1
theorem Ja {c:U5}{body:List Stmt}{tc:TT}{tb:TS}(hp:zbd (U1 X.prog X.w) X.A X.env X.xe)(hc:PT X c tc)(hb:PSs X body tb):PS X (.While c body [] pos) (QK tc tb):=by
 intro pins s σ H D I h
 obtain ⟨W,⟨m0,w0⟩,turn⟩:=h
 refine wpAny_While (codeAny_whileLoop (λn s'=>∃ σ' H',Inv X pins σ' H' s'/\W n σ' H') ?_ m0 ⟨σ,H,I,w0⟩)
 rintro n s1 ⟨σ1,H1,I1,w1⟩
 refine WM hp (thn (hc pins s1 σ1 H1 _ I1 (turn n σ1 H1 w1)) λb s2 ⟨H2,I2,q2⟩=>?_)
 cases b with
 | true=>
  obtain ⟨N,hN,q2⟩:=q2
  rw[if_pos rfl]
  refine WM hp (thn (hb pins s2 σ1 H2 _ I2 q2) λf s3 q3=>?_)
  cases f with
  | next=>
   obtain ⟨σ3,H3,I3,n3⟩:=q3
   obtain ⟨m',hm,w3⟩:=hN σ3 H3 n3
   exact ⟨m',hm,σ3,H3,I3,w3⟩
  | cont=>
   obtain ⟨σ3,H3,I3,n3⟩:=q3
   obtain ⟨m',hm,w3⟩:=hN σ3 H3 n3
   exact ⟨m',hm,σ3,H3,I3,w3⟩
  | brk=>exact q3
  | ret v=>exact q3
 | false=>
  rw[if_neg YJ]
  exact Yl ⟨σ1,H2,I2,q2⟩
end
structure It where
 go:Nat->Hp->Prop
 yld:Nat->Hp->V->Hp->Prop
 stop:Nat->Hp->Prop
def rq (X:Cx)(pins:List (Addr×Obj))(H:Hp)(b:Addr):Prop:=
 H b=none/\b≠X.env.locals/\b ∉ X.fs/\(b∈X.ex∨X.s₀.heap.objs.size<=b)/\(∀ x c,X.env.cells.lookup x=some c->c≠b)/\∀ p∈X.pn++pins,p.1≠b
theorem Inv.Io {X:Cx}{pins:List (Addr×Obj)}{σ:St}{H H':Hp}{s:UE}{b:Addr}(I:Inv X pins σ H s)(hb:s.heap.objs.size<=b)(hn:H' b=none):rq X pins H' b:=by
 refine ⟨hn,XO (U4 I.lt hb),I.Ux hb,.inr (Vy I.sz hb),λx c e z=>?_,λp hp z=>?_⟩
 ·obtain ⟨v,q⟩:=I.cell x c e
  exact absurd (U4 q.lt (by rw[z];exact hb)) (Xd _)
 ·exact absurd (U4 (UO (I.pin p hp).1) (by rw[z];exact hb)) (Xd _)
structure Turn (P:UT) (w:Va) (K:UB) (tg:U5) (J:It) (fp:List Addr) (it:Addr) (tn:Nat->Heap->Prop):Prop where
 mem:it∈fp
 obj:∀ i h,tn i h->∀ b∈fp,∃ o,h.get? b=some o/\∀ v,o.data≠.cell v
 keep:∀ i h h',tn i h->(∀ b∈fp,∀ o,h.get? b=some o->h'.get? b=some o)->tn i h'
 item:∀ (X:Cx),X.prog=P->X.w=w->X.K=K->X.calm=true->∀ (i:Nat) (pins:List (Addr×Obj)) (s:UE) (σ:St) (H:Hp) (E:UC->UE->Prop),Inv X pins σ H s->(∀ b∈fp,rq X pins H b)->tn i s.heap->J.go i H->
  UU (U1 P w) X.A (Xf (.ref it)) (λr s1=>∃ u,r=some u/\
   UU (U1 P w) X.A (Ym tg (.ref it) u) (λ_ s2=>∃ x H',Inv X pins σ H' s2/\RelV x u/\J.yld i H x H'/\tn (i+1) s2.heap/\∀ b∈fp,H' b=none) E s1) E s
 done:∀ (X:Cx),X.prog=P->X.w=w->X.K=K->X.calm=true->∀ (i:Nat) (pins:List (Addr×Obj)) (s:UE) (σ:St) (H:Hp) (E:UC->UE->Prop),Inv X pins σ H s->(∀ b∈fp,rq X pins H b)->tn i s.heap->J.stop i H->
  UU (U1 P w) X.A (Xf (.ref it)) (λr s1=>r=none/\Inv X pins σ H s1) E s
 self:∀ (A:U9) (i:Nat) (s:UE) (Q:UC->UE->Prop) (E:UC->UE->Prop),tn i s.heap->Q (.ref it) s->UU (U1 P w) A (zaF (.ref it)) Q E s
abbrev TI:=St->Hp->(It->Hp->Prop)->Prop
def PIE (X:Cx)(pins:List (Addr×Obj))(σ:St)(tg:U5)(R:It->Hp->Prop)(itv:UC)(s2:UE):Prop:=
 ∃ (it:Addr) (fp:List Addr) (tn:Nat->Heap->Prop) (J:It) (H':Hp),itv=.ref it/\Inv X pins σ H' s2/\Turn X.prog X.w X.K tg J fp it tn/\tn 0 s2.heap/\(∀ b∈fp,rq X pins H' b)/\R J H'
def PI (X:Cx)(tg iter:U5)(wi:TI):Prop:=
 ∀ (pins:List (Addr×Obj)) (s:UE) (σ:St) (H:Hp) (R:It->Hp->Prop),Inv X pins σ H s->wi σ H R->
  UU (U1 X.prog X.w) X.A (VI iter X.env) (λv s1=>UU (U1 X.prog X.w) X.A (zaF v) (PIE X pins σ tg R) X.xe s1) X.xe s
theorem EA {M:zbG}{A:U9}{E:UC->UE->Prop}{s:UE}{tg:U5}{it:Addr}{u:UC}{o:Obj}{n:String}{vs:Array UC}{Q:Unit->UE->Prop}(ho:s.heap.get? it=some o)(hc:o.cls=.type n)(hd:o.data=.fields vs)
  (hn:["enumerate", "zip", "dict_itemiterator", "dict_reverseitemiterator", "odict_iterator", "itertools.zip_longest", "itertools.pairwise"].contains n=false) (hQ:Q () s):UU M A (Ym tg (.ref it) u) Q E s:=by
 unfold Ym
 cases tg<;>first
  | exact wpAny_pure hQ
  | (cases u<;>first
    | exact wpAny_pure hQ
    | (refine wpAny_bind (wpAny_load ho ?_)
       rw[hc,hd]
       show UU M A (if (["enumerate", "zip", "dict_itemiterator", "dict_reverseitemiterator", "odict_iterator", "itertools.zip_longest", "itertools.pairwise"].contains n&&vs[0]? == some (W3 _))=true then _ else _) Q E s
       rw[if_neg (by intro h;rw[hn,U6] at h;cases h)]
       exact wpAny_pure hQ))
def Itl (K:UB)(a:Addr):It:=
 ⟨λi H=>∃ xs x,SqL K H a xs/\xs[i]? = some x,λi H x H'=>H'=H/\∀ xs,SqL K H a xs->xs[i]? = some x,λi H=>∃ xs,SqL K H a xs/\xs.length<=i⟩
def Itt (K:UB)(a:Addr):It:=
 ⟨λi H=>∃ xs x,SqT K H a xs/\xs[i]? = some x,λi H x H'=>H'=H/\∀ xs,SqT K H a xs->xs[i]? = some x,λi H=>∃ xs,SqT K H a xs/\xs.length<=i⟩
def Itr (lo:Int)(n:Nat):It:=⟨λi _=>i < n,λi H x H'=>H'=H/\x=.int (lo+i),λi _=>n<=i⟩
theorem E8 {P:UT}{w:Va}{K:UB}{tg:U5}(a it:Addr):Turn P w K tg (Itl K a) [it] it (λi h=>h.IsListIter it a i) where
 mem:=by simp
 obj:=λi h st b hb=>by
  have e:b=it:=by simpa using hb
  subst e
  obtain ⟨o,e,c,d⟩:=st
  exact ⟨o,e,λv z=>by rw[d] at z;cases z⟩
 keep:=λi h h' st k=>st.at λo e=>k it (by simp) o e
 item:=by
  intro X hP hw hK hc i pins s σ H E I hf st hg
  subst hP hw hK
  obtain ⟨xs,x,hq,hx⟩:=hg
  obtain ⟨its,rv,p,hz⟩:=I.list hq
  obtain ⟨u,hu,ru⟩:=rv.get hx
  obtain ⟨f0,f1,f2,f3,f4,f5⟩:=hf it (by simp)
  refine Zt st p.isList (x:=u) (by simpa using hu) λh' st' sb=>?_
  have I1:Inv X pins σ H { s with heap:=h' }:=I.turned (t':=s.toks) (λb o hb e=>(sb.2 b hb).trans e) f0 f1 f3 f4 f5
  obtain ⟨o,e,c,d⟩:=id st'
  exact ⟨u,rfl,EA (s:={ s with heap:=h' }) e c d (by decide) ⟨x,H,I1,ru,⟨rfl,λys hy=>by rw[I.Aa hy hq];exact hx⟩,st',λb hb=>(hf b hb).1⟩⟩
 done:=by
  intro X hP hw hK hc i pins s σ H E I hf st hg
  subst hP hw hK
  obtain ⟨xs,hq,hx⟩:=hg
  obtain ⟨its,rv,p,hz⟩:=I.list hq
  obtain ⟨f0,f1,f2,f3,f4,f5⟩:=hf it (by simp)
  have hl:=rv.length
  exact ZP (I.ok.hd hc) st p.isList (by simp;omega) λh' eb=>⟨rfl,I.turned (t':=s.toks) (λb o hb e=>eb b o hb e) f0 f1 f3 f4 f5⟩
 self:=λ_ _ _ _ _ st h=>wpAny_pyIter_listiter st h
theorem BU {P:UT}{w:Va}{K:UB}{tg:U5}(a it:Addr):Turn P w K tg (Itt K a) [it] it (λi h=>h.IsTupleIter it a i) where
 mem:=by simp
 obj:=λi h st b hb=>by
  have e:b=it:=by simpa using hb
  subst e
  obtain ⟨o,e,c,d⟩:=st
  exact ⟨o,e,λv z=>by rw[d] at z;cases z⟩
 keep:=λi h h' st k=>st.at λo e=>k it (by simp) o e
 item:=by
  intro X hP hw hK hc i pins s σ H E I hf st hg
  subst hP hw hK
  obtain ⟨xs,x,hq,hx⟩:=hg
  obtain ⟨its,rv,p,hz⟩:=I.tuple hq
  obtain ⟨u,hu,ru⟩:=rv.get hx
  obtain ⟨f0,f1,f2,f3,f4,f5⟩:=hf it (by simp)
  refine wpAny_pyNext_tuple_item st (show s.heap.IsTuple a its.toArray from p) (x:=u) (by simpa using hu) λh' st' sb=>?_
  have I1:Inv X pins σ H { s with heap:=h' }:=I.turned (t':=s.toks) (λb o hb e=>(sb.2 b hb).trans e) f0 f1 f3 f4 f5
  obtain ⟨o,e,c,d⟩:=id st'
  exact ⟨u,rfl,EA (s:={ s with heap:=h' }) e c d (by decide) ⟨x,H,I1,ru,⟨rfl,λys hy=>by rw[I.vL hy hq];exact hx⟩,st',λb hb=>(hf b hb).1⟩⟩
 done:=by
  intro X hP hw hK hc i pins s σ H E I hf st hg
  subst hP hw hK
  obtain ⟨xs,hq,hx⟩:=hg
  obtain ⟨its,rv,p,hz⟩:=I.tuple hq
  obtain ⟨f0,f1,f2,f3,f4,f5⟩:=hf it (by simp)
  have hl:=rv.length
  exact wpAny_pyNext_tuple_end (I.ok.hd hc) st (show s.heap.IsTuple a its.toArray from p) (by simp;omega) λh' eb=>⟨rfl,I.turned (t':=s.toks) (λb o hb e=>eb b o hb e) f0 f1 f3 f4 f5⟩
 self:=λ_ _ _ _ _ st h=>wpAny_pyIter_tupleiter st h
theorem CB {P:UT}{w:Va}{K:UB}{tg:U5}(it:Addr)(lo:Int)(n:Nat):Turn P w K tg (Itr lo n) [it] it (λi h=>IsRangeIter h it (lo+(i:Nat)*1) ((n:Int) - (i:Nat)) 1) where
 mem:=by simp
 obj:=λi h st b hb=>by
  have e:b=it:=by simpa using hb
  subst e
  exact ⟨_,st,λv z=>by
   have z':Data.fields _=Data.cell v:=z
   cases z'⟩
 keep:=λi h h' st k=>k it (by simp) _ st
 item:=by
  intro X hP hw hK hc i pins s σ H E I hf st hg
  subst hP hw hK
  obtain ⟨f0,f1,f2,f3,f4,f5⟩:=hf it (by simp)
  have W:=Walks.range (prog:=X.prog) (w:=X.w) (I.ok.hd hc) it lo 1 n
  refine W.item i s _ _ hg st λv h' tk hv st' kk=>?_
  obtain ⟨t,rfl⟩:=hv
  have I1:Inv X pins σ H { s with heap:=h',toks:=tk }:=I.turned (λb o hb e=>kk b o (by simpa using hb) e) f0 f1 f3 f4 f5
  refine ⟨_,rfl,EA (s:={ s with heap:=h',toks:=tk }) (n := "range_iterator") st' rfl rfl (by decide) ⟨.int (lo+i),H,I1,⟨t,?_⟩,⟨rfl,rfl⟩,st',λb hb=>(hf b hb).1⟩⟩
  rw[Int.mul_one]
 done:=by
  intro X hP hw hK hc i pins s σ H E I hf st hg
  subst hP hw hK
  obtain ⟨f0,f1,f2,f3,f4,f5⟩:=hf it (by simp)
  exact wpAny_pyNext_range_end (I.ok.hd hc) st (by have:n<=i:=hg;omega) λh' eb=>⟨rfl,I.turned (t':=s.toks) (λb o hb e=>eb b o hb e) f0 f1 f3 f4 f5⟩
 self:=λ_ _ _ _ _ st h=>wpAny_pyIter_rangeiter st h
end L2
namespace L2
open PySem PySem.Spec PyProof.Rows
section
variable {X:Cx} {tg:U5}
theorem Ax {pins:List (Addr×Obj)}{σ:St}{H:Hp}{s:UE}{R:It->Hp->Prop}{E:UC->UE->Prop}{lo hi:Int}{t u v:Tok}{tk:Nat}(I:Inv X pins σ H s)(h1:-(2 ^ 62)<=lo)(h2:lo < 2 ^ 62)(h3:-(2 ^ 62)<=hi)(h4:hi < 2 ^ 62)
  (q:R (Itr lo (hi - lo).toNat) H):UU (U1 X.prog X.w) X.A (zaF (.ref s.heap.objs.size)) (PIE X pins σ tg R) E { s with heap:=s.heap.push { cls:=.type "range", data:=.fields #[.int lo t,.int hi u,.int 1 v] },toks:=tk }:=by
 refine wpAny_pyIter_range (IsRange.new ..) (small_one h1 h2 h3 h4) ?_
 have I1:Inv X pins σ H { s with heap:=s.heap.push { cls:=.type "range", data:=.fields #[.int lo t,.int hi u,.int 1 v] },toks:=tk }:=I.kept λb o e=>UD _ e
 refine ⟨(s.heap.push { cls:=.type "range", data:=.fields #[.int lo t,.int hi u,.int 1 v] }).objs.size,[(s.heap.push { cls:=.type "range", data:=.fields #[.int lo t,.int hi u,.int 1 v] }).objs.size],_,_,H,rfl,
  I1.kept (t':=tk) λb o e=>UD _ e,CB _ lo (hi - lo).toNat,?_,λb hb=>?_,q⟩
 ·have e1:lo+((0:Nat):Int)*1=lo:=by simp
  have e2:(((hi - lo).toNat:Nat):Int) - ((0:Nat):Int)=zb9 lo hi 1:=by rw[rangeSize_one];split<;>omega
  show IsRangeIter _ _ (lo+((0:Nat):Int)*1) ((((hi - lo).toNat:Nat):Int) - ((0:Nat):Int)) 1
  rw[e1,e2]
  exact UP _ rfl
 ·have e:b=(s.heap.push { cls:=.type "range", data:=.fields #[.int lo t,.int hi u,.int 1 v] }).objs.size:=by simpa using hb
  subst e
  exact I1.Io (U0 _) (I1.hok.fresh (U0 _))
def S2 (ta:TA):TI:=λσ H R=>ta σ H λvs H1=>∃ j:Int,vs=[.int j]/\-(2 ^ 62)<=j/\j < 2 ^ 62/\R (Itr 0 j.toNat) H1
def SJ (ta:TA):TI:=λσ H R=>ta σ H λvs H1=>∃ i j:Int,vs=[.int i,.int j]/\(-(2 ^ 62)<=i/\i < 2 ^ 62/\-(2 ^ 62)<=j/\j < 2 ^ 62)/\R (Itr i (j - i).toNat) H1
theorem E6 {a:U5}{ta:TA}{p pos:Pos}(hg:Gl X "range")(hm:X.mg "range" = none)(ha:PA X [a] ta)(hs:UI [a] X.env=[(false,VI a X.env)]:=by rfl):PI X tg (.Call (.Name "range" p) [a] [] pos) (S2 ta):=by
 intro pins s σ H R I h
 refine Call_ (je I hg hm boot_range (V3 (thn (ha pos pins s σ H _ I h) λus s1 ⟨vs,H1,I1,r1,q1⟩=>?_) hs rfl))
 obtain ⟨j,e,q1,q2,q⟩:=q1
 subst e
 cases r1 with
 | cons r rr=>
  cases rr
  obtain ⟨t,rfl⟩:=r
  exact call_range_1 (Ax I1 (by omega) (by omega) q1 q2 (by simpa using q))
theorem Fo {a b:U5}{ta:TA}{p pos:Pos}(hg:Gl X "range")(hm:X.mg "range" = none)(ha:PA X [a,b] ta)(hs:UI [a,b] X.env=[(false,VI a X.env),(false,VI b X.env)]:=by rfl)(hs2:UI [b] X.env=[(false,VI b X.env)]:=by rfl) :
  PI X tg (.Call (.Name "range" p) [a,b] [] pos) (SJ ta):=by
 intro pins s σ H R I h
 refine Call_ (je I hg hm boot_range (V3 (thn (ha pos pins s σ H _ I h) λus s1 ⟨vs,H1,I1,r1,q1⟩=>?_) (by rw[hs,hs2]) (by rw[hs2];rfl)))
 obtain ⟨i,j,e,⟨q1,q2,q3,q4⟩,q⟩:=q1
 subst e
 cases r1 with
 | cons r rr=>
  cases rr with
  | cons r' rr=>
   cases rr
   obtain ⟨t,rfl⟩:=r
   obtain ⟨t',rfl⟩:=r'
   exact call_range_2 (Ax I1 q1 q2 q3 q4 q)
def Uk (wi:TI)(g:TG)(tb:TS):TS:=λD σ H=>wi σ H λJ H1=>∃ W:Nat->Nat->St->Hp->Prop,(∃ m,W 0 m σ H1)/\∀ i m σ H,W i m σ H->
 (J.stop i H/\D.nx σ H)∨(J.go i H/\∃ N:St->Hp->Prop,(∀ σ' H',N σ' H'->∃ m',m' < m/\W (i+1) m' σ' H')/\∀ x H',J.yld i H x H'->g x σ H' λσ2 H2=>tb { D with nx:=N,ct:=N,bk:=D.nx } σ2 H2)
def rK (fp:List Addr)(h:Heap):List (Addr×Obj):=fp.filterMap λb=>(h.get? b).map λo=>(b,o)
theorem gv {fp:List Addr}{h:Heap}{b:Addr}{o:Obj}(hb:b∈fp)(e:h.get? b=some o):(b,o)∈rK fp h:=zaG.mpr ⟨b,hb,by rw[e];rfl⟩
theorem Fj {fp:List Addr}{h:Heap}{p:Addr×Obj}(hp:p∈rK fp h):p.1∈fp/\h.get? p.1=some p.2:=by
 obtain ⟨b,hb,e⟩:=zaG.mp hp
 cases q:h.get? b with
 | none=>rw[q] at e;cases e
 | some o=>
  rw[q] at e
  have e':(b,o)=p:=VF e
  subst e'
  exact ⟨hb,q⟩
theorem Inv.pinned {pins:List (Addr×Obj)}{σ:St}{H:Hp}{s:UE}{fp:List Addr}(I:Inv X pins σ H s)(hf:∀ b∈fp,rq X pins H b)(ho:∀ b∈fp,∃ o,s.heap.get? b=some o/\∀ v,o.data≠.cell v):Inv X (pins++rK fp s.heap) σ H s:=
 I.ED λp hp=>(Vo.mp hp).elim (λz=>I.pin p (Vd _ z)) λz=>by
  obtain ⟨hb,e⟩:=Fj z
  obtain ⟨f0,f1,f2,_⟩:=hf p.1 hb
  obtain ⟨o,e',d⟩:=ho p.1 hb
  rw[e] at e';cases e'
  exact ⟨e,f0,f1,f2,d⟩
theorem Inv.jT {pins pl:List (Addr×Obj)}{σ:St}{H:Hp}{s:UE}(I:Inv X (pins++pl) σ H s):Inv X pins σ H s:=I.ED λp hp=>I.pin p (Vd _ (ZY _ hp))
theorem Pe {iter:U5}{body:List Stmt}{wi:TI}{g:TG}{tb:TS}{pos:Pos}(hp:zbd (U1 X.prog X.w) X.A X.env X.xe)(hc:X.calm=true)(hi:PI X tg iter wi)(hg:PG X tg g)(hb:PSs X body tb)
  (hs:∀ x,VV iter X.env x=pure x:=by intro _;rfl):PS X (.For tg iter body [] pos) (Uk wi g tb):=by
 intro pins s σ H D I h
 refine wpAny_For (thn (hi pins s σ H _ I h) λv s1 h1=>thn h1 λitv s2 h2=>?_) hs
 obtain ⟨it,fp,tn,J,H2,e,I2,T,st2,f2,W,⟨m0,w0⟩,turn⟩:=h2
 subst e
 -- what stays true of the iterator's objects through the loop
 have Dk:∀ {H':Hp},(∀ b∈fp,H' b=none)->∀ b∈fp,rq X pins H' b:=λhn b hb=>⟨hn b hb,(f2 b hb).2⟩
 refine codeAny_forLoop_any (λn s'=>∃ i σ' H',Inv X pins σ' H' s'/\tn i s'.heap/\(∀ b∈fp,H' b=none)/\W i n σ' H') ?_ m0 ⟨0,σ,H2,I2,st2,λb hb=>(f2 b hb).1,w0⟩
 rintro n s3 ⟨i,σ3,H3,I3,st3,fr3,w3⟩
 rcases turn i n σ3 H3 w3 with ⟨stop,qn⟩ | ⟨go,N,hN,step⟩
 ·refine WM hp (thn (T.done X rfl rfl rfl hc i pins s3 σ3 H3 X.xe I3 (Dk fr3) st3 stop) λr s4 ⟨hr,I4⟩=>?_)
  subst hr
  exact Yl ⟨σ3,H3,I4,qn⟩
 ·refine WM hp (thn (T.item X rfl rfl rfl hc i pins s3 σ3 H3 X.xe I3 (Dk fr3) st3 go) λr s4 ⟨u,hr,h4⟩=>?_)
  subst hr
  refine WM hp (thn h4 λ_ s5 ⟨x,H5,I5,r5,y5,st5,fr5⟩=>?_)
  have I5':=I5.pinned (Dk fr5) (T.obj _ _ st5)
  refine WM hp (thn (hg _ s5 σ3 H5 x u _ I5' r5 (step x H5 y5)) λ_ s6 ⟨σ6,H6,I6,q6⟩=>?_)
  refine WM hp (thn (hb _ s6 σ6 H6 _ I6 q6) λf s7 q7=>?_)
  have again:∀ {σ7:St} {H7:Hp},Inv X (pins++rK fp s5.heap) σ7 H7 s7->N σ7 H7->∃ m,m < n/\∃ i σ' H',Inv X pins σ' H' s7/\tn i s7.heap/\(∀ b∈fp,H' b=none)/\W i m σ' H':=λ{σ7 H7} I7 n7=>by
   obtain ⟨m',hm,w7⟩:=hN σ7 H7 n7
   refine ⟨m',hm,i+1,σ7,H7,I7.jT,T.keep _ _ _ st5 λb hb o e=>(I7.pin (b,o) (Vd _ (Vd _ (gv hb e)))).1,λb hb=>?_,w7⟩
   obtain ⟨o,e,d⟩:=T.obj _ _ st5 b hb
   exact (I7.pin (b,o) (Vd _ (Vd _ (gv hb e)))).2.1
  cases f with
  | next=>obtain ⟨σ7,H7,I7,n7⟩:=q7;exact again I7 n7
  | cont=>obtain ⟨σ7,H7,I7,n7⟩:=q7;exact again I7 n7
  | brk=>obtain ⟨σ7,H7,I7,q7⟩:=q7;exact ⟨σ7,H7,I7.jT,q7⟩
  | ret v=>obtain ⟨x7,σ7,H7,I7,r7,q7⟩:=q7;exact ⟨x7,σ7,H7,I7.jT,r7,q7⟩
end
end L2
namespace L2
open PySem PySem.Spec PyProof.Rows
abbrev R2:=V->V->Hp->VK->Prop
def OpR (X:Cx)(f:UC->UC->Sem UC)(r:R2):Prop:=
 ∀ (pins:List (Addr×Obj)) (s:UE) (σ:St) (H:Hp) (x y:V) (v u:UC) (Q:VK),Inv X pins σ H s->RelV x v->RelV y u->r x y H Q->
  UU (U1 X.prog X.w) X.A (f v u) (EP X pins σ Q) X.xe s
def cj (X:Cx)(f:UC)(r:List V->Hp->VK->Prop):Prop:=
 ∀ (pins:List (Addr×Obj)) (s:UE) (σ:St) (H:Hp) (xs:List V) (us:List UC) (Q:VK),Inv X pins σ H s->Vals xs us->r xs H Q->
  UU (U1 X.prog X.w) X.A (call f us) (EP X pins σ Q) X.xe s
def tOp (r:R2)(ta tb:TE):TE:=λσ H Q=>ta σ H λx H1=>tb σ H1 λy H2=>r x y H2 Q
def rI (C:Int->Int->Prop)(g:Int->Int->V):R2:=λx y H Q=>∃ i j,x=.int i/\y=.int j/\C i j/\Q (g i j) H
def rI0 (g:Int->Int->V):R2:=λx y H Q=>∃ i j,x=.int i/\y=.int j/\Q (g i j) H
section
variable {X:Cx} {a b c:U5} {ta tb tc:TE} {pos:Pos}
theorem N4 (ha:PE X a ta)(hb:PE X b tb){pins:List (Addr×Obj)}{s:UE}{σ:St}{H:Hp}{R:V->V->Hp->Prop}(I:Inv X pins σ H s)
  (h:ta σ H λx H1=>tb σ H1 λy H2=>R x y H2) {Q:UC->UE->Prop} {f:UC->UC->Sem UC}
  (hf:∀ v u s2 x y H2,Inv X pins σ H2 s2->RelV x v->RelV y u->R x y H2->UU (U1 X.prog X.w) X.A (f v u) Q X.xe s2) :
  UU (U1 X.prog X.w) X.A (VI a X.env) (λv s₁=>UU (U1 X.prog X.w) X.A (VI b X.env) (λu s₂=>UU (U1 X.prog X.w) X.A (f v u) Q X.xe s₂) X.xe s₁) X.xe s:=by
 refine thn (ha pins s σ H _ I h) λv s1 ⟨x,H1,I1,r1,q1⟩=>?_
 refine thn (hb pins s1 σ H1 _ I1 q1) λu s2 ⟨y,H2,I2,r2,q2⟩=>?_
 exact hf v u s2 x y H2 I2 r1 r2 q2
theorem NR {op:Operator}{r:R2}(ho:OpR X (WR op) r)(ha:PE X a ta)(hb:PE X b tb):PE X (.BinOp a op b pos) (tOp r ta tb):=by
 intro pins s σ H Q I h
 exact wpAny_BinOp (N4 ha hb I h λv u s2 x y H2 I2 rx ry q=>ho pins s2 σ H2 x y v u Q I2 rx ry q)
theorem opI {f:UC->UC->Sem UC}{C:Int->Int->Prop}{g:Int->Int->Int}
  (rule:∀ (i j:Int) (t u:Tok) (s:UE) (Q:UC->UE->Prop) (E:UC->UE->Prop),C i j->Q (.int (g i j) s.toks) { s with toks:=s.toks+1 }->UU (U1 X.prog X.w) X.A (f (.int i t) (.int j u)) Q E s) :
  OpR X f (rI C λi j=>.int (g i j)):=by
 intro pins s σ H x y v u Q I rx ry h
 obtain ⟨i,j,rfl,rfl,hc,q⟩:=h
 obtain ⟨t,rfl⟩:=rx
 obtain ⟨t',rfl⟩:=ry
 exact rule i j t t' s _ _ hc ⟨.int (g i j),H,I.tok _,⟨_,rfl⟩,q⟩
theorem Tp {f:UC->UC->Sem UC}{g:Int->Int->Int}
  (rule:∀ (i j:Int) (t u:Tok) (s:UE) (Q:UC->UE->Prop) (E:UC->UE->Prop),Q (.int (g i j) s.toks) { s with toks:=s.toks+1 }->UU (U1 X.prog X.w) X.A (f (.int i t) (.int j u)) Q E s) :
  OpR X f (rI0 λi j=>.int (g i j)):=by
 intro pins s σ H x y v u Q I rx ry h
 obtain ⟨i,j,rfl,rfl,q⟩:=h
 obtain ⟨t,rfl⟩:=rx
 obtain ⟨t',rfl⟩:=ry
 exact rule i j t t' s _ _ ⟨.int (g i j),H,I.tok _,⟨_,rfl⟩,q⟩
theorem Lr {f:UC->UC->Sem UC}{g:Int->Int->Bool}
  (rule:∀ (i j:Int) (t u:Tok) (s:UE) (Q:UC->UE->Prop) (E:UC->UE->Prop),Q (.bool (g i j)) s->UU (U1 X.prog X.w) X.A (f (.int i t) (.int j u)) Q E s) :
  OpR X f (rI0 λi j=>.bl (g i j)):=by
 intro pins s σ H x y v u Q I rx ry h
 obtain ⟨i,j,rfl,rfl,q⟩:=h
 obtain ⟨t,rfl⟩:=rx
 obtain ⟨t',rfl⟩:=ry
 exact rule i j t t' s _ _ ⟨.bl (g i j),H,I,rfl,q⟩
def Ue (i j:Int):Prop:=0<=j/\j<=1000000/\i.natAbs < 2 ^ 64
def Rt (i j:Int):Prop:=(-(2 ^ 64) < i/\i < 2 ^ 64)∨(-(2 ^ 64) < j/\j < 2 ^ 64)
theorem Rt.ok {i j:Int}(h:Rt i j):IntMulOk i j:=by
 rcases h with ⟨h1,h2⟩ | ⟨h1,h2⟩
 ·exact .of_left (Y6 h1 h2)
 ·exact .of_right (Y6 h1 h2)
theorem QS:OpR X (WR .Add) (rI0 λi j=>.int (i+j)):=Tp λ_ _ _ _ _ _ _ q=>add_int q
theorem P8:OpR X (WR .Sub) (rI0 λi j=>.int (i - j)):=Tp λ_ _ _ _ _ _ _ q=>sub_int q
theorem L7:OpR X (WR .Mod) (rI (λ_ j=>j≠0) λi j=>.int (i.fmod j)):=opI λ_ _ _ _ _ _ _ hc q=>mod_int' hc q
theorem PD:OpR X (WR .Pow) (rI Ue λi j=>.int (i ^ j.toNat)):=opI λ_ _ _ _ _ _ _ hc q=>pow_int_small hc.1 hc.2.1 hc.2.2 q
end
def Sf:V->V->Bool
 | .non,.non=>true | .non,.int _=>true | .int _,.non=>true | .non,.bl _=>true | .bl _,.non=>true | .non,.str _=>true | .str _,.non=>true
 | .int _,.int _=>true | .bl _,.bl _=>true | .str _,.str _=>true | .byt _,.byt _=>true
 | .int _,.str _=>true | .str _,.int _=>true | .bl _,.str _=>true | .str _,.bl _=>true
 | _,_=>false
def rEq:R2:=λx y H Q=>Sf x y=true/\Q (.bl (decide (x=y))) H
def rNe:R2:=λx y H Q=>Sf x y=true/\Q (.bl (!decide (x=y))) H
section
variable {X:Cx} {a b c:U5} {ta tb tc:TE} {pos:Pos}
theorem BX {pins:List (Addr×Obj)}{σ:St}{H:Hp}{s:UE}{Q:VK}{k k':Bool}(I:Inv X pins σ H s)(q:Q (.bl k) H)(e:k=k'):EP X pins σ Q (.bool k') s:=by
 subst e
 exact ⟨.bl k,H,I,rfl,q⟩
theorem NL:OpR X (VG .Lt) (rI0 λi j=>.bl (decide (i < j))):=Lr λ_ _ _ _ _ _ _ q=>lt_int q
theorem pQ:OpR X (VG .LtE) (rI0 λi j=>.bl (decide (i<=j))):=Lr λ_ _ _ _ _ _ _ q=>le_int q
theorem NV:OpR X (VG .Gt) (rI0 λi j=>.bl (decide (j < i))):=Lr λ_ _ _ _ _ _ _ q=>gt_int q
theorem Q4:OpR X (VG .GtE) (rI0 λi j=>.bl (decide (j<=i))):=Lr λ_ _ _ _ _ _ _ q=>ge_int q
theorem FY:OpR X (VG .In) (λx y H Q=>∃ i j,x=.str i/\y=.str j/\Q (.bl (!(V2 j i 0 j.length 1).isEmpty)) H):=by
 intro pins s σ H x y v u Q I rx ry h
 obtain ⟨i,j,rfl,rfl,q⟩:=h
 obtain ⟨t,rfl⟩:=rx
 obtain ⟨t',rfl⟩:=ry
 exact in_str (BX I q rfl)
theorem Kj:OpR X (VG .Is) (λx y H Q=>y=.non/\Q (.bl (decide (x=.non))) H):=by
 intro pins s σ H x y v u Q I rx ry h
 obtain ⟨rfl,q⟩:=h
 cases ry
 refine is_none_gen (BX I q ?_)
 cases x<;>first
  | (cases rx;rfl)
  | (obtain ⟨t,rfl⟩:=rx;rfl)
theorem LX:OpR X (VG .IsNot) (λx y H Q=>y=.non/\Q (.bl (!decide (x=.non))) H):=by
 intro pins s σ H x y v u Q I rx ry h
 obtain ⟨rfl,q⟩:=h
 cases ry
 refine isnot_none_gen (BX I q ?_)
 cases x<;>first
  | (cases rx;rfl)
  | (obtain ⟨t,rfl⟩:=rx;rfl)
theorem ff (b:U5){op:zaR}(h:op≠.In:=by decide)(h2:op≠.NotIn:=by decide):Wx op b=false:=by
 have e1:(op == CmpOp.In)=false:=by cases op<;>first | rfl | exact absurd rfl h
 have e2:(op == CmpOp.NotIn)=false:=by cases op<;>first | rfl | exact absurd rfl h2
 cases b<;>simp[Wx,e1,e2]
theorem Ni {op:zaR}{r:R2}(ho:OpR X (VG op) r)(ha:PE X a ta)(hb:PE X b tb)(hm:Wx op b=false):PE X (.Compare a [op] [b] pos) (tOp r ta tb):=by
 intro pins s σ H Q I h
 exact wpAny_Compare1 (N4 ha hb I h λv u s2 x y H2 I2 rx ry q=>ho pins s2 σ H2 x y v u Q I2 rx ry q) hm
def JB (t:TE):TT:=λσ H Q=>t σ H λx H'=>∃ k,x=.bl k/\Q k H'
theorem Eg {op:zaR}{r:R2}(ho:OpR X (VG op) r)(ha:PE X a ta)(hb:PE X b tb)(hm:Wx op b=false):PT X (.Compare a [op] [b] pos) (JB (tOp r ta tb)):=by
 intro pins s σ H Q I h
 refine wpAny_isTrue_Compare1 (thn (ha pins s σ H _ I h) λv s1 ⟨x,H1,I1,r1,q1⟩=>thn (hb pins s1 σ H1 _ I1 q1) λu s2 ⟨y,H2,I2,r2,q2⟩=>
  thn (ho pins s2 σ H2 x y v u _ I2 r1 r2 q2) λc s3 ⟨z,H3,I3,r3,k,e,q3⟩=>?_) hm
 subst e
 cases r3
 exact VU ⟨H3,I3,q3⟩
def Cu (r r':R2)(ta tb tc:TE):TE:=λσ H Q=>ta σ H λx H1=>tb σ H1 λy H2=>r x y H2 λz H3=>∃ k,z=.bl k/\
 (if k=true then tc σ H3 λw' H4=>r' y w' H4 Q else Q (.bl false) H3)
theorem Jh {op op':zaR}{r r':R2}(ho:OpR X (VG op) r)(ho':OpR X (VG op') r')(ha:PE X a ta)(hb:PE X b tb)(hc:PE X c tc)
  (hm:zae [op,op'] [b,c]=false:=by with_unfolding_all rfl):PE X (.Compare a [op,op'] [b,c] pos) (Cu r r' ta tb tc):=by
 intro pins s σ H Q I h
 refine Compare_chain (thn (ha pins s σ H _ I h) λv s1 ⟨x,H1,I1,r1,q1⟩=>chain_link (thn (hb pins s1 σ H1 _ I1 q1) λu s2 ⟨y,H2,I2,r2,q2⟩=>
  thn (ho pins s2 σ H2 x y v u _ I2 r1 r2 q2) λd s3 ⟨z,H3,I3,r3,k,e,q3⟩=>?_)) hm
 subst e
 cases r3
 refine VU ?_
 cases k with
 | false=>exact ite_ff ⟨.bl false,H3,I3,rfl,q3⟩
 | true=>exact ite_tt (chain_last (thn (hc pins s3 σ H3 _ I3 q3) λw' s4 ⟨z',H4,I4,r4,q4⟩=>ho' pins s4 σ H4 y z' u w' Q I4 r2 r4 q4))
theorem G1 {op op':zaR}{r r':R2}(ho:OpR X (VG op) r)(ho':OpR X (VG op') r')(ha:PE X a ta)(hb:PE X b tb)(hc:PE X c tc)
  (hm:zae [op,op'] [b,c]=false:=by with_unfolding_all rfl):PT X (.Compare a [op,op'] [b,c] pos) (JB (Cu r r' ta tb tc)):=by
 intro pins s σ H Q I h
 refine isTrue_chain (thn (ha pins s σ H _ I h) λv s1 ⟨x,H1,I1,r1,q1⟩=>test_link (thn (hb pins s1 σ H1 _ I1 q1) λu s2 ⟨y,H2,I2,r2,q2⟩=>
  thn (ho pins s2 σ H2 x y v u _ I2 r1 r2 q2) λd s3 ⟨z,H3,I3,r3,k,e,q3⟩=>?_)) hm
 subst e
 cases r3
 refine VU ?_
 cases k with
 | false=>
  obtain ⟨k',e',q'⟩:=q3
  cases e'
  exact ite_ff ⟨H3,I3,q'⟩
 | true=>
  refine ite_tt (test_last (thn (hc pins s3 σ H3 _ I3 q3) λw' s4 ⟨z',H4,I4,r4,q4⟩=>thn (ho' pins s4 σ H4 y z' u w' _ I4 r2 r4 q4) λd' s5 ⟨z2,H5,I5,r5,k2,e2,q5⟩=>?_))
  subst e2
  cases r5
  exact VU ⟨H5,I5,q5⟩
theorem oB:(sizeLine:Nat) < 2 ^ 63:=by rw[Xk];decide
theorem C2:OpR X (WR .Add) (λx y H Q=>∃ i j,x=.str i/\y=.str j/\i.length+j.length<=sizeLine/\Q (.str (i++j)) H):=by
 intro pins s σ H x y v u Q I rx ry h
 obtain ⟨i,j,rfl,rfl,hz,q⟩:=h
 obtain ⟨t,rfl⟩:=rx
 obtain ⟨t',rfl⟩:=ry
 exact add_str (λt' tk=>⟨.str (i++j),H,I.tok _,⟨_,rfl⟩,q⟩) hz
theorem vals1 {x:V}{us:List UC}(r:Vals [x] us):∃ u,us=[u]/\RelV x u:=by
 cases r with
 | cons r1 r2=>cases r2;exact ⟨_,rfl,r1⟩
theorem kE:cj X (.builtin "abs") (λxs H Q=>∃ i,xs=[.int i]/\Q (.int (if i < 0 then -i else i)) H):=by
 intro pins s σ H xs us Q I r h
 obtain ⟨i,rfl,q⟩:=h
 obtain ⟨u,rfl,t,rfl⟩:=vals1 r
 exact call_abs_int λu tk=>⟨.int (if i < 0 then -i else i),H,I.tok _,⟨_,rfl⟩,q⟩
theorem Gj:cj X (.type "int") (λxs H Q=>(∃ i,xs=[.int i]/\Q (.int i) H)∨∃ k,xs=[.bl k]/\Q (.int (if k then 1 else 0)) H):=by
 intro pins s σ H xs us Q I r h
 rcases h with ⟨i,rfl,q⟩ | ⟨k,rfl,q⟩
 ·obtain ⟨u,rfl,t,rfl⟩:=vals1 r
  exact call_int_int ⟨.int i,H,I,⟨_,rfl⟩,q⟩
 ·obtain ⟨u,rfl,r1⟩:=vals1 r
  cases r1
  exact call_int_bool ⟨.int (if k then 1 else 0),H,I.tok _,⟨_,rfl⟩,q⟩
theorem xi:cj X (.type "str") (λxs H Q=>∃ i,xs=[.int i]/\i.natAbs.log2 < 1920/\Q (.str (toString i)) H):=by
 intro pins s σ H xs us Q I r h
 obtain ⟨i,rfl,hz,q⟩:=h
 obtain ⟨u,rfl,t,rfl⟩:=vals1 r
 exact PySem.P.str_of_int hz ⟨.str _,H,I.tok _,⟨_,rfl⟩,q⟩
end
end L2
namespace L2
open PySem PySem.Spec PyProof.Rows
section
variable {prog:UT} {w:Va} {A:U9} {E:UC->UE->Prop} {s:UE} {K:UB} {x dx C f:Addr} {mA:Str->Option UC} {name:Str} {v:UC}
end
section
variable {P:UT} {w:Va} {H H':Hp} {h h':Heap} {a C dx:Addr} {fs fs':List (Str×V)}
end
structure Cls (K:UB) (C:Addr):Prop where
 pg:zbe K C XC=true
 hd:PySem.W.hasDictIn K C=true
 po:PySem.W.plainOver K C=true
 sa:PySem.W.findIn K (.ref C) "__setattr__" = some (some (.builtin "object.__setattr__"))
theorem Cls.get {K:UB}{C:Addr}(c:Cls K C)(f:Str):zbe K C f=true:=c.pg
section
variable {X:Cx} {pins:List (Addr×Obj)} {σ:St} {H:Hp} {s:UE} {a C dx:Addr} {fs:List (Str×V)} {f:Str} {v:V} {A:U9} {E:UC->UE->Prop}
end
section
variable {X:Cx} {o e value:U5} {f:Str} {pos pos' tpos:Pos} {ta tv:TE}
def Bw:V->V->Hp->VK->Prop:=λx y H Q=>∃ i j,x=.int i/\y=.int j/\Q (.int (i - j)) H
end
section
variable {X:Cx} {pins:List (Addr×Obj)} {σ:St} {H:Hp} {s:UE} {A:U9} {E:UC->UE->Prop} {Q:UC->UE->Prop} {c:UC} {b:Bool}
end
end L2
namespace L2
open PySem PySem.Spec PyProof.Rows
structure gx (k:Nat) (A:U9):Prop where
 hd:A.handled=none
 dp:A.depth+3*k+5 < recursionLimit
 un:A.units+16*k+200 < cLine
theorem gx.mono {j k:Nat}{A:U9}(r:gx k A)(h:j<=k):gx j A:=⟨r.hd,by have:=r.dp;omega,by have:=r.un;omega⟩
theorem gx.deeper {k:Nat}{A:U9}(r:gx (k+1) A)(env:Env):gx k (A.deeper env):=
 ⟨r.hd,by have:=r.dp;show A.depth+1+3*k+5 < _;omega,by have:=r.un;show A.units+3+16*k+200 < _;omega⟩
theorem gx.depth {k:Nat}{A:U9}(r:gx k A):A.depth < recursionLimit:=by have:=r.dp;omega
theorem gx.units {k:Nat}{A:U9}(r:gx k A):A.units+64 < cLine:=by have:=r.un;omega
def Tr:TA:=λ_ H Q=>Q [] H
def RS (ta:TE)(tr:TA):TA:=λσ H Q=>ta σ H λx H1=>tr σ H1 λxs H2=>Q (x::xs) H2
section
variable {X:Cx} {e:U5} {es:List U5} {te:TE} {t:TA} {pos:Pos}
theorem gf:PA X [] Tr:=λ_ _ _ _ H Q I h=>XQ ⟨[],H,I,.nil,h⟩
theorem cG (ha:PE X e te)(hr:PA X es t)(hs:UI (e::es) X.env=(false,VI e X.env)::UI es X.env:=by rfl):PA X (e::es) (RS te t):=by
 intro pos pins s σ H Q I h
 rw[hs]
 show UU _ _ (zbC ((false,VI e X.env)::Vr pos (UI es X.env))) _ _ s
 refine Xx (thn (ha pins s σ H _ I h) λu s1 ⟨x,H1,I1,r1,q1⟩=>?_)
 exact thn (hr pos pins s1 σ H1 _ I1 q1) λus s2 ⟨xs,H2,I2,r2,q2⟩=>⟨x::xs,H2,I2,.cons r1 r2,q2⟩
def Ua (t:TA):TE:=λσ H Q=>t σ H λxs H1=>xs.length<=sizeLine/\∀ p,H1 p=none->Q (.ref p) (upd H1 p (.tup xs))
def TQ (t:TA):TE:=λσ H Q=>t σ H λxs H1=>xs.length<=sizeLine/\∀ p,H1 p=none->Q (.ref p) (upd H1 p (.lst xs))
theorem Pj {x1}(h:PA X es t):PE X (.Tuple es x1 pos) (Ua t):=by
 intro pins s σ H Q I hq
 refine wpAny_Tuple_spliced (thn (h pos pins s σ H _ I hq) λus s1 ⟨xs,H1,I1,r,z,q⟩=>⟨by rw[← r.length];exact z,?_⟩)
 have hf:H1 s1.heap.objs.size=none:=I1.hok.fresh (U0 _)
 refine ⟨.ref s1.heap.objs.size,upd H1 s1.heap.objs.size (.tup xs),I1.laid (t':=s1.toks) (λb u e=>UD _ e) (U0 _) ?_,rfl,q _ hf⟩
 exact ⟨z,us,r,⟨_,UP _ rfl⟩⟩
theorem HU (h:PA X es t):PE X (.List es pos) (TQ t):=by
 intro pins s σ H Q I hq
 refine wpAny_List_spliced (thn (h pos pins s σ H _ I hq) λus s1 ⟨xs,H1,I1,r,z,q⟩=>⟨by rw[← r.length];exact z,?_⟩)
 have hf:H1 s1.heap.objs.size=none:=I1.hok.fresh (U0 _)
 refine ⟨.ref s1.heap.objs.size,upd H1 s1.heap.objs.size (.lst xs),I1.laid (t':=s1.toks) (λb u e=>UD _ e) (U0 _) ?_,rfl,q _ hf⟩
 exact ⟨z,us,0,r,UP _ rfl⟩
end
abbrev Sp:=List V->Hp->VK->XK->Prop
abbrev CXT:=List Env->Hp->UE->XK->UC->UE->Prop
structure MH (P:UT) (w:Va) (K:UB) (mg:Str->Option UC) (base:Heap) (A:U9) (outer:List Env) (s:UE) (H:Hp):Prop where
 frames:A.frames=some outer
 mod:Mod K mg base
 bs:∀ b o,base.get? b=some o->s.heap.get? b=some o/\H b=none
 bsz:base.objs.size<=s.heap.objs.size
 ui:s.heap.FunFrames base outer
 frf:∀ b∈frs outer,H b=none
 hok:HOk P w H s.heap
 bare:YZ s.gens
def CE (outer:List Env)(P:UT)(w:Va)(H:Hp)(s:UE)(Q:VK)(u:UC)(s':UE):Prop:=
 ∃ v H',s'.os=s.os/\YZ s'.gens/\Un (frs outer) [] H H' s.heap s'.heap/\HOk P w H' s'.heap/\RelV v u/\Q v H'
def CR (CX:CXT)(outer:List Env)(P:UT)(w:Va)(H:Hp)(s:UE)(Q:VK)(E:XK)(r:zbJ)(s':UE):Prop:=
 match r with
 | .ok (.ret u)=>CE outer P w H s Q u s'
 | .ok _=>False
 | .error e=>CX outer H s E e s'
structure jK (P:UT) (w:Va) (K:UB) (mg:Str->Option UC) (base:Heap) (CX:CXT) (k:Nat) (f:Addr) (fd:US) (ps:List Str) (sp:Sp):Prop where
 len:∀ vs H Q E,sp vs H Q E->vs.length=ps.length
 run:∀ (A:U9) (outer:List Env) (s:UE) (H:Hp) (args:Args) (us:List UC) (vs:List V) (Q:VK) (E:XK),gx k A->MH P w K mg base A outer s H->zaS s fd args (ps.zip us)->Vals vs us->sp vs H Q E->
  Xh (U1 P w) A (.call (.ref f) args) (CR CX outer P w H s Q E) s
theorem jK.mono {P:UT}{w:Va}{K:UB}{mg:Str->Option UC}{base:Heap}{CX:CXT}{j k:Nat}{f:Addr}{fd:US}{ps:List Str}{sp:Sp}(F:jK P w K mg base CX j f fd ps sp)(h:j<=k) :
  jK P w K mg base CX k f fd ps sp:=⟨F.len,λA outer s H args us vs Q E hr=>F.run A outer s H args us vs Q E (hr.mono h)⟩
section
variable {X:Cx} {pins:List (Addr×Obj)} {σ:St} {H:Hp} {s s':UE}
theorem Inv.Uu (I:Inv X pins σ H s):MH X.prog X.w X.K X.mg X.base X.A X.stack s H:=
 ⟨I.ok.frames,I.ok.mod,I.bs,Vy I.ok.bsz I.sz,I.stack,I.Ef,I.hok,I.bare⟩
theorem Inv.after {Q:VK}{u:UC}(I:Inv X pins σ H s)(h:CE X.stack X.prog X.w H s Q u s'):EP X pins σ Q u s':=by
 obtain ⟨v,H',os,bare,un,hok,r,q⟩:=h
 obtain ⟨hh,g,d,t,os'⟩:=s'
 obtain rfl:os'=s.os:=os
 exact ⟨v,H',I.call (h':=hh) (g':=g) (d':=d) (t':=t) (ch:=[]) un hok bare (λb z=>absurd z (by simp)),r,q⟩
end
def RY (sp:Sp)(dvs:List V)(E:XK)(t:TA):TE:=λσ H Q=>t σ H λvs H1=>sp (vs++dvs) H1 Q E
def Binds (K:UB)(fd:US)(ps:List Str)(ds:List UC):Prop:=
 ∀ (s:UE) (us:List UC),K.In s.heap->(us++ds).length=ps.length->zaS s fd ⟨us,[]⟩ (ps.zip (us++ds))
theorem Binds.all {K:UB}{fd:US}{ps:List Str}(h:∀ us:List UC,us.length=ps.length->bindArgs fd ⟨us,[]⟩=pure (ps.zip us)):Binds K fd ps []:=λs us _ hl=>by
 rw[Ve] at hl ⊢
 exact .of_eq (h us hl)
def Passes (CX:CXT)(X:Cx)(E:XK):Prop:=∀ (pins:List (Addr×Obj)) (σ:St) (H:Hp) (s:UE) (e:UC) (s':UE),Inv X pins σ H s->CX X.stack H s E e s'->X.xe e s'
section
variable {X:Cx} {CX:CXT} {k:Nat} {f C:Addr} {fd:US} {ps:List Str} {sp:Sp} {dvs:List V} {ds:List UC} {E:XK} {x m:Str} {p pos apos:Pos} {e o:U5} {es:List U5} {ta:TE} {t:TA}
theorem O6 {pins:List (Addr×Obj)}{σ:St}{H:Hp}{s:UE}{Q:VK}{us:List UC}{vs:List V}(F:jK X.prog X.w X.K X.mg X.base CX k f fd ps sp)(hr:gx k X.A)(hb:Binds X.K fd ps ds)(hd:Vals dvs ds)(hx:Passes CX X E)
  (I:Inv X pins σ H s) (r:Vals vs us) (h:sp (vs++dvs) H Q E):UU (U1 X.prog X.w) X.A (call (.ref f) us) (EP X pins σ Q) X.xe s:=by
 have r2:Vals (vs++dvs) (us++ds):=r.append hd
 have hl:(us++ds).length=ps.length:=by rw[← r2.length];exact F.len _ _ _ _ h
 refine zaH (Yy (F.run X.A X.stack s H ⟨us,[]⟩ (us++ds) (vs++dvs) Q E hr I.Uu (hb s us I.kIn hl) r2 h) λr s' hq=>?_)
 cases r with
 | error e=>exact hx pins σ H s e s' I hq
 | ok fl=>
  cases fl with
  | ret u=>exact I.after hq
  | next=>exact UG hq
  | brk=>exact UG hq
  | cont=>exact UG hq
theorem MT (F:jK X.prog X.w X.K X.mg X.base CX k f fd ps sp)(hr:gx k X.A)(hg:Gl X x)(hm:X.mg x=some (.ref f))(hk:XR X.K (.ref f)=true)(hb:Binds X.K fd ps ds)(hd:Vals dvs ds)(hx:Passes CX X E)
  (ha:PA X (e::es) t) (hdb:(x == ("__debug__" : Str))=false:=by decide) (he:UI (e::es) X.env=(false,VI e X.env)::UI es X.env:=by rfl) (hpl:(Vr pos (UI es X.env)).any (·.1)=false:=by rfl) :
  PE X (.Call (.Name x p) (e::es) [] pos) (RY sp dvs E t):=by
 intro pins s σ H Q I h
 refine WE (DY I hg hm ?_ hdb)
 refine PySem.W.callWith_K (h₀:=X.base) I.ok.mod.kin hk (thn (ha pos pins s σ H _ I h) λus s1 ⟨vs,H1,I1,r,q⟩=>⟨I1.kIn,?_⟩) he hpl
 exact O6 F hr hb hd hx I1 r q
end
section
variable {X:Cx} {CX:CXT} {k:Nat} {f C:Addr} {fd:US} {ps ks:List Str} {sp:Sp} {E:XK} {x m:Str} {p pos apos kpos:Pos} {e o:U5} {es:List U5} {kws:List WZ} {te ta:TE} {t tk:TA} {nm:Option Str}
variable {g:List UC->List UC->List UC} {gV:List V->List V->List V}
end
structure aE (N P:List Str) (sc:Scope):Prop where
 kind:sc.kind=.function
 co:sc.isCoroutine=false
 gen:sc.isGenerator=false
 nd:N.Nodup
 pre:N.take P.length=P
 par:∀ x∈P,sc.names.lookup x=some .local∨sc.names.lookup x=some .cell
 QL:∀ y∈sc.names,y.2≠.free
theorem wc {X6:Str->Option Yf}{x:Str}:∀ {binds:List (Str×UC)} {m:Str->Option UC},(∀ v,(x,v) ∉ binds)->zbK X6 binds m x=m x
 | [],_,_=>rfl
 | (n,v)::r,m,h=>by
  unfold zbK
  rw[wc λw hw=>h w (UN _ hw)]
  split
  ·have:x≠n:=by rintro rfl;exact h v UK
   simp[this]
  ·rfl
theorem wB {X6:Str->Option Yf}{x:Str}:∀ {binds:List (Str×UC)} {m:Str->Option UC},(∀ v,(x,v) ∉ binds)->zbL X6 binds m x=m x
 | [],_,_=>rfl
 | (n,v)::r,m,h=>by
  unfold zbL
  rw[wB λw hw=>h w (UN _ hw)]
  split
  ·rfl
  ·have:x≠n:=by rintro rfl;exact h v UK
   simp[this]
theorem wx {X6:Str->Option Yf}{x:Str}{v:UC}:∀ {P:List Str} {vs:List UC} {i:Nat} {m:Str->Option UC},P.Nodup->P[i]? = some x->vs[i]? = some v->X6 x=some .local->
  zbK X6 (P.zip vs) m x=some v
 | [],_,_,_,_,h,_,_=>by simp at h
 | _::_,[],_,_,_,_,h,_=>by simp at h
 | p::P,w::vs,0,m,nd,h1,h2,hk=>by
  simp at h1 h2;subst h1;subst h2
  show zbK X6 ((p,w)::P.zip vs) m p=_
  unfold zbK
  rw[wc λv hv=>(Wc.mp nd).1 (ZI hv).1,if_pos hk]
  simp
 | p::P,w::vs,i+1,m,nd,h1,h2,hk=>by
  show zbK X6 ((p,w)::P.zip vs) m x=_
  unfold zbK
  exact wx (i:=i) (Wc.mp nd).2 (by simpa using h1) (by simpa using h2) hk
theorem vM {X6:Str->Option Yf}{x:Str}{v:UC}:∀ {P:List Str} {vs:List UC} {i:Nat} {m:Str->Option UC},P.Nodup->P[i]? = some x->vs[i]? = some v->X6 x≠some .local->
  zbL X6 (P.zip vs) m x=some v
 | [],_,_,_,_,h,_,_=>by simp at h
 | _::_,[],_,_,_,_,h,_=>by simp at h
 | p::P,w::vs,0,m,nd,h1,h2,hk=>by
  simp at h1 h2;subst h1;subst h2
  show zbL X6 ((p,w)::P.zip vs) m p=_
  unfold zbL
  rw[wB λv hv=>(Wc.mp nd).1 (ZI hv).1,if_neg hk]
  simp
 | p::P,w::vs,i+1,m,nd,h1,h2,hk=>by
  show zbL X6 ((p,w)::P.zip vs) m x=_
  unfold zbL
  exact vM (i:=i) (Wc.mp nd).2 (by simpa using h1) (by simpa using h2) hk
def start (N:List Str)(vs:List V):St:=vs.map some++Vb (N.length - vs.length) none
def BM (CX:CXT)(P:UT)(w:Va)(K:UB)(mg:Str->Option UC)(base:Heap)(N:List Str)(qual:Str)(scope:Scope)(f:Addr)(cd:UC)(A:U9)(outer:List Env)(s:UE)(H:Hp)(E:XK):Cx where
 prog:=P
 w:=w
 K:=K
 mg:=mg
 base:=base
 A:=A.deeper (YK qual scope s.heap.objs.size f cd)
 N:=N
 s₀:=s
 H₀:=H
 env:=YK qual scope s.heap.objs.size f cd
 outer:=outer
 stack:=YK qual scope s.heap.objs.size f cd::outer
 ex:=[]
 calm:=true
 fn:=λ_=>true
 pn:=[]
 xe:=λe s'=>UU (U1 P w) (A.deeper (YK qual scope s.heap.objs.size f cd)) (leaving (YK qual scope s.heap.objs.size f cd) e) (λ_ s''=>CX outer H s E e s'') (λe' s''=>CX outer H s E e' s'') s'
theorem AA {sc:Scope}{n:Nat}{x:Str}(h:sc.names.lookup x=some .cell):∃ c,(cellsFrom n sc.names []).lookup x=some c:=by
 have q:=Zu sc.names n [] (.inl h)
 exact Xv.mp q
theorem Ge {CX:CXT}{P:UT}{w:Va}{K:UB}{mg:Str->Option UC}{base:Heap}{N ps:List Str}{qual:Str}{scope:Scope}{f:Addr}{cd:UC}{A:U9}{outer:List Env}{s s1:UE}{H:Hp}{E:XK}{us:List UC}{vs:List V}
  (S:aE N ps scope) (hd:A.handled=none) (e0:MH P w K mg base A outer s H) (hl:vs.length=ps.length) (r:Vals vs us)
  (x:InCallC s s.heap.objs.size (zbK (YK qual scope s.heap.objs.size f cd).kindOf (ps.zip us) λ_=>none) (cellsFrom (s.heap.objs.size+1) scope.names []) (zbL (YK qual scope s.heap.objs.size f cd).kindOf (ps.zip us) λ_=>none) s1) :
  Inv (BM CX P w K mg base N qual scope f cd A outer s H E) [] (start N vs) H s1:=by
 have hpl:ps.length<=N.length:=by have:=congrArg VQ S.pre;rw[X7] at this;omega
 obtain ⟨h1,tk,rfl,hk⟩:=x.done
 have noA:∀ b:Addr,b ∉ (BM CX P w K mg base N qual scope f cd A outer s H E).ex:=λb z=>absurd (show b∈([]:List Addr) from z) (by simp)
 refine ⟨⟨e0.mod,S.kind,rfl,rfl,U0 _,λy z c h1 h2=>?_,λy hy=>?_,λy c _ h=>?_,λ_=>hd,Around.frames_deeper e0.frames,.inr ⟨rfl,rfl⟩,λb z=>absurd z (noA b),e0.bs,e0.bsz,λb _ _=>noA b,λb z=>absurd z (noA b),e0.ui,e0.frf⟩,
  rfl,e0.bare,Un.kept hk,⟨_,x.toInCall.ns,λi y v h1 h2 h3=>?_⟩,λy c h=>⟨_,x.cell y c h⟩,e0.hok.fresh (U0 _),λy c h=>?_,λp hp=>absurd (show p∈([]:List (Addr×Obj)) from hp) (by simp),e0.hok.kept hk,?_⟩
 ·exact name_of_addr x.apart (VT h1) (VT h2)
 ·have hy:scope.names.lookup y=some .cell∨scope.names.lookup y=some .free:=hy
  rcases hy with hy | hy
  ·exact AA hy
  ·exact absurd rfl (S.QL _ (VT hy))
 ·exact Zs (x.above y c (VT h))
 ·have hi:i < vs.length:=by
   unfold start at h2
   by_cases hi:i < vs.length
   ·exact hi
   ·rw[VR (by simpa using hi)] at h2
    rw[Ze] at h2
    split at h2<;>cases h2
  have ha:vs[i]? = some v:=by
   unfold start at h2
   rw[Xq (by simpa using hi),VB] at h2
   cases e:vs[i]? with
   | none=>rw[e] at h2;cases h2
   | some a=>rw[e] at h2;cases h2;rfl
  obtain ⟨u,hu,rv⟩:=r.get ha
  have hp:ps[i]? = some y:=by
   rw[← S.pre,List.getElem?_take_of_lt (by omega)];exact h1
  have ndP:ps.Nodup:=by rw[← S.pre];exact S.nd.sublist (List.take_sublist _ _)
  refine ⟨u,rv,?_⟩
  rcases S.par y (Yg hp) with k | k
  ·exact .inl ⟨k,wx ndP hp hu k⟩
  ·obtain ⟨c,e⟩:=AA (n:=s.heap.objs.size+1) k
   refine .inr ⟨.inl k,c,e,?_⟩
   have q:=x.cell y c e
   rw[vM ndP hp hu (by show scope.names.lookup y≠_;rw[k];decide)] at q
   exact q
 ·exact e0.hok.fresh (Zs (x.above y c (VT h)))
 ·unfold start
  show _=N.length
  rw[UY,UJ,We]
  omega
theorem Tg {CX:CXT}{P:UT}{w:Va}{K:UB}{mg:Str->Option UC}{base:Heap}{k:Nat}{f:Addr}{name qual:Str}{params:Arguments}{body:List Stmt}{scope:Scope}{dV kV doc pm cdv ct oc:UC}{an od:Option Addr}
  {osl:Array (Option UC)} {N ps:List Str} {sp:Sp} (lk:K.lookup f=some ⟨oc,od,.func (Xo name qual params body scope dV kV doc pm an cdv ct),osl⟩) (hcd:ZZ K cdv qual=true) (S:aE N ps scope)
  (len:∀ vs H Q E,sp vs H Q E->vs.length=ps.length)
  (hbody:∀ (A:U9) (outer:List Env) (s:UE) (H:Hp) (vs:List V) (Q:VK) (E:XK),gx k (A.deeper (YK qual scope s.heap.objs.size f cdv))->sp vs H Q E->
   ∃ t,PSs (BM CX P w K mg base N qual scope f cdv A outer s H E) body t/\t { nx:=λ_ H'=>Q .non H',rt:=Q } (start N vs) H) :
  jK P w K mg base CX (k+1) f (Xo name qual params body scope dV kV doc pm an cdv ct) ps sp:=by
 refine ⟨len,λA outer s H args us vs Q E hr e0 hb r hsp=>?_⟩
 have hl:=len _ _ _ _ hsp
 have KX:K.In s.heap:=e0.mod.kin.keeps λb o e=>(e0.bs b o e).1
 have lim:s.heap.NoLimit:=e0.mod.nolimit.keeps λb o e=>(e0.bs b o e).1
 have iB:∀ y∈ps.zip us,scope.names.lookup y.1=some .local∨(scope.names.lookup y.1=some .cell/\((cellsFrom (s.heap.objs.size+1) scope.names []).lookup y.1).isSome=true):=λ⟨n,v⟩ hy=>by
  rcases S.par n (ZI hy).1 with q | q
  ·exact .inl q
  ·exact .inr ⟨q,Zu _ _ _ (.inl q)⟩
 refine codeAny_call_function hr.depth (KX _ _ lk) rfl S.co S.gen rfl (PySem.W.codeRec_of KX hcd) (hb _ _ _ _ ?_)
 refine wpAny_newFunctionEnv_cells S.kind iB λenv he s1 x=>?_
 subst he
 refine ⟨lim.keeps x.toInCall.keep,codeAny_func ?_⟩
 obtain ⟨t,ht,hq⟩:=hbody A outer s H vs Q E (hr.deeper _) hsp
 have I:Inv (BM CX P w K mg base N qual scope f cdv A outer s H E) [] (start N vs) H s1:=Ge S hr.hd e0 hl r x
 refine Wg (ht [] s1 (start N vs) H _ I hq) (λfl s' hs=>?_) λe s' hs=>hs
 have fin:∀ {σ':St} {H':Hp} {v:V} {u:UC},Inv (BM CX P w K mg base N qual scope f cdv A outer s H E) [] σ' H' s'->RelV v u->Q v H'->CE outer P w H s Q u s':=
  λ{σ' H' v u} J rv q=>⟨v,H',J.os,J.bare,J.base,J.hok,rv,q⟩
 cases fl with
 | ret u=>
  obtain ⟨v,σ',H',J,rv,q⟩:=hs
  exact fin J rv q
 | next=>
  obtain ⟨σ',H',J,q⟩:=hs
  exact fin (v:=V.non) (u:=VO) J rfl q
 | brk=>
  obtain ⟨_,_,_,q⟩:=hs
  exact UG q
 | cont=>
  obtain ⟨_,_,_,q⟩:=hs
  exact UG q
end L2
namespace L2
open PySem PySem.Spec PyProof.Rows
section
variable {X:Cx} {x:Str} {p pos:Pos} {e:U5} {es:List U5} {t:TA} {id T:String} {r:List V->Hp->VK->Prop}
def tCB (r:List V->Hp->VK->Prop)(t:TA):TE:=λσ H Q=>t σ H λvs H1=>r vs H1 Q
theorem nM (hc:cj X (.builtin id) r)(hg:Gl X x)(hm:X.mg x=none)(hv:Vm x=some (.builtin id))(ha:PA X (e::es) t)(hn:x ≠ "__name__" := by decide)(hdb:(x == ("__debug__" : Str))=false:=by decide)
  (he:UI (e::es) X.env=(false,VI e X.env)::UI es X.env:=by rfl) (hpl:(Vr pos (UI es X.env)).any (·.1)=false:=by rfl):PE X (.Call (.Name x p) (e::es) [] pos) (tCB r t):=by
 intro pins s σ H Q I h
 refine WE (je I hg hm hv ?_ hn hdb)
 exact W4 (thn (ha pos pins s σ H _ I h) λus s1 ⟨vs,H1,I1,r1,q1⟩=>hc pins s1 σ H1 vs us Q I1 r1 q1) he hpl
theorem FV (hc:cj X (.type T) r)(hg:Gl X x)(hm:X.mg x=none)(hv:Vm x=some (.type T))(ha:PA X (e::es) t)(hn:x ≠ "__name__" := by decide)(hdb:(x == ("__debug__" : Str))=false:=by decide)
  (he:UI (e::es) X.env=(false,VI e X.env)::UI es X.env:=by rfl) (hpl:(Vr pos (UI es X.env)).any (·.1)=false:=by rfl):PE X (.Call (.Name x p) (e::es) [] pos) (tCB r t):=by
 intro pins s σ H Q I h
 refine WE (je I hg hm hv ?_ hn hdb)
 exact V3 (thn (ha pos pins s σ H _ I h) λus s1 ⟨vs,H1,I1,r1,q1⟩=>hc pins s1 σ H1 vs us Q I1 r1 q1) he hpl
end
end L2
namespace HT
open PySem PyProof.Rows
section
open PySem.SeqAt
open PySem.AutoSeq1 (wpAny_loadPart')
open PySem.MeetsSeq PySem.MeetsSeq2 PySem.MeetsSeq3
end
section
variable {prog:UT} {w:Va} {A:U9} {E:UC->UE->Prop} {s:UE}
theorem KI {t b:Addr}{vs ws:List UC}{Q:UC->UE->Prop}(ht:IsTup s.heap t vs.toArray)(hb:IsTup s.heap b ws.toArray)(hv:vs≠[])
  (h1:ws=[]->Q (.ref t) s) (h2:ws≠[]->Q (.ref s.heap.objs.size) { s with heap:=s.heap.push { cls:=.type "tuple", data:=.seq (vs++ws).toArray } })
  (hsz:vs.length+ws.length<=sizeLine):UU (U1 prog w) A (WR .Add (.ref t) (.ref b)) Q E s:=by
 obtain ⟨⟨cls,dd,data,sl⟩,ho,hc,n,hd⟩:=id ht
 obtain ⟨⟨cls2,dd2,data2,sl2⟩,ho2,hc2,n2,hd2⟩:=id hb
 simp only at hc hd hc2 hd2
 subst hc hd hc2 hd2
 have e:vs.toArray++ws.toArray=(vs++ws).toArray:=by simp
 by_cases hw:ws=[]
 ·exact Zv ⟨_,ho,rfl⟩ ⟨_,ho2,rfl⟩ Zf zar XS XD (Xw _ _)
   (tuple_addW1 t b vs.toArray ws.toArray n n2 dd dd2 sl sl2 (by simpa using hv) (by simp[hw])) ⟨ho,ho2,h1 hw⟩
 ·refine Zv ⟨_,ho,rfl⟩ ⟨_,ho2,rfl⟩ Zf zar XS XD (Xw _ _)
   (tuple_addW2 t b vs.toArray ws.toArray n n2 dd dd2 sl sl2 (by simpa using hv) (by simpa using hw) (by rw[UR,UR];exact hsz)) ⟨ho,ho2,?_⟩
  rw[e]
  exact h2 hw
def sIx (n d:Nat):Option Int->Nat
 | none=>d
 | some v=>if v < 0 then (v+(n:Int)).toNat else min v.toNat n
theorem zH (n d:Nat):sIx n d none=d:=rfl
theorem DV (n d k:Nat):sIx n d (some (k:Int))=min k n:=by
 show (if (k:Int) < 0 then ((k:Int)+(n:Int)).toNat else min (k:Int).toNat n)=min k n
 rw[if_neg (by omega),Vn]
theorem Qi (n d:Nat)(hd:d<=n)(o:Option Int):sIx n d o<=n:=by
 cases o with
 | none=>exact hd
 | some v=>
  show (if v < 0 then (v+(n:Int)).toNat else min v.toNat n)<=n
  by_cases hv:v < 0
  ·rw[if_pos hv];omega
  ·rw[if_neg hv];exact Nat.min_le_right _ _
theorem EF (v:Int)(n d:Nat):(if v < 0 then max (v+(n:Int)) 0 else min v (n:Int))=((sIx n d (some v):Nat):Int):=by
 show (if v < 0 then max (v+(n:Int)) 0 else min v (n:Int))=(((if v < 0 then (v+(n:Int)).toNat else min v.toNat n):Nat):Int)
 by_cases hv:v < 0
 ·simp only[if_pos hv];omega
 ·simp only[if_neg hv];omega
theorem BP (lo hi:Option Int)(n:Nat):Xr lo hi 1 (n:Int)=(((sIx n 0 lo:Nat):Int),((sIx n n hi:Nat):Int)):=by
 have h1:¬ ((1:Int) < 0):=by omega
 unfold Xr
 simp only[h1,if_false]
 refine Prod.ext ?_ ?_
 ·cases lo with
  | none=>rfl
  | some v=>exact EF v n 0
 ·cases hi with
  | none=>rfl
  | some v=>exact EF v n n
theorem Cm (i j:Nat):WL (i:Int) (j:Int) 1=j - i:=by
 unfold WL
 have h1:(1:Int) > 0:=by omega
 simp only[h1,if_true,Int.ediv_one]
 split<;>omega
theorem rH {v:UC}{o:Option Int}{Q:Option Int->UE->Prop}(p:IsPart v o)(h:Q o s):UU (U1 prog w) A (zbs v) Q E s:=by
 cases p with
 | none=>exact slicePart_none h
 | int i t=>exact slicePart_int h
theorem iC {sl:Addr}{vl vu:UC}{lo hi:Option Int}{n:Nat}{Q:Int×Int×Nat->UE->Prop}(hs:s.heap.IsSliceOf sl vl vu .none)(pl:IsPart vl lo)(pu:IsPart vu hi)
  (h:Q (((sIx n 0 lo:Nat):Int),1,sIx n n hi - sIx n 0 lo) s):UU (U1 prog w) A (YL (.ref sl) (pure (n:Int))) Q E s:=by
 obtain ⟨os,hos,hcs,hds⟩:=id hs
 unfold YL zb0
 refine wpAny_bind (wpAny_bind (VW hos hds (x:=vl) rfl (wpAny_bind (VW hos hds (x:=vu) rfl (wpAny_bind (VW hos hds (x:=.none) rfl (wpAny_pure ?_)))))))
 refine wpAny_bind (slicePart_none ?_)
 show UU _ _ (if ((1:Int) == 0)=true then _ else _) _ _ s
 rw[if_neg (by decide)]
 refine wpAny_bind (rH pl (wpAny_bind (rH pu (wpAny_bind (wpAny_pure ?_)))))
 show UU _ _ (match Xr lo hi 1 (n:Int) with | (lo,hi)=>pure (lo,(1:Int),WL lo hi 1)) _ _ s
 rw[BP lo hi n]
 show UU _ _ (pure (((sIx n 0 lo:Nat):Int),(1:Int),WL ((sIx n 0 lo:Nat):Int) ((sIx n n hi:Nat):Int) 1)) _ _ s
 rw[Cm]
 exact wpAny_pure h
theorem HQ (xs:Array UC)(i k:Nat):((Wo k).filterMap λ(m:Nat)=>xs[((i:Int)+(m:Int)*1).toNat]?).toArray=((xs.toList.drop i).take k).toArray:=by
 have e:(λ(m:Nat)=>xs[((i:Int)+(m:Int)*1).toNat]?)=λm=>xs[i+m]?:=by
  funext m
  have:((i:Int)+(m:Int)*1).toNat=i+m:=by omega
  rw[this]
 rw[e]
 have:=pick_run xs i k
 rw[List.filterMap_map] at this
 have e2:((λx=>xs[x]?) ∘ λx=>i+x)=λm=>xs[i+m]?:=rfl
 rw[e2] at this
 rw[this]
theorem nP {t sl:Addr}{items:Array UC}{vl vu:UC}{lo hi:Option Int}{Q:UC->UE->Prop}(ht:IsTup s.heap t items)(hs:s.heap.IsSliceOf sl vl vu .none)(pl:IsPart vl lo)(pu:IsPart vu hi)
  (hw:¬ (sIx items.size 0 lo=0/\sIx items.size items.size hi=items.size))
  (h:Q (.ref s.heap.objs.size) { s with heap:=s.heap.push { cls:=.type "tuple", data:=.seq ((items.toList.drop (sIx items.size 0 lo)).take (sIx items.size items.size hi - sIx items.size 0 lo)).toArray } })
  (hsz:items.size<=sizeLine):UU (U1 prog w) A (zaf (.ref t) (.ref sl)) Q E s:=by
 have EI:sizeOk (.seq ((items.toList.drop (sIx items.size 0 lo)).take (sIx items.size items.size hi - sIx items.size 0 lo)).toArray):=by
  show ((items.toList.drop (sIx items.size 0 lo)).take (sIx items.size items.size hi - sIx items.size 0 lo)).toArray.size<=sizeLine
  rw[UR,X7,Zg,VS]
  omega
 have hj:sIx items.size items.size hi<=items.size:=Qi _ _ (U0 _) hi
 obtain ⟨os,hos,hcs,hds⟩:=id hs
 have hTs:s.TypeIs (.ref sl) "slice" := ⟨os,hos,hcs⟩
 unfold zaf
 try with_reducible refine wpAny_holding ?_
 first | refine wpAny_bind (wpAny_pure ?_) | skip
 refine wpAny_bind (zaT ht.typeIs (by decide) ?_)
 refine wpAny_bind (Vi (name:=OF "__getitem__") ht.typeIs VD
  (Vu VD ht.typeIs zai ?_ (zaI _ _)))
 show UU _ _ (YM (.ref t) >>= _) _ _ s
 refine wpAny_bind (tupleItemsOf_ ht ?_)
 refine wpAny_bind (wpAny_typeOf hTs ?_)
 rw[if_pos (by decide)]
 refine wpAny_bind (iC hs pl pu ?_)
 have hno:¬ ((((sIx items.size 0 lo:Nat):Int) == 0&&(1:Int) == 1&&(sIx items.size items.size hi - sIx items.size 0 lo) == items.size)=true):=by
  intro q
  rw[UM,UM] at q
  have q1:((sIx items.size 0 lo:Nat):Int)=0:=eq_of_beq q.1.1
  have q2:sIx items.size items.size hi - sIx items.size 0 lo=items.size:=eq_of_beq q.2
  exact hw ⟨by omega,by omega⟩
 show UU _ _ (if (((sIx items.size 0 lo:Nat):Int) == 0&&(1:Int) == 1&&(sIx items.size items.size hi - sIx items.size 0 lo) == items.size)=true then _ else _) _ _ s
 rw[if_neg hno,HQ]
 first
  | exact wpAny_bind (m:=WW _) (VP (wpAny_pure ⟨_,rfl,wpAny_pure h⟩) EI)
  | exact wpAny_bind (m:=WW _) (VP (wpAny_bind (wpAny_pure (wpAny_pure ⟨_,rfl,wpAny_pure h⟩))) EI)
  | exact wpAny_bind (wpAny_bind (m:=WW _) (VP (wpAny_pure (wpAny_pure ⟨_,rfl,wpAny_pure h⟩)) EI))
  | exact wpAny_bind (wpAny_bind (m:=WW _) (VP (wpAny_pure ⟨_,rfl,wpAny_pure h⟩) EI))
end
end HT
namespace L2
open PySem PySem.Spec PyProof.Rows
abbrev TO:=St->Hp->(Option Int->Hp->Prop)->Prop
def PO (X:Cx)(e:Option U5)(t:TO):Prop:=
 ∀ (pins:List (Addr×Obj)) (s:UE) (σ:St) (H:Hp) (Q:Option Int->Hp->Prop),Inv X pins σ H s->t σ H Q->
  UU (U1 X.prog X.w) X.A (evalPart e X.env) (λu s'=>∃ o H',Inv X pins σ H' s'/\IsPart u o/\Q o H') X.xe s
def LV:TO:=λ_ H Q=>Q none H
def SS (t:TE):TO:=λσ H Q=>t σ H λx H1=>∃ i,x=.int i/\Q (some i) H1
section
variable {X:Cx} {e:U5} {te:TE} {lo hi:Option U5} {tl th:TO} {pos p2:Pos}
theorem K5:PO X none LV:=by
 intro pins s σ H Q I h
 rw[evalPart_none]
 exact wpAny_pure ⟨none,H,I,.none,h⟩
theorem K7 (h:PE X e te):PO X (some e) (SS te):=by
 intro pins s σ H Q I hw
 rw[evalPart_some]
 refine thn (h pins s σ H _ I hw) λu s1 ⟨x,H1,I1,r1,q1⟩=>?_
 obtain ⟨i,rfl,q⟩:=q1
 obtain ⟨t,rfl⟩:=r1
 exact ⟨some i,H1,I1,.int i t,q⟩
def SlR (X:Cx)(r:V->Option Int->Option Int->Hp->VK->Prop):Prop:=
 ∀ (pins:List (Addr×Obj)) (s:UE) (σ:St) (H:Hp) (x:V) (v vl vu:UC) (lo hi:Option Int) (sl:Addr) (Q:VK),Inv X pins σ H s->RelV x v->s.heap.IsSliceOf sl vl vu .none->IsPart vl lo->IsPart vu hi->r x lo hi H Q->
  ∃ T id,typeLookup (.type T) "__getitem__" = pure (some (.builtin id))/\s.TypeIs v T/\UU (U1 X.prog X.w) X.A (zaf v (.ref sl)) (EP X pins σ Q) X.xe s
theorem SlR.or {r r':V->Option Int->Option Int->Hp->VK->Prop}(h:SlR X r)(h':SlR X r'):SlR X (λx lo hi H Q=>r x lo hi H Q∨r' x lo hi H Q):=by
 intro pins s σ H x v vl vu lo hi sl Q I rx hs pl pu q
 rcases q with q | q
 ·exact h pins s σ H x v vl vu lo hi sl Q I rx hs pl pu q
 ·exact h' pins s σ H x v vl vu lo hi sl Q I rx hs pl pu q
def tSl (r:V->Option Int->Option Int->Hp->VK->Prop)(te:TE)(tl th:TO):TE:=λσ H Q=>te σ H λx H1=>tl σ H1 λl H2=>th σ H2 λu H3=>r x l u H3 Q
theorem Hs {r:V->Option Int->Option Int->Hp->VK->Prop}(hr:SlR X r)(he:PE X e te)(hl:PO X lo tl)(hu:PO X hi th):PE X (.Subscript e (.Slice lo hi none p2) pos) (tSl r te tl th):=by
 intro pins s σ H Q I h
 refine Subscript_ (thn (he pins s σ H _ I h) λv s1 ⟨x,H1,I1,r1,q1⟩=>?_)
 refine wpAny_Slice (thn (hl pins s1 σ H1 _ I1 q1) λvl s2 ⟨l,H2,I2,pl,q2⟩=>thn (hu pins s2 σ H2 _ I2 q2) λvu s3 ⟨u,H3,I3,pu,q3⟩=>?_)
 rw[evalPart_none]
 refine wpAny_pure ?_
 have I4:Inv X pins σ H3 { s3 with heap:=s3.heap.push { cls:=.type "slice", data:=.fields #[vl,vu,.none] } }:=I3.kept (t':=s3.toks) λb ob q=>UD _ q
 obtain ⟨T,id,hT,ht,hg⟩:=hr pins { s3 with heap:=s3.heap.push { cls:=.type "slice", data:=.fields #[vl,vu,.none] } } σ H3 x v vl vu l u s3.heap.objs.size Q I4 r1 (zcs ..) pl pu q3
 show UU (U1 X.prog X.w) X.A (subscriptTail e (.Slice lo hi none p2) v (.ref s3.heap.objs.size)) (EP X pins σ Q) X.xe { s3 with heap:=s3.heap.push { cls:=.type "slice", data:=.fields #[vl,vu,.none] } }
 exact tail_any (ops:=[.ref s3.heap.objs.size,v]) ht hT hg (by with_unfolding_all rfl)
def A2 (xs:List V)(lo hi:Option Int):List V:=(xs.drop (HT.sIx xs.length 0 lo)).take (HT.sIx xs.length xs.length hi - HT.sIx xs.length 0 lo)
theorem pD (xs:List V)(lo hi:Option Int):(A2 xs lo hi).length<=xs.length:=by
 unfold A2
 rw[X7,Zg]
 omega
def TX (K:UB):V->Option Int->Option Int->Hp->VK->Prop:=λx lo hi H Q=>∃ a xs,x=.ref a/\SqT K H a xs/\
 ¬ (HT.sIx xs.length 0 lo=0/\HT.sIx xs.length xs.length hi=xs.length)/\∀ p,H p=none->Q (.ref p) (upd H p (.tup (A2 xs lo hi)))
theorem Qg:SlR X (TX X.K):=by
 intro pins s σ H x v vl vu lo hi sl Q I rx hs pl pu h
 obtain ⟨a,xs,rfl,hx,hw,q⟩:=h
 cases rx
 obtain ⟨its,r,ht,hz⟩:=I.tuple hx
 have hlen:its.toArray.size=xs.length:=by rw[UR];exact r.length.symm
 refine ⟨"tuple", _,VD.lookup,ht.typeIs,?_⟩
 refine HT.nP ht hs pl pu (by rw[hlen];exact hw) ?_ (by rw[hlen];exact hz)
 rw[hlen]
 refine ⟨.ref s.heap.objs.size,_,I.laid (t':=s.toks) (o:=.tup (A2 xs lo hi)) (λb ob q=>UD _ q) (U0 _) ?_,rfl,q _ (I.hok.fresh (U0 _))⟩
 exact ⟨Vy (pD xs lo hi) hz,_,(r.drop (HT.sIx xs.length 0 lo)).take (HT.sIx xs.length xs.length hi - HT.sIx xs.length 0 lo),Ao.new _ _⟩
def Np (K:UB):R2:=λx y H Q=>∃ a b xs ys,x=.ref a/\y=.ref b/\SqT K H a xs/\SqT K H b ys/\xs≠[]/\xs.length+ys.length<=sizeLine/\
 (ys=[]->Q (.ref a) H)/\(ys≠[]->∀ p,H p=none->Q (.ref p) (upd H p (.tup (xs++ys))))
theorem Vals.xX {xs:List V}{us:List UC}(r:Vals xs us):us=[]↔xs=[]:=by
 cases r with
 | nil=>simp
 | cons _ _=>simp
theorem L0:OpR X (WR .Add) (Np X.K):=by
 intro pins s σ H x y v u Q I rx ry h
 obtain ⟨a,b,xs,ys,rfl,rfl,ha,hb,hx,hz,q1,q2⟩:=h
 cases rx
 cases ry
 obtain ⟨its,r1,p1,_⟩:=I.tuple ha
 obtain ⟨its2,r2,p2,_⟩:=I.tuple hb
 refine HT.KI p1 p2 (λz=>hx (r1.xX.mp z)) (λz=>⟨.ref a,H,I,rfl,q1 (r2.xX.mp z)⟩) (λz=>?_) (by rw[← r1.length,← r2.length];exact hz)
 refine ⟨.ref s.heap.objs.size,_,I.laid (t':=s.toks) (o:=.tup (xs++ys)) (λb ob q=>UD _ q) (U0 _) ?_,rfl,q2 (λw=>z (r2.xX.mpr w)) _ (I.hok.fresh (U0 _))⟩
 exact ⟨by rw[UY];exact hz,_,r1.append r2,Ao.new _ _⟩
end
end L2
namespace L2
open PySem PySem.Spec PyProof.Rows
def ixN (n:Nat)(i:Int):Option Nat:=if 0<=i then (if i < n then some i.toNat else none) else if -(n:Int)<=i then some (i+n).toNat else none
def atI {α:Type}(xs:List α)(i:Int):Option α:=(ixN xs.length i).bind λj=>xs[j]?
theorem Ex {n:Nat}{i:Int}{j:Nat}(h:ixN n i=some j):seqIndex? i n=some j/\j < n/\-(n:Int)<=i/\i < n:=by
 unfold ixN at h
 by_cases h0:0<=i
 ·rw[if_pos h0] at h
  by_cases h1:i < n
  ·rw[if_pos h1] at h
   have e:i.toNat=j:=VF h
   exact ⟨by rw[zbo h0 h1,e],by omega,by omega,h1⟩
  ·rw[if_neg h1] at h;cases h
 ·rw[if_neg h0] at h
  by_cases h1:-(n:Int)<=i
  ·rw[if_pos h1] at h
   have e:(i+n).toNat=j:=VF h
   exact ⟨by rw[zaU (by omega) h1,e],by omega,h1,by omega⟩
  ·rw[if_neg h1] at h;cases h
theorem xr {α:Type}{xs:List α}{i:Int}{v:α}(h:atI xs i=some v):∃ j,seqIndex? i xs.length=some j/\xs[j]? = some v/\j < xs.length/\-(xs.length:Int)<=i/\i < xs.length:=by
 unfold atI at h
 cases e:ixN xs.length i with
 | none=>rw[e] at h;cases h
 | some j=>
  rw[e] at h
  obtain ⟨h1,h2,h3,h4⟩:=Ex e
  exact ⟨j,h1,h,h2,h3,h4⟩
def qQ (b:U5):Prop:=∀ o i,subscripted b false o i=operate [o,i] (zaf o i)
def IxR (X:Cx)(r:R2):Prop:=
 ∀ (value slice:U5) (pins:List (Addr×Obj)) (s:UE) (σ:St) (H:Hp) (x y:V) (v u:UC) (Q:VK),Inv X pins σ H s->RelV x v->RelV y u->r x y H Q->
  subscripted slice false v u=operate [v,u] (zaf v u)->UU (U1 X.prog X.w) X.A (subscriptTail value slice v u) (EP X pins σ Q) X.xe s
def MtR (X:Cx)(id:String)(r:V->List V->Hp->VK->Prop):Prop:=
 ∀ (pins:List (Addr×Obj)) (s:UE) (σ:St) (H:Hp) (x:V) (xs:List V) (v:UC) (us:List UC) (Q:VK),Inv X pins σ H s->RelV x v->Vals xs us->r x xs H Q->
  UU (U1 X.prog X.w) X.A (call (.builtin id) (v::us)) (EP X pins σ Q) X.xe s
section
variable {X:Cx} {a b:U5} {ta tb:TE} {pos:Pos}
theorem IxR.or {r r':R2}(h:IxR X r)(h':IxR X r'):IxR X (λx y H Q=>r x y H Q∨r' x y H Q):=by
 intro value slice pins s σ H x y v u Q I rx ry q hs
 rcases q with q | q
 ·exact h value slice pins s σ H x y v u Q I rx ry q hs
 ·exact h' value slice pins s σ H x y v u Q I rx ry q hs
theorem Ij {r:R2}(hr:IxR X r)(ha:PE X a ta)(hb:PE X b tb)(hs:qQ b):PE X (.Subscript a b pos) (tOp r ta tb):=by
 intro pins s σ H Q I h
 exact Subscript_ (N4 ha hb I h λv u s2 x y H2 I2 rx ry q=>hr a b pins s2 σ H2 x y v u Q I2 rx ry q (hs _ _))
def S1 (K:UB):R2:=λx y H Q=>∃ p xs i v,x=.ref p/\y=.int i/\SqL K H p xs/\atI xs i=some v/\Q v H
def S9 (K:UB):R2:=λx y H Q=>∃ p xs i v,x=.ref p/\y=.int i/\SqT K H p xs/\atI xs i=some v/\Q v H
def Qw:R2:=λx y H Q=>∃ z i c,x=.str z/\y=.int i/\z.length<=sizeLine/\atI z.cps.toList i=some c/\Q (.str ⟨#[c]⟩) H
theorem LB:IxR X (S1 X.K):=by
 intro value slice pins s σ H x y v u Q I rx ry h hs
 obtain ⟨p,xs,i,z,rfl,rfl,hq,he,q⟩:=h
 cases rx
 obtain ⟨t,rfl⟩:=ry
 obtain ⟨its,r,pl,hz⟩:=I.list hq
 obtain ⟨j,h1,h2,h3,h4,h5⟩:=xr he
 obtain ⟨w,ew,rw'⟩:=r.get h2
 have hl:=r.length
 have hn:=oB
 have fin:EP X pins σ Q w s:=⟨z,H,I,rw',q⟩
 by_cases h0:0<=i
 ·have hj:i.toNat=j:=by
   rw[zbo h0 h5] at h1
   exact VF h1
  exact item_listR pl.isList h0 (by omega) (by rw[hj];simpa using ew) fin hs
 ·have hj:(i+(its.toArray.size:Int)).toNat=j:=by
   rw[zaU (by omega) h4] at h1
   rw[UR,← hl]
   exact VF h1
  exact Zw (x:=w) pl.isList.typeIs zaV.lookup
   (wpAny_getItem_list_neg (Q:=λr s'=>r=w/\EP X pins σ Q r s') pl.isList (by omega) (by rw[UR]<;>omega) (by omega) (by rw[hj];simpa using ew) ⟨rfl,fin⟩) hs
theorem OG:IxR X (S9 X.K):=by
 intro value slice pins s σ H x y v u Q I rx ry h hs
 obtain ⟨p,xs,i,z,rfl,rfl,hq,he,q⟩:=h
 cases rx
 obtain ⟨t,rfl⟩:=ry
 obtain ⟨its,r,pl,hz⟩:=I.tuple hq
 obtain ⟨j,h1,h2,h3,h4,h5⟩:=xr he
 obtain ⟨w,ew,rw'⟩:=r.get h2
 have hl:=r.length
 have hn:=oB
 have fin:EP X pins σ Q w s:=⟨z,H,I,rw',q⟩
 exact Zw (x:=w) pl.typeIs slot_tuple_getitem.lookup
  (getItem_tuple (j:=j) (Q:=λr s'=>r=w/\EP X pins σ Q r s') pl (by omega) (by omega) (by rw[UR,← hl];exact h1) (by simpa using ew) ⟨rfl,fin⟩) hs
theorem GI:IxR X Qw:=by
 intro value slice pins s σ H x y v u Q I rx ry h hs
 obtain ⟨z,i,c,rfl,rfl,hz,he,q⟩:=h
 obtain ⟨t,rfl⟩:=rx
 obtain ⟨t',rfl⟩:=ry
 obtain ⟨j,h1,h2,h3,h4,h5⟩:=xr he
 have hl:z.cps.toList.length=z.length:=by simp[Str.length]
 rw[hl] at h1 h4 h5
 have hn:=oB
 exact tail_any (zaJ s z t) slot_str_getitem.lookup (getItem_str (c:=c) (by
  have e1:decide (i < -(2 ^ 63:Int))=false:=decide_eq_false (by omega)
  have e2:decide (i ≥ 2 ^ 63)=false:=decide_eq_false (by omega)
  rw[e1,e2,zas]) (by rw[h1];simpa using h2) ⟨.str ⟨#[c]⟩,H,I.tok _,⟨_,rfl⟩,q⟩) hs
def rIx (K:UB):R2:=λx y H Q=>S1 K x y H Q∨S9 K x y H Q∨Qw x y H Q
theorem Qp:IxR X (rIx X.K):=LB.or (OG.or GI)
theorem CQ (its:List UC)(n j:Nat)(u:UC):WG (·.setIfInBounds j u) { cls:=.type "list", data:=.seq its.toArray n }={ cls:=.type "list", data:=.seq (its.set j u).toArray n }:=by
 simp[WG]
theorem Inv.lst {pins:List (Addr×Obj)}{σ:St}{H:Hp}{s:UE}{p:Addr}{xs:List V}(I:Inv X pins σ H s)(h:H p=some (.lst xs)) :
  ∃ (its:List UC) (n:Nat),Vals xs its/\s.heap.get? p=some { cls:=.type "list", data:=.seq its.toArray n }/\xs.length<=sizeLine:=by
 obtain ⟨z,its,n,r,e⟩:=I.hok p _ h
 exact ⟨its,n,r,e,z⟩
theorem Inv.PV {pins:List (Addr×Obj)}{σ:St}{H:Hp}{s:UE}{p:Addr}{xs ys:List V}{its its':List UC}{n n':Nat}{f:Obj->Obj}(I:Inv X pins σ H s)(h:H p=some (.lst xs))
  (ho:s.heap.get? p=some { cls:=.type "list", data:=.seq its.toArray n }) (hf:f { cls:=.type "list", data:=.seq its.toArray n }={ cls:=.type "list", data:=.seq its'.toArray n' }) (r:Vals ys its') (hz:ys.length<=sizeLine) (t:Nat) :
  Inv X pins σ (upd H p (.lst ys)) { s with heap:=s.heap.update p f,toks:=t }:=by
 have e:(s.heap.update p f).get? p=some { cls:=.type "list", data:=.seq its'.toArray n' }:=by
  rw[Vz f ho (by rw[hf]<;>rfl),hf]
 refine I.write (x:=p) (e:=p) (by rw[h];trivial) (.inl rfl) (λb u hb q=>(VC _ _ (Vq hb)).trans q) ⟨_,e⟩ ?_
 exact ⟨hz,its',n',r,e⟩
def Rh:V->V->V->Hp->(Hp->Prop)->Prop:=λo i v H Q=>∃ p xs k j,o=.ref p/\i=.int k/\H p=some (.lst xs)/\ixN xs.length k=some j/\Q (upd H p (.lst (xs.set j v)))
theorem set_list:Rm X Rh:=by
 intro pins s σ H o i v ov iv u Q I ro ri rv h
 obtain ⟨p,xs,k,j,rfl,rfl,hp,hj,q⟩:=h
 cases ro
 obtain ⟨t,rfl⟩:=ri
 obtain ⟨its,n,r,ho,hz⟩:=I.lst hp
 obtain ⟨h1,h2,h3,h4⟩:=Ex hj
 have hl:=r.length
 have hn:=oB
 have I':Inv X pins σ (upd H p (.lst (xs.set j v))) { s with heap:=s.heap.update p (WG (·.setIfInBounds j u)) }:=
  I.PV hp ho (CQ its n j u) (r.set rv j) (by rw[List.length_set];exact hz) s.toks
 by_cases h0:0<=k
 ·have hk:k.toNat=j:=by
   rw[zbo h0 h4] at h1
   exact VF h1
  exact PySem.W.ki_setAt ho h0 (by omega) (by rw[UR,← hl];exact h4) (by rw[hk];exact ⟨_,I',q⟩)
 ·have hk:(k+(its.toArray.size:Int)).toNat=j:=by
   rw[zaU (by omega) h3] at h1
   rw[UR,← hl]
   exact VF h1
  exact PySem.W.ki_setBack ho (by omega) (by rw[UR,← hl];exact h3) (by omega) (by rw[hk];exact ⟨_,I',q⟩)
theorem yH (lo hi:Option Int)(n:Nat):(XE lo hi none n).1=((HT.sIx n 0 lo:Nat):Int)/\(XE lo hi none n).2.1=((HT.sIx n n hi:Nat):Int)/\(XE lo hi none n).2.2=1:=by
 refine ⟨?_,?_,rfl⟩
 ·cases lo with
  | none=>simp[XE,HT.sIx]
  | some i=>
   simp only[XE,HT.sIx,zbf,show (1:Int) > 0 by decide,if_true]
   by_cases h:i < 0
   ·simp only[h,if_true]<;>omega
   ·simp only[h,if_false]<;>omega
 ·cases hi with
  | none=>simp[XE,HT.sIx]
  | some i=>
   simp only[XE,HT.sIx,zbf,show (1:Int) > 0 by decide,if_true]
   by_cases h:i < 0
   ·simp only[h,if_true]<;>omega
   ·simp only[h,if_false]<;>omega
theorem uT (its:List UC)(lo hi:Option Int):slicePick its.toArray lo hi none=((its.drop (HT.sIx its.length 0 lo)).take (HT.sIx its.length its.length hi - HT.sIx its.length 0 lo)).toArray:=by
 obtain ⟨h1,h2,h3⟩:=yH lo hi its.toArray.size
 unfold slicePick
 rw[h1,h2,h3]
 simp only[sliceRange_one,pick_run,UR]<;>rfl
def Ul (K:UB):V->Option Int->Option Int->Hp->VK->Prop:=λx lo hi H Q=>∃ a xs,x=.ref a/\SqL K H a xs/\∀ p,H p=none->Q (.ref p) (upd H p (.lst (A2 xs lo hi)))
theorem Lk:SlR X (Ul X.K):=by
 intro pins s σ H x v vl vu lo hi sl Q I rx hs pl pu h
 obtain ⟨a,xs,rfl,hx,q⟩:=h
 cases rx
 obtain ⟨its,r,ht,hz⟩:=I.list hx
 have hlen:=r.length
 refine ⟨"list", _,zaV.lookup,ht.isList.typeIs,?_⟩
 refine wpAny_getItem_list_slice ht.isList hs pl pu .none (by simp) ?_ (by rw[UR]<;>omega)
 rw[uT,← hlen]
 refine ⟨.ref s.heap.objs.size,_,I.laid (t':=s.toks) (o:=.lst (A2 xs lo hi)) (λb ob q=>UD _ q) (U0 _) ?_,rfl,q _ (I.hok.fresh (U0 _))⟩
 exact ⟨Vy (pD xs lo hi) hz,_,0,(r.drop (HT.sIx xs.length 0 lo)).take (HT.sIx xs.length xs.length hi - HT.sIx xs.length 0 lo),UP _ rfl⟩
def Nz:V->Bool
 | .non=>true
 | .bl _=>true
 | .int _=>true
 | .str _=>true
 | _=>false
def eqV:V->V->Bool
 | .non,.non=>true
 | .bl a,.bl b=>a == b
 | .bl a,.int b=>(if a then 1 else 0) == b
 | .int a,.bl b=>a == (if b then 1 else 0)
 | .int a,.int b=>a == b
 | .str a,.str b=>a == b
 | _,_=>false
def inV (x:V)(xs:List V):Bool:=xs.any λy=>eqV y x
def rIn (K:UB)(neg:Bool):R2:=λx y H Q=>∃ p xs,y=.ref p/\(SqL K H p xs∨SqT K H p xs)/\Nz x=true/\xs.all Nz=true/\Q (.bl (if neg then !inV x xs else inV x xs)) H
theorem xW:cj X (.builtin "len") (λxs H Q=>∃ p ys,xs=[.ref p]/\(SqL X.K H p ys∨SqT X.K H p ys)/\Q (.int ys.length) H):=by
 intro pins s σ H xs us Q I r h
 obtain ⟨p,ys,rfl,hq,q⟩:=h
 obtain ⟨u,rfl,rx⟩:=vals1 r
 cases rx
 have hn:=oB
 rcases hq with hq | hq
 ·obtain ⟨its,r',pl,hz⟩:=I.list hq
  have hlen:=r'.length
  exact Calls.call_len_list pl.isList (by simp only[UR]<;>omega) ⟨.int ys.length,H,I.tok _,⟨s.toks+1,by rw[UR,hlen]⟩,q⟩
 ·obtain ⟨its,r',pl,hz⟩:=I.tuple hq
  have hlen:=r'.length
  exact len_tuple pl (by simp only[UR]<;>omega) ⟨.int ys.length,H,I.tok _,⟨s.toks+1,by rw[UR,hlen]⟩,q⟩
theorem yg:cj X (.builtin "len") (λxs H Q=>∃ z,xs=[.str z]/\z.length<=sizeLine/\Q (.int z.length) H):=by
 intro pins s σ H xs us Q I r h
 obtain ⟨z,rfl,hz,q⟩:=h
 obtain ⟨u,rfl,t,rfl⟩:=vals1 r
 have hn:=oB
 exact len_str (by omega) ⟨.int z.length,H,I.tok _,⟨_,rfl⟩,q⟩
theorem cj.or {f:UC}{r r':List V->Hp->VK->Prop}(h:cj X f r)(h':cj X f r'):cj X f (λxs H Q=>r xs H Q∨r' xs H Q):=by
 intro pins s σ H xs us Q I rs q
 rcases q with q | q
 ·exact h pins s σ H xs us Q I rs q
 ·exact h' pins s σ H xs us Q I rs q
theorem bH:cj X (.type "tuple") (λxs H Q=>∃ p ys,xs=[.ref p]/\((SqL X.K H p ys/\∀ l,H l=none->Q (.ref l) (upd H l (.tup ys)))∨(SqT X.K H p ys/\Q (.ref p) H))):=by
 intro pins s σ H xs us Q I r h
 obtain ⟨p,ys,rfl,h⟩:=h
 obtain ⟨u,rfl,rx⟩:=vals1 r
 cases rx
 rcases h with ⟨hq,q⟩ | ⟨hq,q⟩
 ·obtain ⟨its,r',pl,hz⟩:=I.list hq
  have hlen:=r'.length
  refine call_tuple_list pl.isList (λh' kp=>?_) (by simp only[UR]<;>omega)
  have I1:Inv X pins σ H { s with heap:=h' }:=I.kept (t':=s.toks) kp
  have I2:Inv X pins σ (upd H h'.objs.size (.tup ys)) { s with heap:=h'.push { cls:=.type "tuple", data:=.seq its.toArray } }:=
   I1.laid (t':=s.toks) (λb o e=>UD _ e) (U0 _) (show gn X.prog X.w _ _ _ (.tup ys) from ⟨hz,its,r',Ao.new _ _⟩)
  exact ⟨.ref h'.objs.size,_,I2,rfl,q _ (I1.hok.fresh (U0 _))⟩
 ·obtain ⟨its,r',pl,hz⟩:=I.tuple hq
  exact call_tuple_same pl ⟨.ref p,H,I,rfl,q⟩
def tyV (K:UB)(T:String)(x:V)(H:Hp):Prop:=match x with
 | .str _=>T = "str"
 | .int _=>T = "int"
 | .ref p=>(T = "list" /\ ∃ xs,SqL K H p xs)∨(T = "tuple" /\ ∃ o,K.lookup p=some o/\o.cls=.type "tuple" /\ o.dict=none)∨
   (T = "dict" /\ ((∃ kvs,H p=some (.dK kvs))∨∃ kvs,H p=some (.dT kvs)))∨(T = "set" /\ ∃ S n,H p=some (.set S n))
 | _=>False
theorem Pu {pins:List (Addr×Obj)}{σ:St}{H:Hp}{s:UE}{T:String}{x:V}{v:UC}(I:Inv X pins σ H s)(r:RelV x v)(ty:tyV X.K T x H) :
  s.TypeIs v T/\∀ a,v=.ref a->∃ ob,s.heap.get? a=some ob/\ob.dict=none:=by
 cases x with
 | str z=>
  obtain ⟨t,rfl⟩:=r
  cases (show T = "str" from ty)
  exact ⟨zaJ s z t,λ_ e=>nomatch e⟩
 | int i=>
  obtain ⟨t,rfl⟩:=r
  cases (show T = "int" from ty)
  exact ⟨typeIs_int s i t,λ_ e=>nomatch e⟩
 | ref p=>
  cases r
  rcases ty with ⟨rfl,xs,hq⟩ | ⟨rfl,o,hk,hc,hd⟩ | ⟨rfl,hk⟩ | ⟨rfl,S,n,hk⟩
  ·obtain ⟨its,_,pl,_⟩:=I.list hq
   refine ⟨pl.isList.typeIs,λa e=>?_⟩
   cases e
   obtain ⟨o,n,e,c,hd,_⟩:=pl
   exact ⟨o,e,hd⟩
  ·refine ⟨⟨o,I.kIn p o hk,hc⟩,λa e=>?_⟩
   cases e
   exact ⟨o,I.kIn _ o hk,hd⟩
  ·have z:∃ o,s.heap.get? p=some o/\o.ExactDict:=by
    rcases hk with ⟨kvs,hk⟩ | ⟨kvs,hk⟩
    ·obtain ⟨_,_,_,_,o,_,_,e,ex,_⟩:=I.hok p _ hk
     exact ⟨o,e,ex⟩
    ·obtain ⟨_,_,_,_,o,_,_,e,ex,_⟩:=I.hok p _ hk
     exact ⟨o,e,ex⟩
   obtain ⟨o,e,ex⟩:=z
   refine ⟨⟨o,e,ex.1⟩,λa e2=>?_⟩
   cases e2
   exact ⟨o,e,ex.2.1⟩
  ·obtain ⟨o,_,_,_,e,ex,_⟩:=I.hok p _ hk
   refine ⟨⟨o,e,ex.1⟩,λa e2=>?_⟩
   cases e2
   exact ⟨o,e,ex.2.1⟩
 | _=>exact UG ty
def tBM (K:UB)(T:String)(r:V->List V->Hp->VK->Prop)(to:TE)(t:TA):TE:=λσ H Q=>to σ H λx H1=>tyV K T x H1/\t σ H1 λxs H2=>r x xs H2 Q
variable {o e:U5} {es:List U5} {to:TE} {t:TA} {name:Str} {apos cpos:Pos} {T id:String} {r:V->List V->Hp->VK->Prop}
theorem Iz (pa:PlainAttrs T)(slot:Slot T name id)(hty:typeOf (.builtin id)=pure (.type "method_descriptor"))(hm:MtR X id r)(ho:PE X o to)(ha:PA X (e::es) t)
  (hbase:WX o name X.env (VI o X.env)=VI o X.env:=by rfl)
  (hfew:((Vr cpos (UI (e::es) X.env)).all (λx=>!x.1)&&(YN cpos (Xl [] X.env)).all (λx=>x.1.isSome)
   && decide ((e::es).length+([]:List WZ).length+(if ([]:List WZ).isEmpty then 0 else 1) < 30))=true:=by rfl)
  (hline:(apos.endLine == cpos.line)=true:=by rfl) (hs:UI (e::es) X.env=(false,VI e X.env)::UI es X.env:=by rfl) (hplain:(Vr cpos (UI es X.env)).any (·.1)=false:=by rfl) :
  PE X (.Call (.Attribute o name apos) (e::es) [] cpos) (tBM X.K T r to t):=by
 intro pins s σ H Q I h
 refine Zx hbase hfew hline rfl (thn (ho pins s σ H _ I h) λv s1 ⟨x,H1,I1,r1,ty,q1⟩=>?_)
 obtain ⟨h1,h2⟩:=Pu I1 r1 ty
 refine ⟨T,id,pa,slot,hty,h1,h2,?_⟩
 have hA:=ha cpos pins s1 σ H1 _ I1 q1
 rw[hs] at hA ⊢
 refine Zy (by show (false || (Vr cpos (UI es X.env)).any (·.1))=false;rw[hplain]<;>rfl) (Z0 ?_)
 exact thn hA λus s2 ⟨vs,H2,I2,r2,q2⟩=>hm pins s2 σ H2 x vs v us Q I2 r1 r2 q2
end
end L2
namespace L2
open PySem PySem.Spec PyProof.Rows
def MtM (X:Cx)(id:String)(r:V->List V->Hp->VK->Prop):Prop:=
 ∀ (pins:List (Addr×Obj)) (s:UE) (σ:St) (H:Hp) (x:V) (xs:List V) (v:UC) (us:List UC) (Q:VK),Inv X pins σ H s->RelV x v->Vals xs us->r x xs H Q->
  UU (U1 X.prog X.w) X.A (call (.builtin id) (v::us)) (EP X pins σ Q) X.xe s
theorem Vals.one:∀ {x:V} {us:List UC},Vals [x] us->∃ u,us=[u]/\RelV x u
 | _,_,.cons r .nil=>⟨_,rfl,r⟩
theorem Vals.zero:∀ {us:List UC},Vals [] us->us=[]
 | _,.nil=>rfl
section
variable {X:Cx} {pins:List (Addr×Obj)} {σ:St} {H:Hp} {s:UE} {l b:Addr} {xs ys zs:List V}
theorem Inv.Pd {its its':List UC}{n:Nat}{f:Array UC->Array UC}{t':Nat}(I:Inv X pins σ H s)(hH:H l=some (.lst xs))
  (e:s.heap.get? l=some { cls:=.type "list", data:=.seq its.toArray n }) (hf:f its.toArray=its'.toArray) (hv:Vals ys its') (hz:ys.length<=sizeLine) :
  Inv X pins σ (upd H l (.lst ys)) { s with heap:=s.heap.update l (WG f),toks:=t' }:=by
 have q:=PySem.IsL.update e f
 rw[hf] at q
 refine I.write (x:=l) (e:=l) (by rw[hH];exact trivial) (.inl rfl) (λb' u hb hu=>(VC s.heap (WG f) (Vq hb)).trans hu) ⟨_,q⟩ ?_
 exact ⟨hz,its',_,hv,q⟩
theorem Inv.TJ {its:List UC}{t':Nat}(I:Inv X pins σ H s)(hv:Vals ys its)(hz:ys.length<=sizeLine) :
  Inv X pins σ (upd H s.heap.objs.size (.lst ys)) { s with heap:=s.heap.push { cls:=.type "list", data:=.seq its.toArray },toks:=t' }:=
 I.laid (λ_ _ q=>UD _ q) (U0 _) ⟨hz,its,0,hv,UP _ rfl⟩
theorem Inv.fresh (I:Inv X pins σ H s):H s.heap.objs.size=none:=I.hok.fresh (U0 _)
theorem Inv.MD (I:Inv X pins σ H s)(hH:H l=some (.lst xs)):xs.length<=sizeLine/\∃ (its:List UC) (n:Nat),Vals xs its/\xs.length=its.length/\s.heap.get? l=some { cls:=.type "list", data:=.seq its.toArray n }:=by
 obtain ⟨z,its,n,r,e⟩:=I.hok l _ hH
 exact ⟨z,its,n,r,r.length,e⟩
theorem zG {n:Nat}(h:n<=sizeLine):VY n=false:=by
 unfold VY
 exact decide_eq_false (by omega)
end
section
variable {X:Cx}
def MP:V->List V->Hp->VK->Prop:=λx vs H Q=>∃ l xs y,x=.ref l/\vs=[y]/\H l=some (.lst xs)/\xs.length < sizeLine/\Q .non (upd H l (.lst (xs++[y])))
theorem wo:MtM X "list.append" MP:=by
 intro pins s σ H x vs v us Q I rx rv h
 obtain ⟨l,xs,y,rfl,rfl,hH,hz,q⟩:=h
 cases rx
 obtain ⟨u,rfl,ru⟩:=rv.one
 obtain ⟨z,its,n,r,hl,e⟩:=I.MD hH
 refine Zz F.slot_list_append ⟨_,e,rfl⟩ F.entry_list_append (F.args_list_append_2 _ _) (PySem.list_append l its.toArray n u (by rw[UR];omega)) ⟨e,?_⟩
 refine ⟨.non,_,I.Pd (its':=its++[u]) hH e (by simp) (r.append (.cons ru .nil)) ?_,rfl,q⟩
 rw[UY,Xg]
 omega
end
section
variable {prog:UT} {w:Va} {A:U9} {E:UC->UE->Prop} {s:UE}
end
section
variable {X:Cx}
end
end L2
namespace Att
open PySem PySem.W PySem.Calls PyProof.Rows
theorem qA {P:zbg}{h:Heap}:∀ (ns:List Int) (vs:List UC),WellAll P h vs (ns.map WData.int)->zbD vs ns:=by
 intro ns
 induction ns with
 | nil=>
  intro vs w
  rw[Yz] at w
  cases w
  exact .nil
 | cons n ns ih=>
  intro vs w
  rw[Vt] at w
  cases w with
  | cons a b=>
   cases a
   exact .cons _ _ (ih _ b)
theorem Fc {l:OpenLaw}{n:Nat}(hn:l.most=some n){P:zbg}{h:Heap}{args:List WData}{vals:List UC}
  (hpre:l.row.toRowW.claim.pre args=true) (hwl:WellAll P h vals args) :
  ∃ a vs ns,vals=[Vs a]/\args=[WData.list (ns.map WData.int)]/\h.get? a=some { cls:=.type "list", data:=.seq vs.toArray }/\zbD vs ns/\ns.length<=n:=by
 have hsh:WShape.hasAll [] args [.list .int]=true:=(pre_splitW hpre).1
 have hc:l.pre.holds [] { args:=args }=true:=(pre_splitW hpre).2
 obtain ⟨d,r,rfl,h1,h2⟩:=hasAllW_cons hsh
 obtain rfl:=hasAllW_nil h2
 obtain ⟨xs,rfl,h3⟩:=hasW_list h1
 obtain ⟨ns,rfl⟩:=items_int h3
 have hlen:ns.length<=n:=by
  unfold OpenLaw.pre at hc
  have h4:(WTm.not (.lt (.lit (.int (n:Int))) (.len (.arg 0)))).holds [] { args:=[.list (ns.map .int)] }=true:=by
   have h4:=(holds_andW hc).1
   rw[hn] at h4
   exact h4
  have h5:=condW_of h4 (w_not (w_lt w_lit (w_len_list (w_arg rfl))))
  rw[UJ] at h5
  refine Nat.le_of_not_lt λq=>?_
  have q':(n:Int) < ((ns.length:Nat):Int):=by omega
  first
   | (rw[decide_eq_true q'] at h5;exact absurd h5 (by decide))
   | (simp at h5;omega)
 cases hwl with
 | cons w1 w2=>
  cases w2
  cases w1 with
  | list ho hall=>exact ⟨_,_,ns,rfl,rfl,ho,qA ns _ hall,hlen⟩
theorem F4 (l:OpenLaw)(args:List WData):l.row.toRowW.claim.post args (.bool true) args=true:=
 postW_of (r:=l.row.toRowW) (X:=(true == true))
  (show zct [] (.bool true) .bool=true by first | rfl | decide | simp[zct,WShape.arms,WShape.armsAll])
  (show (WTm.eq .res (.lit (.bool true))).value [] { args:=args,res:=some (.bool true),after:=args }=some (.bool (true == true)) from w_eq_bool (w_res rfl) w_lit) rfl
theorem BF {l:OpenLaw}{n:Nat}{q:UT}{loose:List Str}{XP:(Str->Option UC)->Heap->Prop}{YP:Va->Heap->Prop}{d:DefRec}
  (hn:l.most=some n) (hdf:d.params.defaults=[])
  (call:∀ (w:Va) (s₀ s₁:UE) (mg mb:Str->Option UC) (fa:Addr) (o:Obj) (pm cd doc:UC) (a:Addr) (vs:List UC) (ns:List Int),
   Ground q loose [] XP w s₀ mg mb s₁.heap->YP w s₁.heap->
   s₁.heap.get? fa=some o->o.data=.func (docDef d.name d.params d.body d.scope pm cd doc)->s₁.heap.CodeRec cd d.name->mg d.name=some (.ref fa)->
   s₁.heap.get? a=some { cls:=.type "list", data:=.seq vs.toArray }->zbD vs ns->ns.length<=n->s₁.gens = #[]->
   Xh (U1 l.prog w) ZA (.call (.ref fa) ⟨[.ref a],[]⟩) (λr s'=>r=.ok (.ret (.bool true))/\OldK s₁.heap s'.heap/\s'.os=s₁.os/\YZ s'.gens) s₁) :
  WalkO q loose XP YP l.row.toRowW d [] (λf vs=>YO f vs):=by
 intro w s₀ s₁ mg mb G Y fa o pm cd doc dV kV ho hd hcd hD hmg hg args vals as hpre hlay hrd hwl hlo
 obtain rfl:dV=.none:=Dflts.none hD hdf
 obtain rfl:kV=.none:=Dflts.noKw hD
 obtain ⟨a,vs,ns,rfl,rfl,hobj,hints,hlen⟩:=Fc hn hpre hwl
 refine enter_call (Yy (call w s₀ s₁ mg mb fa o pm cd doc a vs ns G Y ho (fd_plain hd) hcd hmg hobj hints hlen hg) λr s' hq=>?_)
 obtain ⟨rfl,h2,h3,h4⟩:=hq
 exact ⟨.inl ⟨.bool true,.bool true,[],rfl,λ_=>rfl,.bool true,F4 l _,λ_=>⟨zcu,λ_ hm=>(nomatch hm)⟩⟩,h2,h3,h4⟩
section
variable {prog:UT} {w:Va} {A:U9} {E:UC->UE->Prop} {s:UE} {K:Frag}
end
end Att
namespace L2
open PySem PySem.Spec PyProof.Rows
theorem vU:∀ {vs:List UC} {ns:List Int},zbD vs ns->Vals (ns.map V.int) vs
 | _,_,.nil=>.nil
 | _,_,.cons n t h=>.cons ⟨t,rfl⟩ (vU h)
def Mx (H:Hp):Prop:=∀ b,H b=none∨∃ o xs,H b=some (.frz o (.lst xs))
theorem GX {P:UT}{w:Va}{K:UB}{mg mb:Str->Option UC}{CX:CXT}{k:Nat}{fa a:Addr}{fd:US}{x:Str}{sp:Sp}{s₁:UE}{vs:List UC}{ns:List Int}
  (KX:K.In s₁.heap) (hns:s₁.heap.Ns VM mg) (hb:s₁.heap.Ns zbF mb) (hbb:∀ x:Str,x ≠ "__name__" -> mb x=Vm x) (hlim:s₁.heap.NoLimit) (hg:s₁.gens = #[])
  (ha:s₁.heap.get? a=some { cls:=.type "list", data:=.seq vs.toArray }) (hi:zbD vs ns) (hl:ns.length<=sizeLine) (hr:gx k ZA)
  (F:∀ base:Heap,K.In base->base.Ns VM mg->jK P w K mg base CX k fa fd [x] sp) (hbind:∀ (s:UE) (u:UC),zaS s fd ⟨[u],[]⟩ [(x,u)])
  (hsp:∀ H:Hp,Mx H->SqL K H a (ns.map V.int)->sp [.ref a] H (λv _=>v=.bl true) λ_ _ _=>False)
  (hCX:∀ H e s',CX [] H s₁ (λ_ _ _=>False) e s'->False) :
  Xh (U1 P w) ZA (.call (.ref fa) ⟨[.ref a],[]⟩) (λr s'=>r=.ok (.ret (.bool true))/\OldK s₁.heap s'.heap/\s'.os=s₁.os/\YZ s'.gens) s₁:=by
 have rv:=vU hi
 have TY:=hi.length
 -- from an abstract heap in which nothing but the script may be tracked
 have core:∀ H:Hp,Mx H->SqL K H a (ns.map V.int)->HOk P w H s₁.heap->(∀ b,H b≠none->b=a)->(H a≠none->K.lookup a=none)->
   Xh (U1 P w) ZA (.call (.ref fa) ⟨[.ref a],[]⟩) (λr s'=>r=.ok (.ret (.bool true))/\OldK s₁.heap s'.heap/\s'.os=s₁.os/\YZ s'.gens) s₁:=by
  intro H hO hS hok hA hK
  have base_of:∀ {b:Addr} {o:Obj},s₁.heap.get? b=some o->H b=none->(yd s₁.heap H).get? b=some o:=λe n=>JT e n
  have noA:∀ {b:Addr} {o:Obj} {es:Array WC} {ep:Nat},s₁.heap.get? b=some o->o.data=.dict es ep->H b=none:=λ{b o es ep} e d=>by
   cases q:H b with
   | none=>rfl
   | some u=>
    have e':b=a:=hA b (by rw[q];simp)
    subst e'
    rw[ha] at e;cases e
    have d':Data.seq vs.toArray _=Data.dict es ep:=d
    cases d'
  have nsK:∀ {b:Addr} {m:Str->Option UC},s₁.heap.Ns b m->(yd s₁.heap H).Ns b m:=λ{b m} ⟨o,es,ep,e,d,r⟩=>⟨o,es,ep,base_of e (noA e d),d,r⟩
  have hKb:K.In (yd s₁.heap H):=λb o e=>base_of (KX b o e) (by
   cases q:H b with
   | none=>rfl
   | some u=>
    have e':b=a:=hA b (by rw[q];simp)
    subst e'
    rw[hK (by rw[q];simp)] at e;cases e)
  have hM:Mod K mg (yd s₁.heap H):=⟨hKb,nsK hns,⟨mb,nsK hb,hbb⟩,let ⟨mc,h1,h2⟩:=hlim;⟨mc,nsK h1,h2⟩⟩
  have e0:MH P w K mg (yd s₁.heap H) ZA [] s₁ H:=⟨rfl,hM,λb o e=>L5 e,Nat.le_of_eq (Gd _ _),trivial,λb hb=>absurd (show b∈([]:List Addr) from hb) (by simp),hok,.of_eq hg⟩
  refine Yy ((F _ hKb (nsK hns)).run ZA [] s₁ H ⟨[.ref a],[]⟩ [.ref a] [.ref a] _ _ hr e0 (hbind s₁ (.ref a)) (.cons rfl .nil) (hsp H hO hS)) λr s' h=>?_
  cases r with
  | error e=>exact (hCX H e s' h).elim
  | ok fl=>
   cases fl with
   | next=>exact UG h
   | brk=>exact UG h
   | cont=>exact UG h
   | ret u=>
    obtain ⟨v,H',os,bare,un,hok',r',q⟩:=h
    have q':v=.bl true:=q
    subst q'
    obtain rfl:u=Zn true:=r'
    refine ⟨rfl,OldK.of_keep λb o e=>?_,os,bare⟩
    cases q:H b with
    | none=>exact un.keep b o e q (by intro z;exact absurd (show b∈([]:List Addr) from z) (by simp)) (by simp)
    | some u=>
     rcases hO b with z | ⟨ob,xs,z⟩
     ·rw[q] at z;cases z
     ·have z2:=un.ou b ob _ z
      obtain ⟨e1,_⟩:=hok b _ z
      obtain ⟨e2,_⟩:=hok' b _ z2
      rw[e] at e1;cases e1
      exact e2
 cases hk:K.lookup a with
 | some o=>
  -- the script is one of the module's own objects
  have e:=KX a o hk
  rw[ha] at e
  cases e
  refine core (λ_=>none) (λ_=>.inl rfl) (.inr ⟨_,vs.toArray,_,hk,rfl,rfl,rfl,by rw[UR,TY];exact hl,by simpa using rv⟩) (λb u z=>by have z':(none:Option HO)=some u:=z;cases z') (λb z=>absurd rfl z) λz=>absurd rfl z
 | none=>
  refine core (λb=>if b=a then some (.frz { cls:=.type "list", data:=.seq vs.toArray } (.lst (ns.map V.int))) else none) (λb=>?_) (.inl (.inr ⟨{ cls:=.type "list", data:=.seq vs.toArray },if_pos rfl⟩)) (λb u z=>?_) (λb z=>?_) λ_=>hk
  ·by_cases hb:b=a
   ·exact .inr ⟨_,_,if_pos hb⟩
   ·exact .inl (if_neg hb)
  ·by_cases hb:b=a
   ·have z':=(if_pos hb).symm.trans z
    cases z'
    subst hb
    exact ⟨ha,by rw[UJ];exact hl,vs,_,rv,ha⟩
   ·have z':=(if_neg hb).symm.trans z
    cases z'
  ·by_cases hb:b=a
   ·exact hb
   ·exact absurd (if_neg hb) z
end L2
namespace L2
open PySem PySem.Spec PyProof.Rows
theorem Ms {l:ZJ}{n k:Nat}{q:UT}{loose:List Str}{XP:(Str->Option UC)->Heap->Prop}{YP:Va->Heap->Prop}{d:DefRec}{K:zbg->UB}{CX:Va->CXT}{sp:Va->Sp}{x:Str}
  (hn:l.most=some n) (hn2:n<=sizeLine) (hdf:d.params.defaults=[]) (hr:gx k ZA)
  (hY:∀ (w:Va) (h:Heap),YP w h->(K w.params).In h)
  (F:∀ (w:Va) (mg:Str->Option UC) (fa:Addr) (h:Heap),(K w.params).In h->h.Ns VM mg->mg d.name=some (.ref fa)->
   ∃ fd:US,(∀ (s:UE) (u:UC),zaS s fd ⟨[u],[]⟩ [(x,u)])/\
    ∀ base:Heap,(K w.params).In base->base.Ns VM mg->jK l.prog w (K w.params) mg base (CX w) k fa fd [x] (sp w))
  (hsp:∀ (w:Va) (H:Hp) (a:Addr) (ns:List Int),ns.length<=n->Mx H->SqL (K w.params) H a (ns.map V.int)->sp w [.ref a] H (λv _=>v=.bl true) λ_ _ _=>False)
  (hCX:∀ (w:Va) (H:Hp) (s:UE) (e:UC) (s':UE),CX w [] H s (λ_ _ _=>False) e s'->False) :
  zb2 q loose XP YP l.row.toRowW d [] (λf vs=>YO f vs):=by
 refine Att.BF hn hdf λw s₀ s₁ mg mb fa o pm cd doc a vs ns G Y ho hd hcd hmg hobj hints hlen hg=>?_
 have KX:=hY w _ Y
 obtain ⟨fd,hb,hF⟩:=F w mg fa _ KX G.T.g hmg
 exact GX KX G.T.g G.T.b G.T.builtins G.T.nolimit hg hobj hints (Vy hlen hn2) hr hF hb (λH hO hS=>hsp w H a ns hlen hO hS) λH e s'=>hCX w H s₁ e s'
end L2
namespace L2
open PySem PySem.Spec PyProof.Rows
def nj (s:Stmt):Arguments:=match s with
 | .FunctionDef _ a _ _ _ _ _ _ _ _=>a
 | _=>{ posonlyargs:=[],args:=[],vararg:=none,kwonlyargs:=[],kw_defaults:=[],kwarg:=none,defaults:=[] }
def gA (s:Stmt):List Stmt:=match s with
 | .FunctionDef _ _ b _ _ _ _ _ _ _=>b
 | _=>[]
def aw (s:Stmt):Scope:=match s with
 | .FunctionDef _ _ _ _ _ _ sc _ _ _=>sc
 | _=>{ kind:=.function,names:=[],isGenerator:=false,isCoroutine:=false }
abbrev CX0:CXT:=λ_ _ _ _ _ _=>False
abbrev E0:XK:=λ_ _ _=>False
theorem S3 {X:Cx}:Passes CX0 X E0:=λ_ _ _ _ _ _ _ h=>h.elim
structure Fun (K:UB) (x qual:Str) (st:Stmt) (f:Addr) (fd:US):Prop where
 ex:∃ (oc:UC) (od:Option Addr) (kV doc pm:UC) (an:Option Addr) (cdv ct:UC) (osl:Array (Option UC)),
  fd=Xo x qual (nj st) (gA st) (aw st) .none kV doc pm an cdv ct/\K.lookup f=some ⟨oc,od,.func fd,osl⟩/\ZZ K cdv qual=true
 kp:XR K (.ref f)=true
section
variable {P:UT} {w:Va} {K:UB} {mg:Str->Option UC} {base:Heap}
theorem Fun.ok {x qual:Str}{st:Stmt}{f:Addr}{fd:US}{N ps:List Str}{k:Nat}{sp:Sp}(F:Fun K x qual st f fd)(S:aE N ps (aw st))(len:∀ vs H Q E,sp vs H Q E->vs.length=ps.length)
  (hbody:∀ (cdv:UC) (A:U9) (outer:List Env) (s:UE) (H:Hp) (vs:List V) (Q:VK) (E:XK),gx k (A.deeper (YK qual (aw st) s.heap.objs.size f cdv))->sp vs H Q E->
   ∃ t,PSs (BM CX0 P w K mg base N qual (aw st) f cdv A outer s H E).nox (gA st) t/\t { nx:=λ_ H'=>Q .non H',rt:=Q } (start N vs) H):jK P w K mg base CX0 (k+1) f fd ps sp:=by
 obtain ⟨oc,od,kV,doc,pm,an,cdv,ct,osl,rfl,lk,hcd⟩:=F.ex
 refine Tg lk hcd S len λA outer s H vs Q E hr hsp=>?_
 obtain ⟨t,h,q⟩:=hbody cdv A outer s H vs Q E hr hsp
 exact ⟨t,h.nox,q⟩
theorem Fun.binds {x qual:Str}{st:Stmt}{f:Addr}{fd:US}{ps:List Str}(F:Fun K x qual st f fd)
  (h:∀ (kV doc pm:UC) (an:Option Addr) (cdv ct:UC) (us:List UC),us.length=ps.length->bindArgs (Xo x qual (nj st) (gA st) (aw st) .none kV doc pm an cdv ct) ⟨us,[]⟩=pure (ps.zip us)):Binds K fd ps []:=by
 obtain ⟨oc,od,kV,doc,pm,an,cdv,ct,osl,rfl,lk,hcd⟩:=F.ex
 exact .all (h kV doc pm an cdv ct)
theorem aT {x qual:Str}{st:Stmt}{f:Addr}{oc:UC}{od an:Option Addr}{osl:Array (Option UC)}{kV doc pm cdv ct:UC}(l:K.lookup f=some ⟨oc,od,.func (Xo x qual (nj st) (gA st) (aw st) .none kV doc pm an cdv ct),osl⟩)
  (c:ZZ K cdv qual=true) (k:XR K (.ref f)=true):Fun K x qual st f (Xo x qual (nj st) (gA st) (aw st) .none kV doc pm an cdv ct):=⟨⟨oc,od,kV,doc,pm,an,cdv,ct,osl,rfl,l,c⟩,k⟩
end
section
variable {X:Cx}
theorem pv (i:Nat){x:Str}{pos:Pos}(hN:X.N[i]? = some x:=by rfl)(hv:Vis X.env.scope x:=by first | exact ZC rfl | exact YQ (ZC rfl) | exact YQ (YQ rfl))(hd:(x == ("__debug__" : Str))=false:=by decide)
  (hcd:(x == ("__classdict__" : Str))=false:=by decide):PE X (.Name x pos) (RP i):=IQ hN hv hd hcd
end
theorem vp {A B:Prop}(h:B):if false=true then A else B:=by
 rw[if_neg YJ]
 exact h
theorem u9 {A B:Prop}(h:A):if true=true then A else B:=by
 rw[if_pos rfl]
 exact h
def zv (H H':Hp):Prop:=∀ b o,H b=some o->H' b=some o
theorem zv.trans {H H1 H2:Hp}(a:zv H H1)(b:zv H1 H2):zv H H2:=λc o h=>b c o (a c o h)
theorem zv.free {H H':Hp}(e:zv H H'){l:Addr}(h:H' l=zcn):H l=zcn:=by
 cases q:H l with
 | none=>rfl
 | some o=>
  rw[e l o q] at h
  cases h
theorem zv.seq {K:UB}{H H':Hp}{a:Addr}{xs:List V}(e:zv H H')(h:SqL K H a xs):SqL K H' a xs:=by
 rcases h with (h | ⟨o,h⟩) | h
 ·exact .inl (.inl (e _ _ h))
 ·exact .inl (.inr ⟨o,e _ _ h⟩)
 ·exact .inr h
end L2
namespace L2
open PySem PySem.Spec PyProof.Rows
section
variable {κ:Type} [DecidableEq κ]
def r6 (kvs:List (κ×V))(k:κ):Option V:=(kvs.find? λkv=>decide (kv.1=k)).map (·.2)
def putK (kvs:List (κ×V))(k:κ)(v:V):List (κ×V):=
 if (kvs.any λkv=>decide (kv.1=k))=true then kvs.map (λkv=>if kv.1=k then (kv.1,v) else kv) else kvs++[(k,v)]
def NJ (kvs:List (κ×V))(k:κ):List (κ×V):=kvs.filter λkv=>decide (kv.1≠k)
theorem BG {p:κ×V}{r:List (κ×V)}{k:κ}(e:p.1=k):r6 (p::r) k=some p.2:=by simp[r6,Vp,e]
theorem AU {p:κ×V}{r:List (κ×V)}{k:κ}(e:¬ p.1=k):r6 (p::r) k=r6 r k:=by simp[r6,Vp,e]
theorem Gg.getD {o:Option V}{u:Option UC}{d:V}{d':UC}(r:Gg o u)(rd:RelV d d'):RelV (o.getD d) (u.getD d'):=by
 cases o with
 | none=>cases u with
  | none=>exact rd
  | some _=>exact (show False from r).elim
 | some _=>cases u with
  | none=>exact (show False from r).elim
  | some _=>exact r
theorem KV.val {kvs:List (κ×V)}{vs:List (κ×UC)}(r:KV kvs vs)(k:κ):Gg (r6 kvs k) (zaW vs k):=by
 unfold KV at r
 induction r with
 | nil=>exact Xy
 | @cons p q ps qs h t ih=>
  obtain ⟨h1,h2⟩:=h
  by_cases e:p.1=k
  ·have e':q.1=k:=h1.symm.trans e
   have b:zaW (q::qs) k=some q.2:=by simp[zaW,Vp,e']
   rw[BG e,b];exact h2
  ·have e':¬ q.1=k:=λz=>e (h1.trans z)
   have b:zaW (q::qs) k=zaW qs k:=by simp[zaW,Vp,e']
   rw[AU e,b];exact ih
theorem KV.any {kvs:List (κ×V)}{vs:List (κ×UC)}(r:KV kvs vs)(k:κ):(kvs.any λkv=>decide (kv.1=k))=vs.any λkv=>decide (kv.1=k):=by
 unfold KV at r
 induction r with
 | nil=>rfl
 | cons h t ih=>rw[Yd,Yd,ih,h.1]
theorem KV.drop {kvs:List (κ×V)}{vs:List (κ×UC)}(r:KV kvs vs)(k:κ):KV (NJ kvs k) (without vs k):=by
 unfold KV at r ⊢
 unfold NJ without
 induction r with
 | nil=>exact .nil
 | @cons p q ps qs h t ih=>
  obtain ⟨h1,h2⟩:=h
  rw[zbh,zbh]
  by_cases e:p.1=k
  ·have a:¬ decide (p.1≠k)=true:=by simp[e]
   have b:¬ decide (q.1≠k)=true:=by simp[h1.symm.trans e]
   rw[if_neg a,if_neg b];exact ih
  ·have e':¬ q.1=k:=λz=>e (h1.trans z)
   have a:decide (p.1≠k)=true:=by simp[e]
   have b:decide (q.1≠k)=true:=by simp[e']
   rw[if_pos a,if_pos b];exact .cons ⟨h1,h2⟩ ih
theorem KV.length {kvs:List (κ×V)}{vs:List (κ×UC)}(r:KV kvs vs):kvs.length=vs.length:=zb1 r
end
theorem NQ {P:UT}{w:Va}{k:Key}{u:UC}(r:RelV (kV k) u):(eV P w).is k u=true:=by
 cases k with
 | inl i=>obtain ⟨t,e⟩:=(show ∃ t,u=zad i t from r);subst e;exact zZ P w i t
 | inr x=>obtain ⟨t,e⟩:=(show ∃ t,u=XB x t from r);subst e;exact Bc P w x t
theorem vW {P:UT}{w:Va}:∀ {ks:List Key} {us:List UC},Vals (ks.map kV) us->zbM (eV P w) ks us
 | [],_,r=>by rw[Yz] at r;cases r;exact .nil
 | k::ks,_,r=>by
  rw[Vt] at r
  cases r with
  | cons h t=>exact .cons (NQ h) (vW t)
abbrev KT (H:Hp):List (List Key×V)->List (List Key×Addr×UC)->Prop:=Zq λp q=>p.1=q.1/\H q.2.1=some (.tup (p.1.map kV))/\RelV p.2 q.2.2
theorem KT.val {H:Hp}{kvs:List (List Key×V)}{xs:List (List Key×Addr×UC)}(r:KT H kvs xs)(k:List Key):Gg (r6 kvs k) ((atKey xs k).map (·.2)):=by
 induction r with
 | nil=>exact Xy
 | @cons p q ps qs h t ih=>
  obtain ⟨h1,_,h2⟩:=h
  by_cases e:p.1=k
  ·have e':q.1=k:=h1.symm.trans e
   have b:atKey (q::qs) k=some q.2:=by simp[atKey,Vp,e']
   rw[BG e,b];exact h2
  ·have e':¬ q.1=k:=λz=>e (h1.trans z)
   have b:atKey (q::qs) k=atKey qs k:=by simp[atKey,Vp,e']
   rw[AU e,b];exact ih
theorem KT.keeps {H H':Hp}{kvs:List (List Key×V)}{xs:List (List Key×Addr×UC)}(r:KT H kvs xs)(ht:∀ b ys,H b=some (.tup ys)->H' b=some (.tup ys)):KT H' kvs xs:=
 Zq.OZ r λ_ _ z=>⟨z.1,ht _ _ z.2.1,z.2.2⟩
section
variable {P:UT} {w:Va} {H:Hp} {h:Heap} {a:Addr}
end
def K3 (H:Hp)(a:Addr)(y:V)(r:Option V):Prop:=
 (∃ kvs k,Rd H a (.dK kvs)/\y=kV k/\r=r6 kvs k)∨∃ kvs k b,Rd H a (.dT kvs)/\y=.ref b/\H b=some (.tup (k.map kV))/\r=r6 kvs k
def L1 (H:Hp)(a:Addr)(y v:V)(H':Hp):Prop:=
 (∃ kvs k,H a=some (.dK kvs)/\y=kV k/\kvs.length < sizeLine/\H'=upd H a (.dK (putK kvs k v)))∨
 ∃ kvs k b,H a=some (.dT kvs)/\y=.ref b/\H b=some (.tup (k.map kV))/\kvs.length < sizeLine/\H'=upd H a (.dT (putK kvs k v))
theorem K3.k {H:Hp}{a:Addr}{kvs:List (Key×V)}{k:Key}(e:H a=some (.dK kvs)):K3 H a (kV k) (r6 kvs k):=.inl ⟨kvs,k,.inl e,rfl,rfl⟩
theorem K3.t {H:Hp}{a b:Addr}{kvs:List (List Key×V)}{k:List Key}(e:H a=some (.dT kvs))(eb:H b=some (.tup (k.map kV))):K3 H a (.ref b) (r6 kvs k):=.inr ⟨kvs,k,b,.inl e,rfl,eb,rfl⟩
theorem L1.k {H:Hp}{a:Addr}{kvs:List (Key×V)}{k:Key}{v:V}(e:H a=some (.dK kvs))(hl:kvs.length < sizeLine):L1 H a (kV k) v (upd H a (.dK (putK kvs k v))):=.inl ⟨kvs,k,e,rfl,hl,rfl⟩
theorem L1.t {H:Hp}{a b:Addr}{kvs:List (List Key×V)}{k:List Key}{v:V}(e:H a=some (.dT kvs))(eb:H b=some (.tup (k.map kV)))(hl:kvs.length < sizeLine) :
  L1 H a (.ref b) v (upd H a (.dT (putK kvs k v))):=.inr ⟨kvs,k,b,e,rfl,eb,hl,rfl⟩
section
variable {X:Cx} {pins:List (Addr×Obj)} {σ:St} {H:Hp} {s:UE} {a:Addr} {y v:V} {u r:UC} {o:Option V} {A:U9} {E:UC->UE->Prop}
end
section
variable {X:Cx} {pins:List (Addr×Obj)} {σ:St} {H:Hp} {s:UE} {a:Addr} {kvs:List (Key×V)} {k:Key} {u:UC} {A:U9} {E:UC->UE->Prop}
end
section
variable {X:Cx} {o i e value:U5} {pos pos' tpos:Pos} {td ty tv:TE}
end
section
variable {X:Cx} {pos:Pos}
end
section
variable {X:Cx} {pins:List (Addr×Obj)} {σ:St} {H:Hp} {s:UE} {a:Addr} {y d:V} {u r:UC} {o:Option V} {A:U9} {E:UC->UE->Prop}
end
section
variable {X:Cx} {o e f:U5} {apos cpos:Pos} {td ty tx:TE}
end
section
variable {X:Cx} {pins:List (Addr×Obj)} {σ:St} {H:Hp} {s:UE} {a:Addr} {kvs:List (Key×V)} {A:U9} {E:UC->UE->Prop}
end
section
variable {X:Cx} {pins:List (Addr×Obj)} {σ:St} {H:Hp} {s:UE} {a:Addr} {y:V} {u:UC} {A:U9} {E:UC->UE->Prop}
end
end L2
namespace L3
open PySem
local macro_rules | `(tactic| walk_at "ln")=>`(tactic| (intro ds μ Q h;split at h;rfl;exact h.elim))
theorem Jn {p q:Prop}(a:p)(b:q):p/\q:=⟨a,b⟩
inductive D where
 | non | bl (b:Bool) | int (i:Int) | str (x:Str) | ty (n:String) | tup (ds:List D) | ls (ds:List D) | obj (a:Addr)
inductive MO where
 | lst (ds:List D)
 | dct (kvs:List (L2.Key×D))
 | dcT (kvs:List (List L2.Key×D))
 | dcF (kvs:List (L2.Key×D))
abbrev Mu:=Addr->Option MO
def up (μ:Mu)(a:Addr)(o:MO):Mu:=λb=>if b=a then some o else μ b
theorem bh {μ:Mu}{a:Addr}{o:MO}:up μ a o a=some o:=by unfold up;rw[if_pos rfl]
theorem bQ {μ:Mu}{a b:Addr}{o:MO}(h:b≠a):up μ a o b=μ b:=by unfold up;rw[if_neg h]
theorem lF {μ:Mu}{a:Addr}{o u:MO}:up (up μ a o) a u=up μ a u:=by
 funext b;unfold up;split<;>rfl
abbrev ST:=List (Option D)
abbrev DK:=D->Mu->Prop
abbrev ETr:=ST->Mu->DK->Prop
abbrev TTr:=ST->Mu->(Bool->Mu->Prop)->Prop
abbrev ATr:=ST->Mu->(List D->Mu->Prop)->Prop
abbrev DR:=D->Mu->DK->Prop
abbrev DR2:=D->D->Mu->DK->Prop
abbrev FSp:=List D->Mu->DK->Prop
def kcI (ds:List D)(f:Int->List D->Prop):Prop:=match ds with
 | .int i::r=>f i r
 | _=>False
theorem ecI {ds:List D}{f:Int->List D->Prop}(h:kcI ds f):∃ i r,ds=.int i::r/\f i r:=by
 cases ds with
 | nil=>exact UG h
 | cons d r=>cases d<;>first | exact ⟨_,_,rfl,h⟩ | exact UG h
theorem lcI {ds:List D}{f:Int->List D->Prop}{n:Nat}(h:kcI ds f)(k:∀ i r,f i r->r.length=n):ds.length=n+1:=by
 obtain ⟨i,r,e,h⟩:=ecI h
 rw[e,UX,k i r h]
def kcS (ds:List D)(f:Str->List D->Prop):Prop:=match ds with
 | .str i::r=>f i r
 | _=>False
theorem ecS {ds:List D}{f:Str->List D->Prop}(h:kcS ds f):∃ i r,ds=.str i::r/\f i r:=by
 cases ds with
 | nil=>exact UG h
 | cons d r=>cases d<;>first | exact ⟨_,_,rfl,h⟩ | exact UG h
theorem lcS {ds:List D}{f:Str->List D->Prop}{n:Nat}(h:kcS ds f)(k:∀ i r,f i r->r.length=n):ds.length=n+1:=by
 obtain ⟨i,r,e,h⟩:=ecS h
 rw[e,UX,k i r h]
def kcT (ds:List D)(f:List D->List D->Prop):Prop:=match ds with
 | .tup i::r=>f i r
 | _=>False
theorem ecT {ds:List D}{f:List D->List D->Prop}(h:kcT ds f):∃ i r,ds=.tup i::r/\f i r:=by
 cases ds with
 | nil=>exact UG h
 | cons d r=>cases d<;>first | exact ⟨_,_,rfl,h⟩ | exact UG h
theorem lcT {ds:List D}{f:List D->List D->Prop}{n:Nat}(h:kcT ds f)(k:∀ i r,f i r->r.length=n):ds.length=n+1:=by
 obtain ⟨i,r,e,h⟩:=ecT h
 rw[e,UX,k i r h]
def kcL (ds:List D)(f:List D->List D->Prop):Prop:=match ds with
 | .ls i::r=>f i r
 | _=>False
theorem ecL {ds:List D}{f:List D->List D->Prop}(h:kcL ds f):∃ i r,ds=.ls i::r/\f i r:=by
 cases ds with
 | nil=>exact UG h
 | cons d r=>cases d<;>first | exact ⟨_,_,rfl,h⟩ | exact UG h
theorem lcL {ds:List D}{f:List D->List D->Prop}{n:Nat}(h:kcL ds f)(k:∀ i r,f i r->r.length=n):ds.length=n+1:=by
 obtain ⟨i,r,e,h⟩:=ecL h
 rw[e,UX,k i r h]
def kcO (ds:List D)(f:Addr->List D->Prop):Prop:=match ds with
 | .obj i::r=>f i r
 | _=>False
theorem ecO {ds:List D}{f:Addr->List D->Prop}(h:kcO ds f):∃ i r,ds=.obj i::r/\f i r:=by
 cases ds with
 | nil=>exact UG h
 | cons d r=>cases d<;>first | exact ⟨_,_,rfl,h⟩ | exact UG h
theorem lcO {ds:List D}{f:Addr->List D->Prop}{n:Nat}(h:kcO ds f)(k:∀ i r,f i r->r.length=n):ds.length=n+1:=by
 obtain ⟨i,r,e,h⟩:=ecO h
 rw[e,UX,k i r h]
def kcA (ds:List D)(f:D->List D->Prop):Prop:=match ds with
 | i::r=>f i r
 | _=>False
theorem ecA {ds:List D}{f:D->List D->Prop}(h:kcA ds f):∃ i r,ds=i::r/\f i r:=by
 cases ds with
 | nil=>exact UG h
 | cons d r=>exact ⟨_,_,rfl,h⟩
theorem lcA {ds:List D}{f:D->List D->Prop}{n:Nat}(h:kcA ds f)(k:∀ i r,f i r->r.length=n):ds.length=n+1:=by
 obtain ⟨i,r,e,h⟩:=ecA h
 rw[e,UX,k i r h]
def kcN (ds:List D)(P:Prop):Prop:=match ds with
 | []=>P
 | _=>False
theorem ecN {ds:List D}{P:Prop}(h:kcN ds P):ds=[]/\P:=by
 cases ds with
 | nil=>exact ⟨rfl,h⟩
 | cons d r=>exact UG h
structure En where
 nx:ST->Mu->Prop
 rt:DK
 bk:ST->Mu->Prop:=λ_ _=>False
 ct:ST->Mu->Prop:=λ_ _=>False
abbrev STr:=En->ST->Mu->Prop
abbrev GTr:=D->ST->Mu->(ST->Mu->Prop)->Prop
def kIf (c:Bool)(A B:Prop):Prop:=match c with
 | true=>A
 | false=>B
def kB (x:D)(f:Bool->Prop):Prop:=match x with
 | .bl c=>f c
 | _=>False
def kI (x:D)(f:Int->Prop):Prop:=match x with
 | .int c=>f c
 | _=>False
def kO (x:Option D)(f:D->Prop):Prop:=match x with
 | some d=>f d
 | none=>False
def kS (x:D)(f:List D->Prop):Prop:=match x with
 | .tup ds=>f ds
 | .ls ds=>f ds
 | _=>False
def k2 (ds:List D)(f:D->D->Prop):Prop:=match ds with
 | [v,w]=>f v w
 | _=>False
def kL (μ:Mu)(a:Addr)(f:List D->Prop):Prop:=match μ a with
 | some (.lst ds)=>f ds
 | _=>False
def kN (x:Option Nat)(f:Nat->Prop):Prop:=match x with
 | some d=>f d
 | none=>False
def lk:ST->Nat->Option D
 | [],_=>none
 | o::_,0=>o
 | _::r,n+1=>lk r n
def ah (i:Nat):ETr:=λρ μ Q=>kO (lk ρ i) λd=>Q d μ
def TC (d:D):ETr:=λ_ μ Q=>Q d μ
def aq (r:DR2)(a b:ETr):ETr:=λρ μ Q=>a ρ μ λx μ1=>b ρ μ1 λy μ2=>r x y μ2 Q
def TUn (r:DR)(a:ETr):ETr:=λρ μ Q=>a ρ μ λx μ1=>r x μ1 Q
def S64 (i:Int):Prop:=-18446744073709551616 < i/\i < 18446744073709551616
def bE (i:Int):Prop:=-115792089237316195423570985008687907853269984665640564039457584007913129639936 < i/\i < 115792089237316195423570985008687907853269984665640564039457584007913129639936
def MulOk (i j:Int):Prop:=(S64 i∨S64 j)∨(bE i/\bE j)
def jW (j:Int):Prop:=j≠0/\bE j
def sP (i j:Int):Prop:=0<=j/\j<=1000000/\i.natAbs < 18446744073709551616
def Bw:DR2:=λx y μ Q=>match x,y with
 | .int i,.int j=>Q (.int (i - j)) μ
 | _,_=>False
def iN:DR2:=λx y μ Q=>match x,y with
 | .int i,.int j=>MulOk i j/\Q (.int (i*j)) μ
 | _,_=>False
def kW:DR2:=λx y μ Q=>match x,y with
 | .int i,.int j=>jW j/\Q (.int (i.fdiv j)) μ
 | _,_=>False
def jk:DR2:=λx y μ Q=>match x,y with
 | .int i,.int j=>j≠0/\Q (.int (i.fmod j)) μ
 | _,_=>False
def Cw:DR2:=λx y μ Q=>match x,y with
 | .int i,.int j=>sP i j/\Q (.int (i ^ j.toNat)) μ
 | _,_=>False
def TU:DR:=λx μ Q=>match x with
 | .int i=>Q (.int (-i)) μ
 | _=>False
def GF (p:Int->Int->Bool):DR2:=λx y μ Q=>match x,y with
 | .int i,.int j=>Q (.bl (p i j)) μ
 | _,_=>False
def rLt:DR2:=GF λi j=>decide (i < j)
def rLe:DR2:=GF λi j=>decide (i<=j)
def rGt:DR2:=GF λi j=>decide (j < i)
def rGe:DR2:=GF λi j=>decide (j<=i)
mutual
def eqD:D->D->Bool
 | .non,.non=>true
 | .bl a,.bl b=>a == b
 | .int a,.int b=>decide (a=b)
 | .bl a,.int b=>decide ((if a then 1 else 0:Int)=b)
 | .int a,.bl b=>decide (a=(if b then 1 else 0:Int))
 | .str a,.str b=>decide (a=b)
 | .tup a,.tup b=>hX a b
 | .ls a,.ls b=>hX a b
 | _,_=>false
def hX:List D->List D->Bool
 | [],[]=>true
 | a::r,b::s=>eqD a b&&hX r s
 | _,_=>false
end
mutual
def okD:Nat->D->Bool
 | _,.non=>true
 | _,.bl _=>true
 | _,.int _=>true
 | _,.str x=>UL x
 | n+1,.tup ds=>ck n ds
 | n+1,.ls ds=>ck n ds
 | _,_=>false
def ck:Nat->List D->Bool
 | _,[]=>true
 | n,d::ds=>okD n d&&ck n ds
end
def rEq:DR2:=λx y μ Q=>(okD 40 x=true/\okD 40 y=true)/\Q (.bl (eqD x y)) μ
def rNe:DR2:=λx y μ Q=>(okD 40 x=true/\okD 40 y=true)/\Q (.bl (!eqD x y)) μ
def rIs:DR2:=λx y μ Q=>match y with
 | .non=>(match x with
  | .non=>Q (.bl true) μ
  | _=>Q (.bl false) μ)
 | _=>False
def iR:DR2:=λx y μ Q=>match y with
 | .non=>(match x with
  | .non=>Q (.bl false) μ
  | _=>Q (.bl true) μ)
 | _=>False
def dD (a b:ETr):ETr:=λρ μ Q=>a ρ μ λx μ1=>kB x λc=>kIf c (b ρ μ1 Q) (Q (.bl false) μ1)
def Am (a b:ETr):ETr:=λρ μ Q=>a ρ μ λx μ1=>kB x λc=>kIf c (Q (.bl true) μ1) (b ρ μ1 Q)
def mS (a:ETr):ETr:=λρ μ Q=>a ρ μ λx μ1=>kB x λc=>Q (.bl (!c)) μ1
def TB (t:ETr):TTr:=λρ μ Q=>t ρ μ λx μ1=>kB x λc=>Q c μ1
def xw (t u:TTr):TTr:=λρ μ Q=>t ρ μ λc μ1=>kIf c (u ρ μ1 Q) (Q false μ1)
def TOr (t u:TTr):TTr:=λρ μ Q=>t ρ μ λc μ1=>kIf c (Q true μ1) (u ρ μ1 Q)
def bL (t:TTr):TTr:=λρ μ Q=>t ρ μ λc μ1=>Q (!c) μ1
def oo (c:TTr)(a b:ETr):ETr:=λρ μ Q=>c ρ μ λk μ1=>kIf k (a ρ μ1 Q) (b ρ μ1 Q)
def gu (r r':DR2)(a b c:ETr):ETr:=λρ μ Q=>a ρ μ λx μ1=>b ρ μ1 λy μ2=>r x y μ2 λz μ3=>kB z λk=>kIf k (c ρ μ3 λy' μ4=>r' y y' μ4 Q) (Q (.bl false) μ3)
def ar:ATr:=λ_ μ Q=>Q [] μ
def af (a:ETr)(r:ATr):ATr:=λρ μ Q=>a ρ μ λx μ1=>r ρ μ1 λxs μ2=>Q (x::xs) μ2
def bw (t:ATr):ETr:=λρ μ Q=>t ρ μ λds μ1=>ds.length<=1000000/\Q (.tup ds) μ1
def fb (t:ATr):ETr:=λρ μ Q=>t ρ μ λds μ1=>ds.length<=1000000/\Q (.ls ds) μ1
def mh (t:ATr):ETr:=λρ μ Q=>t ρ μ λds μ1=>ds.length<=1000000/\∀ p,μ1 p=none->Q (.obj p) (up μ1 p (.lst ds))
def ao (sp:FSp)(t:ATr):ETr:=λρ μ Q=>t ρ μ λds μ1=>sp ds μ1 Q
def atD (ds:List D)(i:Int):Option D:=L2.atI ds i
def rIx:DR2:=λx y μ Q=>match x,y with
 | .tup ds,.int i=>kO (atD ds i) λd=>Q d μ
 | .ls ds,.int i=>kO (atD ds i) λd=>Q d μ
 | .obj a,.int i=>kL μ a λds=>kO (atD ds i) λd=>Q d μ
 | _,_=>False
def xJ:FSp:=λds μ Q=>match ds with
 | [.int i]=>Q (.int (if i < 0 then -i else i)) μ
 | _=>False
def S6:FSp:=λds μ Q=>match ds with
 | [.int i,.int j]=>Q (.int (if j > i then j else i)) μ
 | _=>False
def Rr:FSp:=λds μ Q=>match ds with
 | [.int i,.int j]=>Q (.int (if j < i then j else i)) μ
 | _=>False
def Gu:FSp:=λds μ Q=>match ds with
 | [.int i]=>Q (.int i) μ
 | [.bl k]=>Q (.int (if k then 1 else 0)) μ
 | _=>False
def cI:FSp:=λds μ Q=>match ds with
 | [.tup xs]=>Q (.int xs.length) μ
 | [.ls xs]=>Q (.int xs.length) μ
 | [.str x]=>x.length<=1000000/\Q (.int x.length) μ
 | [.obj a]=>kL μ a λxs=>Q (.int xs.length) μ
 | _=>False
def tyD:D->Option String
 | .non=>some "NoneType"
 | .bl _=>some "bool"
 | .int _=>some "int"
 | .str _=>some "str"
 | .tup _=>some "tuple"
 | .ls _=>some "list"
 | _=>none
def bu (t c:String):Bool:=t == c || (t == "bool" && c == "int")
def gm (c:String):DR:=λx μ Q=>match tyD x with
 | some t=>Q (.bl (bu t c)) μ
 | none=>False
def aU:STr:=λE ρ μ=>E.nx ρ μ
def aD (t u:STr):STr:=λE ρ μ=>t { E with nx:=u E } ρ μ
def C1:STr:=λE ρ μ=>E.bk ρ μ
def GY:STr:=λE ρ μ=>E.ct ρ μ
def fA (e:ETr):STr:=λE ρ μ=>e ρ μ λ_ μ1=>E.nx ρ μ1
def aK (e:ETr):STr:=λE ρ μ=>e ρ μ E.rt
def J9:STr:=λE _ μ=>E.rt .non μ
def bp (c:TTr)(t u:STr):STr:=λE ρ μ=>c ρ μ λb μ1=>kIf b (t E ρ μ1) (u E ρ μ1)
def ax (i:Nat):GTr:=λd ρ μ k=>k (ρ.set i (some d)) μ
def aZ (e:ETr)(g:GTr):STr:=λE ρ μ=>e ρ μ λd μ1=>g d ρ μ1 E.nx
def Di (i j:Nat)(a:ATr):STr:=λE ρ μ=>a ρ μ λds μ1=>k2 ds λv w=>E.nx ((ρ.set i (some v)).set j (some w)) μ1
def Mv (x z y:D)(μ:Mu)(f:Mu->Prop):Prop:=match x,z with
 | .obj a,.int n=>kL μ a λds=>kN (L2.ixN ds.length n) λj=>f (up μ a (.lst (ds.set j y)))
 | _,_=>False
def eT (o k e:ETr):STr:=λE ρ μ=>e ρ μ λy μ1=>o ρ μ1 λx μ2=>k ρ μ2 λz μ3=>Mv x z y μ3 λμ4=>E.nx ρ μ4
def Cv (c:TTr)(b:STr):STr:=λE ρ μ=>∃ (P:ST->Mu->Prop) (m:ST->Mu->Nat),P ρ μ/\∀ ρ μ,P ρ μ->
 c ρ μ λk μ1=>kIf k (b { E with nx:=λρ' μ'=>P ρ' μ'/\m ρ' μ' < m ρ μ,ct:=λρ' μ'=>P ρ' μ'/\m ρ' μ' < m ρ μ,bk:=E.nx } ρ μ1) (E.nx ρ μ1)
def forR (g:GTr)(b:STr)(E:En):List D->ST->Mu->Prop
 | [],ρ,μ=>E.nx ρ μ
 | d::r,ρ,μ=>g d ρ μ λρ1 μ1=>b { E with nx:=forR g b E r,ct:=forR g b E r,bk:=E.nx } ρ1 μ1
def oN (it:ATr)(g:GTr)(b:STr):STr:=λE ρ μ=>it ρ μ λds μ1=>forR g b E ds ρ μ1
def dQ (lo:Int)(n:Nat):List D:=(Wo n).map λi=>.int (lo+(i:Nat))
def iI (a:ETr):ATr:=λρ μ Q=>a ρ μ λx μ1=>kI x λj=>(-4611686018427387904<=j/\j < 4611686018427387904)/\Q (dQ 0 j.toNat) μ1
def fk (a:ETr):ATr:=λρ μ Q=>a ρ μ λx μ1=>kS x λds=>Q ds μ1
def dn (μ:Mu)(a:Addr):Mu:=λb=>if b=a then none else μ b
theorem Kt {μ:Mu}{a:Addr}{o:MO}(h:μ a=none):dn (up μ a o) a=μ:=by
 funext b
 unfold dn up
 by_cases hb:b=a
 ·subst hb;simp[h]
 ·simp[hb]
def ml (ρ:ST)(n:Nat)(caps:List Nat):ST:=Vb n none++caps.map (lk ρ)
def ka (p:Addr)(G:GTr)(tt:TTr)(te:ETr)(ρc:ST)(K:Mu->Prop):List D->Mu->Prop
 | [],μ=>K μ
 | d::r,μ=>G d ρc μ λρ1 μ1=>tt ρ1 μ1 λb μ2=>kIf b (te ρ1 μ2 λy μ3=>kL μ3 p λzs=>zs.length < 1000000/\ka p G tt te ρc K r (up μ3 p (.lst (zs++[y])))) (ka p G tt te ρc K r μ2)
def cp (it:ATr)(G:GTr)(tt:TTr)(te:ETr)(n:Nat)(caps:List Nat):ETr:=λρ μ Q=>it ρ μ λds μ1=>∀ p,μ1 p=none->
 ka p G tt te (ml ρ n caps) (λμ'=>kL μ' p λzs=>Q (.ls zs) (dn μ' p)) ds (up μ1 p (.lst []))
def fe:TTr:=λ_ μ Q=>Q true μ
def yG:FSp:=λds μ Q=>match ds with
 | [.ls xs]=>∃ bs:List Bool,xs=bs.map .bl/\Q (.bl (bs.all id)) μ
 | _=>False
theorem eI {g:GTr}{b:STr}{E:En}(P:List D->ST->Mu->Prop)(hnil:∀ ρ μ,P [] ρ μ->E.nx ρ μ)
  (hcons:∀ d r ρ μ (N:ST->Mu->Prop),P (d::r) ρ μ->(∀ ρ' μ',P r ρ' μ'->N ρ' μ')->g d ρ μ λρ1 μ1=>b { E with nx:=N,ct:=N,bk:=E.nx } ρ1 μ1) :
  ∀ (ds:List D) (ρ:ST) (μ:Mu),P ds ρ μ->forR g b E ds ρ μ
 | [],ρ,μ,h=>hnil ρ μ h
 | d::r,ρ,μ,h=>hcons d r ρ μ _ h λρ' μ' q=>eI P hnil hcons r ρ' μ' q
section
open PySem PySem.Spec PyProof.Rows L2
def SqF (K:UB)(H:Hp)(a:Addr)(xs:List V):Prop:=
 (∃ o,H a=some (.frz o (.lst xs)))∨
  ∃ (o:Obj) (its:Array UC) (n:Nat),K.lookup a=some o/\o.cls=.type "list" /\ o.dict=none/\o.data=.seq its n/\its.size<=sizeLine/\Vals xs its.toList
theorem SqF.sq {K:UB}{H:Hp}{a:Addr}{xs:List V}(h:SqF K H a xs):SqL K H a xs:=by
 rcases h with h | h
 ·exact .inl (.inr h)
 ·exact .inr h
mutual
inductive Dp (K:UB) (H:Hp):V->D->Prop
 | non:Dp K H .non .non
 | bl (b:Bool):Dp K H (.bl b) (.bl b)
 | int (n:Int):Dp K H (.int n) (.int n)
 | str (z:Str):Dp K H (.str z) (.str z)
 | ty (n:String):Dp K H (.ty n) (.ty n)
 | tup {a:Addr} {xs:List V} {ds:List D}:SqT K H a xs->DpL K H xs ds->Dp K H (.ref a) (.tup ds)
 | ls {a:Addr} {xs:List V} {ds:List D}:SqF K H a xs->DpL K H xs ds->Dp K H (.ref a) (.ls ds)
 | obj (a:Addr):Dp K H (.ref a) (.obj a)
inductive DpL (K:UB) (H:Hp):List V->List D->Prop
 | nil:DpL K H [] []
 | cons {v:V} {d:D} {vs:List V} {ds:List D}:Dp K H v d->DpL K H vs ds->DpL K H (v::vs) (d::ds)
end
structure Tk (H H':Hp):Prop where
 tup:∀ a xs,H a=some (.tup xs)->H' a=some (.tup xs)
 frz:∀ a o u,H a=some (.frz o u)->H' a=some (.frz o u)
theorem Tk.refl (H:Hp):Tk H H:=⟨λ_ _ h=>h,λ_ _ _ h=>h⟩
theorem Tk.trans {H H1 H2:Hp}(a:Tk H H1)(b:Tk H1 H2):Tk H H2:=⟨λc xs h=>b.tup c xs (a.tup c xs h),λc o u h=>b.frz c o u (a.frz c o u h)⟩
theorem Tk.upd {H:Hp}{a:Addr}{o:HO}(h1:∀ xs,H a≠some (.tup xs))(h2:∀ o u,H a≠some (.frz o u)):Tk H (L2.upd H a o):=
 ⟨λb xs h=>by rw[aV (λz=>by subst z;exact h1 _ h)];exact h,λb o u h=>by rw[aV (λz=>by subst z;exact h2 _ _ h)];exact h⟩
theorem Tk.new {H:Hp}{a:Addr}{o:HO}(h:H a=none):Tk H (L2.upd H a o):=.upd (λ_ e=>by rw[h] at e;cases e) λ_ _ e=>by rw[h] at e;cases e
theorem Tk.sqT {K:UB}{H H':Hp}{a:Addr}{xs:List V}(t:Tk H H')(h:SqT K H a xs):SqT K H' a xs:=by
 rcases h with (h | ⟨o,h⟩) | h
 ·exact .inl (.inl (t.tup _ _ h))
 ·exact .inl (.inr ⟨o,t.frz _ _ _ h⟩)
 ·exact .inr h
theorem Tk.sqF {K:UB}{H H':Hp}{a:Addr}{xs:List V}(t:Tk H H')(h:SqF K H a xs):SqF K H' a xs:=by
 rcases h with ⟨o,h⟩ | h
 ·exact .inl ⟨o,t.frz _ _ _ h⟩
 ·exact .inr h
mutual
theorem Dp.mono {K:UB}{H H':Hp}(t:Tk H H'):∀ {v:V} {d:D},Dp K H v d->Dp K H' v d
 | _,_,.non=>.non
 | _,_,.bl b=>.bl b
 | _,_,.int i=>.int i
 | _,_,.str x=>.str x
 | _,_,.ty n=>.ty n
 | _,_,.tup h l=>.tup (t.sqT h) (DpL.mono t l)
 | _,_,.ls h l=>.ls (t.sqF h) (DpL.mono t l)
 | _,_,.obj a=>.obj a
theorem DpL.mono {K:UB}{H H':Hp}(t:Tk H H'):∀ {vs:List V} {ds:List D},DpL K H vs ds->DpL K H' vs ds
 | _,_,.nil=>.nil
 | _,_,.cons h l=>.cons (Dp.mono t h) (DpL.mono t l)
end
theorem DpL.length {K:UB}{H:Hp}:∀ {vs:List V} {ds:List D},DpL K H vs ds->vs.length=ds.length
 | _,_,.nil=>rfl
 | _,_,.cons _ l=>by rw[UX,UX,DpL.length l]
theorem DpL.get {K:UB}{H:Hp}:∀ {vs:List V} {ds:List D} {i:Nat} {d:D},DpL K H vs ds->ds[i]? = some d->∃ v,vs[i]? = some v/\Dp K H v d
 | _,_,_,_,.nil,e=>by simp at e
 | _,_,0,_,.cons h _,e=>by simp at e;subst e;exact ⟨_,rfl,h⟩
 | _,_,i+1,d,.cons _ l,e=>by
  obtain ⟨v,e1,h⟩:=DpL.get (i:=i) (d:=d) l (by simpa using e)
  exact ⟨v,by simpa using e1,h⟩
theorem DpL.get' {K:UB}{H:Hp}:∀ {vs:List V} {ds:List D} {i:Nat} {v:V},DpL K H vs ds->vs[i]? = some v->∃ d,ds[i]? = some d/\Dp K H v d
 | _,_,_,_,.nil,e=>by simp at e
 | _,_,0,_,.cons h _,e=>by simp at e;subst e;exact ⟨_,rfl,h⟩
 | _,_,i+1,d,.cons _ l,e=>by
  obtain ⟨v,e1,h⟩:=DpL.get' (i:=i) (v:=d) l (by simpa using e)
  exact ⟨v,by simpa using e1,h⟩
theorem DpL.set {K:UB}{H:Hp}{v:V}{d:D}(h:Dp K H v d):∀ {vs:List V} {ds:List D} (i:Nat),DpL K H vs ds->DpL K H (vs.set i v) (ds.set i d)
 | _,_,_,.nil=>.nil
 | _,_,0,.cons _ l=>.cons h l
 | _,_,i+1,.cons q l=>.cons q (DpL.set h i l)
theorem DpL.append {K:UB}{H:Hp}:∀ {vs ws:List V} {ds es:List D},DpL K H vs ds->DpL K H ws es->DpL K H (vs++ws) (ds++es)
 | _,_,_,_,.nil,s=>s
 | _,_,_,_,.cons h l,s=>.cons h (DpL.append l s)
theorem DpL.at {K:UB}{H:Hp}{vs:List V}{ds:List D}{i:Int}{d:D}(l:DpL K H vs ds)(e:atD ds i=some d):∃ v,atI vs i=some v/\Dp K H v d:=by
 unfold atD atI at e
 unfold atI
 rw[l.length]
 cases q:ixN ds.length i with
 | none=>rw[q] at e;cases e
 | some j=>
  rw[q] at e
  exact l.get e
def DpK {κ:Type}(K:UB)(H:Hp)(xs:List (κ×V))(kvs:List (κ×D)):Prop:=xs.map (·.1)=kvs.map (·.1)/\DpL K H (xs.map (·.2)) (kvs.map (·.2))
theorem DpK.mono {κ:Type}{K:UB}{H H':Hp}(t:Tk H H'){xs:List (κ×V)}{kvs:List (κ×D)}(h:DpK K H xs kvs):DpK K H' xs kvs:=⟨h.1,h.2.mono t⟩
def Dn (K:UB)(H:Hp)(a:Addr):MO->Prop
 | .lst ds=>∃ xs,H a=some (.lst xs)/\DpL K H xs ds
 | .dct kvs=>∃ xs,H a=some (.dK xs)/\DpK K H xs kvs
 | .dcT kvs=>∃ xs,H a=some (.dT xs)/\DpK K H xs kvs
 | .dcF kvs=>∃ xs,(∃ o,H a=some (.frz o (.dK xs)))/\DpK K H xs kvs
theorem Dn.go {K:UB}{H H':Hp}{a:Addr}{o:MO}(h:Dn K H a o)(t:Tk H H')(k:∀ u,H a=some u->H' a=some u):Dn K H' a o:=by
 cases o<;>(obtain ⟨xs,z,l⟩:=h;first | exact ⟨xs,k _ z,l.mono t⟩ | (obtain ⟨o,z⟩:=z;exact ⟨xs,⟨o,k _ z⟩,l.mono t⟩))
theorem Dn.ne {K:UB}{H:Hp}{a q:Addr}{o:MO}{u:HO}(h:Dn K H a o)(t:Tk H (L2.upd H q u))(k:a≠q):Dn K (L2.upd H q u) a o:=h.go t λ_ e=>by rw[aV k];exact e
def cH (K:UB)(H:Hp)(μ:Mu):Prop:=∀ a o,μ a=some o->Dn K H a o
theorem cH.free {K:UB}{H:Hp}{μ:Mu}(h:cH K H μ){a:Addr}(e:H a=none):μ a=none:=by
 cases q:μ a with
 | none=>rfl
 | some o=>
  cases o<;>(obtain ⟨xs,z,_⟩:=h a _ q;first | (rw[e] at z;cases z;done) | (obtain ⟨o,z⟩:=z;rw[e] at z;cases z))
theorem cH.keep {K:UB}{H H':Hp}{μ:Mu}(h:cH K H μ)(t:Tk H H')(k:∀ a u,μ a≠none->H a=some u->H' a=some u):cH K H' μ:=λa o e=>by
 exact (h a _ e).go t λu z=>k a u (by rw[e];simp) z
def Sub (μ μ':Mu):Prop:=∀ a o,μ a=some o->μ' a=some o
theorem Sub.refl (μ:Mu):Sub μ μ:=λ_ _ h=>h
theorem Sub.new {μ:Mu}{p:Addr}{o:MO}(h:μ p=none):Sub μ (up μ p o):=λa u e=>by
 rw[bQ (λz=>by subst z;rw[h] at e;cases e)];exact e
theorem Sub.trans {μ μ1 μ2:Mu}(a:Sub μ μ1)(b:Sub μ1 μ2):Sub μ μ2:=λc o h=>b c o (a c o h)
theorem cH.sub {K:UB}{H:Hp}{μ μ':Mu}(h:cH K H μ')(s:Sub μ μ'):cH K H μ:=λa o e=>h a o (s a o e)
structure Rl (K:UB) (σ:L2.St) (H:Hp) (ρ:ST) (μ:Mu):Prop where
 len:ρ.length=σ.length
 loc:∀ i d,lk ρ i=some d->∃ v,σ[i]? = some (some v)/\Dp K H v d
 mu:cH K H μ
theorem Rl.go {K:UB}{σ:L2.St}{H H':Hp}{ρ:ST}{μ μ':Mu}(r:Rl K σ H ρ μ)(t:Tk H H')(m:cH K H' μ'):Rl K σ H' ρ μ':=
 ⟨r.len,λi d e=>let ⟨v,h1,h2⟩:=r.loc i d e;⟨v,h1,h2.mono t⟩,m⟩
theorem Hy:∀ (ρ:ST) (i j:Nat) (d:D),lk (ρ.set i (some d)) j=if i=j/\i < ρ.length then some d else lk ρ j
 | [],i,j,d=>by simp[lk]
 | o::r,0,0,d=>by simp[lk]
 | o::r,0,j+1,d=>by simp[lk]
 | o::r,i+1,0,d=>by simp[lk]
 | o::r,i+1,j+1,d=>by
  show lk (r.set i (some d)) j=_
  rw[Hy r i j d]
  simp[lk]
theorem Rl.set {K:UB}{σ:L2.St}{H:Hp}{ρ:ST}{μ:Mu}(r:Rl K σ H ρ μ){v:V}{d:D}(h:Dp K H v d)(i:Nat):Rl K (σ.set i (some v)) H (ρ.set i (some d)) μ:=by
 refine ⟨by simp[r.len],λj e q=>?_,r.mu⟩
 rw[Hy] at q
 split at q
 ·rename_i hc
  obtain ⟨rfl,hlt⟩:=hc
  cases q
  exact ⟨v,by rw[XM (by rw[← r.len];exact hlt)],h⟩
 ·rename_i hc
  obtain ⟨u,h1,h2⟩:=r.loc j e q
  by_cases hij:i=j
  ·subst hij
   have:¬ i < ρ.length:=λz=>hc ⟨rfl,z⟩
   have hn:σ[i]? = none:=List.getElem?_eq_none_iff.mpr (by rw[← r.len];omega)
   rw[hn] at h1;cases h1
  ·exact ⟨u,by rw[WQ hij];exact h1,h2⟩
abbrev lL (K:UB)(H:Hp)(Q:DK)(Q':VK):Prop:=∀ v H' d μ',Tk H H'->cH K H' μ'->Dp K H' v d->Q d μ'->Q' v H'
def Sim (K:UB)(t:TE)(T:ETr):Prop:=∀ σ H ρ μ (Q:DK) (Q':VK),Rl K σ H ρ μ->T ρ μ Q->lL K H Q Q'->t σ H Q'
def L9 (K:UB)(t:TT)(T:TTr):Prop:=∀ σ H ρ μ (Q:Bool->Mu->Prop) (Q':Bool->Hp->Prop),Rl K σ H ρ μ->T ρ μ Q->(∀ b H' μ',Tk H H'->cH K H' μ'->Q b μ'->Q' b H')->t σ H Q'
def RR (K:UB)(t:TA)(T:ATr):Prop:=∀ σ H ρ μ (Q:List D->Mu->Prop) (Q':List V->Hp->Prop),Rl K σ H ρ μ->T ρ μ Q->(∀ vs H' ds μ',Tk H H'->cH K H' μ'->DpL K H' vs ds->Q ds μ'->Q' vs H')->t σ H Q'
abbrev Be (K:UB)(H:Hp)(N:ST->Mu->Prop)(N':L2.St->Hp->Prop):Prop:=∀ σ' H' ρ' μ',Tk H H'->Rl K σ' H' ρ' μ'->N ρ' μ'->N' σ' H'
structure IB (K:UB) (H:Hp) (E:En) (E':Ends):Prop where
 nx:Be K H E.nx E'.nx
 rt:lL K H E.rt E'.rt
 bk:Be K H E.bk E'.bk
 ct:Be K H E.ct E'.ct
theorem IB.go {K:UB}{H H1:Hp}{E:En}{E':Ends}(e:IB K H E E')(t:Tk H H1):IB K H1 E E':=
 ⟨λ_ _ _ _ t'=>e.nx _ _ _ _ (t.trans t'),λ_ _ _ _ t'=>e.rt _ _ _ _ (t.trans t'),λ_ _ _ _ t'=>e.bk _ _ _ _ (t.trans t'),λ_ _ _ _ t'=>e.ct _ _ _ _ (t.trans t')⟩
def Oc (K:UB)(t:TS)(T:STr):Prop:=∀ σ H ρ μ (E:En) (E':Ends),Rl K σ H ρ μ->T E ρ μ->IB K H E E'->t E' σ H
def Qo (K:UB)(g:TG)(G:GTr):Prop:=∀ σ H ρ μ v d (k:ST->Mu->Prop) (k':L2.St->Hp->Prop),Rl K σ H ρ μ->Dp K H v d->G d ρ μ k->Be K H k k'->g v σ H k'
structure LE (X:Cx) (e:U5) (T:ETr):Prop where
 ex:∃ t,PE X e t/\Sim X.K t T
structure LT (X:Cx) (e:U5) (T:TTr):Prop where
 ex:∃ t,PT X e t/\L9 X.K t T
structure LW (X:Cx) (e:U5) (T:TTr):Prop where
 ex:∃ t,PW X e t/\L9 X.K t T
structure LA (X:Cx) (es:List U5) (T:ATr):Prop where
 ex:∃ t,PA X es t/\RR X.K t T
structure LS (X:Cx) (st:Stmt) (T:STr):Prop where
 ex:∃ t,PS X st t/\Oc X.K t T
structure LSs (X:Cx) (sts:List Stmt) (T:STr):Prop where
 ex:∃ t,PSs X sts t/\Oc X.K t T
structure LG (X:Cx) (tg:U5) (G:GTr):Prop where
 ex:∃ g,PG X tg g/\Qo X.K g G
section
variable {X:Cx} {a b c e:U5} {Ta Tb Tc:ETr} {pos:Pos}
theorem ae (i:Nat){x:Str}(hN:X.N[i]? = some x:=by rfl)(hv:Vis X.env.scope x:=by first | exact ZC rfl | exact YQ (ZC rfl) | exact YQ (YQ rfl))(hd:(x == ("__debug__" : Str))=false:=by decide)
  (hcd:(x == ("__classdict__" : Str))=false:=by decide):LE X (.Name x pos) (ah i):=
 ⟨_,IQ hN hv hd hcd,λσ H ρ μ Q Q' r h k=>by
  have h:kO (lk ρ i) λd=>Q d μ:=h
  cases q:lk ρ i with
  | none=>rw[q] at h;exact UG h
  | some d=>
   rw[q] at h
   have h:Q d μ:=h
   obtain ⟨v,e1,p⟩:=r.loc i d q
   exact ⟨v,e1,k v H d μ (.refl H) r.mu p h⟩⟩
theorem le_int {i:Int}{j}:LE X (.Constant (.int i) j pos) (TC (.int i)):=⟨_,OO,λσ H ρ μ Q Q' r h k=>k _ H _ μ (.refl H) r.mu (.int i) h⟩
theorem cq {b:Bool}{j}:LE X (.Constant (.bool b) j pos) (TC (.bl b)):=⟨_,Sm,λσ H ρ μ Q Q' r h k=>k _ H _ μ (.refl H) r.mu (.bl b) h⟩
theorem bF {j}:LE X (.Constant .none j pos) (TC .non):=⟨_,Pn,λσ H ρ μ Q Q' r h k=>k _ H _ μ (.refl H) r.mu .non h⟩
theorem le_str {x:Str}{j}:LE X (.Constant (.str x) j pos) (TC (.str x)):=⟨_,QI,λσ H ρ μ Q Q' r h k=>k _ H _ μ (.refl H) r.mu (.str x) h⟩
def dh (K:UB)(r:R2)(R:DR2):Prop:=∀ H μ x y dx dy (Q:DK) (Q':VK),cH K H μ->Dp K H x dx->Dp K H y dy->R dx dy μ Q->lL K H Q Q'->r x y H Q'
theorem lL.go {K:UB}{H H1:Hp}{Q:DK}{Q':VK}(k:lL K H Q Q')(t:Tk H H1):lL K H1 Q Q':=λv H' d μ' t'=>k v H' d μ' (t.trans t')
theorem nK {K:UB}{r:R2}{R:DR2}{ta tb:TE}(hr:dh K r R)(ha:Sim K ta Ta)(hb:Sim K tb Tb):Sim K (tOp r ta tb) (aq R Ta Tb):=λσ H ρ μ Q Q' rl h k=>
 ha σ H ρ μ _ _ rl h λx H1 dx μ1 t1 m1 p1 h1=>hb σ H1 ρ μ1 _ _ (rl.go t1 m1) h1 λy H2 dy μ2 t2 m2 p2 h2=>hr H2 μ2 x y dx dy Q Q' m2 (p1.mono t2) p2 h2 (k.go (t1.trans t2))
theorem oM {op:Operator}{r:R2}{R:DR2}(ho:OpR X (WR op) r)(hr:dh X.K r R)(ha:LE X a Ta)(hb:LE X b Tb):LE X (.BinOp a op b pos) (aq R Ta Tb):=by
 obtain ⟨ta,pa,sa⟩:=ha.ex
 obtain ⟨tb,pb,sb⟩:=hb.ex
 exact ⟨_,NR ho pa pb,nK hr sa sb⟩
theorem gD {op:zaR}{r:R2}{R:DR2}(ho:OpR X (VG op) r)(hr:dh X.K r R)(ha:LE X a Ta)(hb:LE X b Tb)(hm:Wx op b=false):LE X (.Compare a [op] [b] pos) (aq R Ta Tb):=by
 obtain ⟨ta,pa,sa⟩:=ha.ex
 obtain ⟨tb,pb,sb⟩:=hb.ex
 exact ⟨_,Ni ho pa pb hm,nK hr sa sb⟩
theorem BV {K:UB}{t:TE}{T:ETr}(h:Sim K t T):L9 K (JB t) (TB T):=λσ H ρ μ Q Q' rl hh k=>
 h σ H ρ μ _ _ rl hh λv H' d μ' t' m' p' h'=>by
  cases p' with
  | bl c=>exact ⟨c,rfl,k c H' μ' t' m' h'⟩
  | _=>exact UG h'
theorem OV {K:UB}{t:TE}{T:ETr}(h:Sim K t T):L9 K (tB t) (TB T):=λσ H ρ μ Q Q' rl hh k=>
 h σ H ρ μ _ _ rl hh λv H' d μ' t' m' p' h'=>by
  cases p' with
  | bl c=>exact ⟨c,rfl,k c H' μ' t' m' h'⟩
  | _=>exact UG h'
theorem jm {op:zaR}{r:R2}{R:DR2}(ho:OpR X (VG op) r)(hr:dh X.K r R)(ha:LE X a Ta)(hb:LE X b Tb)(hm:Wx op b=false):LT X (.Compare a [op] [b] pos) (TB (aq R Ta Tb)):=by
 obtain ⟨ta,pa,sa⟩:=ha.ex
 obtain ⟨tb,pb,sb⟩:=hb.ex
 exact ⟨_,Eg ho pa pb hm,BV (nK hr sa sb)⟩
theorem yb {K:UB}{C:Int->Int->Prop}{g:Int->Int->V}{R:DR2}(f:Int->Int->D)(hg:∀ H i j,Dp K H (g i j) (f i j))(hR:∀ i j μ Q,R (.int i) (.int j) μ Q->C i j/\Q (f i j) μ)
  (hn:∀ dx dy μ Q,R dx dy μ Q->(∃ i,dx=.int i)/\∃ j,dy=.int j):dh K (rI C g) R:=λH μ x y dx dy Q Q' m px py h k=>by
 obtain ⟨⟨i,rfl⟩,j,rfl⟩:=hn _ _ _ _ h
 cases px;cases py
 obtain ⟨h1,h2⟩:=hR _ _ _ _ h
 exact ⟨i,j,rfl,rfl,h1,k _ H _ μ (.refl H) m (hg H i j) h2⟩
theorem D4 {K:UB}{g:Int->Int->V}{R:DR2}(f:Int->Int->D)(hg:∀ H i j,Dp K H (g i j) (f i j))(hR:∀ i j μ Q,R (.int i) (.int j) μ Q->Q (f i j) μ)
  (hn:∀ dx dy μ Q,R dx dy μ Q->(∃ i,dx=.int i)/\∃ j,dy=.int j):dh K (rI0 g) R:=λH μ x y dx dy Q Q' m px py h k=>by
 obtain ⟨⟨i,rfl⟩,j,rfl⟩:=hn _ _ _ _ h
 cases px;cases py
 exact ⟨i,j,rfl,rfl,k _ H _ μ (.refl H) m (hg H i j) (hR _ _ _ _ h)⟩
theorem yT (ha:LE X a Ta)(hb:LE X b Tb):LE X (.BinOp a .Sub b pos) (aq Bw Ta Tb):=oM P8 (D4 (λi j=>.int (i - j)) (λ_ _ _=>.int _) (λ_ _ _ _ h=>h) (λdx dy μ Q h=>by cases dx<;>cases dy<;>first | exact ⟨⟨_,rfl⟩,_,rfl⟩ | exact UG h)) ha hb
theorem bE.abs {j:Int}(h:bE j):j.natAbs < 2 ^ 256:=by
 have e:(2:Nat) ^ 256=115792089237316195423570985008687907853269984665640564039457584007913129639936:=by decide +kernel
 rw[e]
 obtain ⟨h1,h2⟩:=h
 omega
theorem MulOk.ok {i j:Int}(h:MulOk i j):IntMulOk i j:=by
 rcases h with (⟨h1,h2⟩ | ⟨h1,h2⟩) | ⟨h1,h2⟩
 ·exact .of_left (Y6 h1 h2)
 ·exact .of_right (Y6 h1 h2)
 ·exact .of_le (Zh h1.abs) (Zh h2.abs) (by decide)
theorem LR:OpR X (WR .Mult) (rI MulOk λi j=>.int (i*j)):=opI λ_ _ _ _ _ _ _ hc q=>mul_int q hc.ok
theorem jW.np {i j:Int}(h:jW j):Builtin.divisionGoesByPylong i j=false:=by
 refine PyProof.noPylong_of_log2 ?_
 have h0:j.natAbs≠0:=by have:=h.1;omega
 have:=(Nat.log2_lt h0).mpr h.2.abs
 omega
theorem MY:OpR X (WR .FloorDiv) (rI (λ_ j=>jW j) λi j=>.int (i.fdiv j)):=opI λ_ _ _ _ _ _ _ hc q=>floordiv_int hc.1 q (.inl hc.np)
theorem jf (ha:LE X a Ta)(hb:LE X b Tb):LE X (.BinOp a .FloorDiv b pos) (aq kW Ta Tb):=oM MY (yb (λi j=>.int (i.fdiv j)) (λ_ _ _=>.int _) (λ_ _ _ _ h=>⟨h.1,h.2⟩) (λdx dy μ Q h=>by cases dx<;>cases dy<;>first | exact ⟨⟨_,rfl⟩,_,rfl⟩ | exact UG h)) ha hb
theorem le_mul (ha:LE X a Ta)(hb:LE X b Tb):LE X (.BinOp a .Mult b pos) (aq iN Ta Tb):=oM LR (yb (λi j=>.int (i*j)) (λ_ _ _=>.int _) (λ_ _ _ _ h=>⟨h.1,h.2⟩) (λdx dy μ Q h=>by cases dx<;>cases dy<;>first | exact ⟨⟨_,rfl⟩,_,rfl⟩ | exact UG h)) ha hb
theorem fg (ha:LE X a Ta)(hb:LE X b Tb):LE X (.BinOp a .Mod b pos) (aq jk Ta Tb):=oM L7 (yb (λi j=>.int (i.fmod j)) (λ_ _ _=>.int _) (λ_ _ _ _ h=>⟨h.1,h.2⟩) (λdx dy μ Q h=>by cases dx<;>cases dy<;>first | exact ⟨⟨_,rfl⟩,_,rfl⟩ | exact UG h)) ha hb
theorem le_pow (ha:LE X a Ta)(hb:LE X b Tb):LE X (.BinOp a .Pow b pos) (aq Cw Ta Tb):=oM PD (yb (λi j=>.int (i ^ j.toNat)) (λ_ _ _=>.int _) (λ_ _ _ _ h=>⟨h.1,h.2⟩) (λdx dy μ Q h=>by cases dx<;>cases dy<;>first | exact ⟨⟨_,rfl⟩,_,rfl⟩ | exact UG h)) ha hb
theorem cU {K:UB}(p:Int->Int->Bool):dh K (rI0 λi j=>.bl (p i j)) (GF p):=D4 (λi j=>.bl (p i j)) (λ_ _ _=>.bl _) (λ_ _ _ _ h=>h) (λdx dy μ Q h=>by cases dx<;>cases dy<;>first | exact ⟨⟨_,rfl⟩,_,rfl⟩ | exact UG h)
theorem Tj (ha:LE X a Ta)(hb:LE X b Tb):LE X (.Compare a [.Lt] [b] pos) (aq rLt Ta Tb):=gD NL (cU _) ha hb (ff _)
theorem SO (ha:LE X a Ta)(hb:LE X b Tb):LE X (.Compare a [.Gt] [b] pos) (aq rGt Ta Tb):=gD NV (cU _) ha hb (ff _)
theorem RF (ha:LE X a Ta)(hb:LE X b Tb):LE X (.Compare a [.GtE] [b] pos) (aq rGe Ta Tb):=gD Q4 (cU _) ha hb (ff _)
theorem Sg (ha:LE X a Ta)(hb:LE X b Tb):LT X (.Compare a [.Lt] [b] pos) (TB (aq rLt Ta Tb)):=jm NL (cU _) ha hb (ff _)
theorem wN (ha:LE X a Ta)(hb:LE X b Tb):LT X (.Compare a [.Gt] [b] pos) (TB (aq rGt Ta Tb)):=jm NV (cU _) ha hb (ff _)
theorem aN (ha:LE X a Ta)(he:∀ whole,isTrue a X.env whole=(do let v ← whole;standAt a.pos;Y0 [v] (truthy v)):=by intro _;rfl):LT X a (TB Ta):=by
 obtain ⟨ta,pa,sa⟩:=ha.ex
 exact ⟨_,Qb pa he,OV sa⟩
variable {tA tB' tC':TTr} {rest:List U5}
theorem aW (ha:LT X a tA):LT X (.UnaryOp .Not a pos) (bL tA):=by
 obtain ⟨ta,pa,sa⟩:=ha.ex
 exact ⟨_,Pz pa,λσ H ρ μ Q Q' rl h k=>sa σ H ρ μ _ _ rl h λc H1 μ1 t1 m1 h1=>k (!c) H1 μ1 t1 m1 h1⟩
theorem LW.lt (h:LW X a tA):LT X a tA:=by
 obtain ⟨ta,pa,sa⟩:=h.ex
 exact ⟨_,pa.pt,sa⟩
theorem qJ (ha:LT X a tA):LW X (.BoolOp .And [a] pos) tA:=by
 obtain ⟨ta,pa,sa⟩:=ha.ex
 exact ⟨_,pw_and1 pa,sa⟩
theorem bS (ha:LT X a tA):LW X (.BoolOp .Or [a] pos) tA:=by
 obtain ⟨ta,pa,sa⟩:=ha.ex
 exact ⟨_,pw_or1 pa,sa⟩
theorem yW (ha:LT X a tA)(hb:LW X (.BoolOp .And (b::rest) pos) tB'):LW X (.BoolOp .And (a::b::rest) pos) (xw tA tB'):=by
 obtain ⟨ta,pa,sa⟩:=ha.ex
 obtain ⟨tb,pb,sb⟩:=hb.ex
 refine ⟨_,pw_and pa pb,λσ H ρ μ Q Q' rl h k=>sa σ H ρ μ _ _ rl h λc H1 μ1 t1 m1 h1=>?_⟩
 cases c with
 | true=>exact u9 (sb σ H1 ρ μ1 Q Q' (rl.go t1 m1) h1 λb H2 μ2 t2=>k b H2 μ2 (t1.trans t2))
 | false=>exact vp (k false H1 μ1 t1 m1 h1)
theorem bV (ha:LT X a tA)(hb:LW X (.BoolOp .Or (b::rest) pos) tB'):LW X (.BoolOp .Or (a::b::rest) pos) (TOr tA tB'):=by
 obtain ⟨ta,pa,sa⟩:=ha.ex
 obtain ⟨tb,pb,sb⟩:=hb.ex
 refine ⟨_,pw_or pa pb,λσ H ρ μ Q Q' rl h k=>sa σ H ρ μ _ _ rl h λc H1 μ1 t1 m1 h1=>?_⟩
 cases c with
 | true=>exact u9 (k true H1 μ1 t1 m1 h1)
 | false=>exact vp (sb σ H1 ρ μ1 Q Q' (rl.go t1 m1) h1 λb H2 μ2 t2=>k b H2 μ2 (t1.trans t2))
theorem cS {op}(h:LE X a Ta):LE X (.BoolOp op [a] pos) Ta:=by
 obtain ⟨ta,pa,sa⟩:=h.ex
 exact ⟨_,N6 pa,sa⟩
theorem di (ha:LE X a Ta)(hb:LE X (.BoolOp .And (b::rest) pos) Tb):LE X (.BoolOp .And (a::b::rest) pos) (dD Ta Tb):=by
 obtain ⟨ta,pa,sa⟩:=ha.ex
 obtain ⟨tb,pb,sb⟩:=hb.ex
 refine ⟨_,QZ pa pb,λσ H ρ μ Q Q' rl h k=>sa σ H ρ μ _ _ rl h λx H1 dx μ1 t1 m1 p1 h1=>?_⟩
 cases p1 with
 | bl c=>
  refine ⟨c,rfl,?_⟩
  cases c with
  | true=>exact u9 (sb σ H1 ρ μ1 Q Q' (rl.go t1 m1) h1 (k.go t1))
  | false=>exact vp (k _ H1 _ μ1 t1 m1 (.bl _) h1)
 | _=>exact UG h1
theorem Iy (ha:LE X a Ta)(hb:LE X (.BoolOp .Or (b::rest) pos) Tb):LE X (.BoolOp .Or (a::b::rest) pos) (Am Ta Tb):=by
 obtain ⟨ta,pa,sa⟩:=ha.ex
 obtain ⟨tb,pb,sb⟩:=hb.ex
 refine ⟨_,RK pa pb,λσ H ρ μ Q Q' rl h k=>sa σ H ρ μ _ _ rl h λx H1 dx μ1 t1 m1 p1 h1=>?_⟩
 cases p1 with
 | bl c=>
  refine ⟨c,rfl,?_⟩
  cases c with
  | true=>exact u9 (k _ H1 _ μ1 t1 m1 (.bl _) h1)
  | false=>exact vp (sb σ H1 ρ μ1 Q Q' (rl.go t1 m1) h1 (k.go t1))
 | _=>exact UG h1
theorem xa (ha:LE X a Ta):LE X (.UnaryOp .Not a pos) (mS Ta):=by
 obtain ⟨ta,pa,sa⟩:=ha.ex
 refine ⟨_,Oj pa,λσ H ρ μ Q Q' rl h k=>sa σ H ρ μ _ _ rl h λx H1 dx μ1 t1 m1 p1 h1=>?_⟩
 cases p1 with
 | bl c=>exact ⟨c,rfl,k _ H1 _ μ1 t1 m1 (.bl _) h1⟩
 | _=>exact UG h1
theorem ko (hc:LT X c tC')(ha:LE X a Ta)(hb:LE X b Tb):LE X (.IfExp c a b pos) (oo tC' Ta Tb):=by
 obtain ⟨tc,pc,sc⟩:=hc.ex
 obtain ⟨ta,pa,sa⟩:=ha.ex
 obtain ⟨tb,pb,sb⟩:=hb.ex
 refine ⟨_,Hr pc pa pb,λσ H ρ μ Q Q' rl h k=>sc σ H ρ μ _ _ rl h λq H1 μ1 t1 m1 h1=>?_⟩
 cases q with
 | true=>exact u9 (sa σ H1 ρ μ1 Q Q' (rl.go t1 m1) h1 (k.go t1))
 | false=>exact vp (sb σ H1 ρ μ1 Q Q' (rl.go t1 m1) h1 (k.go t1))
variable {es:List U5} {At:ATr}
theorem ai:LA X [] ar:=⟨_,gf,λσ H ρ μ Q Q' rl h k=>k [] H [] μ (.refl H) rl.mu .nil h⟩
theorem aa (ha:LE X e Ta)(hr:LA X es At)(hs:UI (e::es) X.env=(false,VI e X.env)::UI es X.env:=by rfl):LA X (e::es) (af Ta At):=by
 obtain ⟨ta,pa,sa⟩:=ha.ex
 obtain ⟨tr,pr,sr⟩:=hr.ex
 exact ⟨_,cG pa pr hs,λσ H ρ μ Q Q' rl h k=>sa σ H ρ μ _ _ rl h λx H1 dx μ1 t1 m1 p1 h1=>sr σ H1 ρ μ1 _ _ (rl.go t1 m1) h1 λxs H2 ds μ2 t2 m2 p2 h2=>k _ H2 _ μ2 (t1.trans t2) m2 (.cons (p1.mono t2) p2) h2⟩
theorem fj {K:UB}{H:Hp}{μ:Mu}{p:Addr}{o:HO}(m:cH K H μ)(hp:H p=none):cH K (L2.upd H p o) μ:=m.keep (.new hp) λa' xs' _ e=>by rw[aV (bX e hp)];exact e
theorem big {n:Nat}(h:n<=1000000):n<=sizeLine:=Vy h (by decide)
theorem aX {x1}(h:LA X es At):LE X (.Tuple es x1 pos) (bw At):=by
 obtain ⟨ta,pa,sa⟩:=h.ex
 refine ⟨_,Pj pa,λσ H ρ μ Q Q' rl h k=>sa σ H ρ μ _ _ rl h λxs H1 ds μ1 t1 m1 p1 h1=>⟨by rw[p1.length];exact big h1.1,λp hp=>?_⟩⟩
 exact k _ _ _ μ1 (t1.trans (.new hp)) (fj m1 hp) (.tup (SqT.of bc) (p1.mono (.new hp))) h1.2
theorem gY (h:LA X es At):LE X (.List es pos) (mh At):=by
 obtain ⟨ta,pa,sa⟩:=h.ex
 refine ⟨_,HU pa,λσ H ρ μ Q Q' rl h k=>sa σ H ρ μ _ _ rl h λxs H1 ds μ1 t1 m1 p1 h1=>⟨by rw[p1.length];exact big h1.1,λp hp=>?_⟩⟩
 refine k _ _ _ (up μ1 p (.lst ds)) (t1.trans (.new hp)) (λa o e=>?_) (.obj p) (h1.2 p (m1.free hp))
 by_cases ha:a=p
 ·subst ha
  rw[bh] at e;cases e
  exact ⟨xs,bc,p1.mono (.new hp)⟩
 ·rw[bQ ha] at e
  exact fj m1 hp a o e
def Kh (t:TE):TE:=λσ H Q=>t σ H λv H1=>∃ a xs,v=.ref a/\H1 a=some (.lst xs)/\∀ o,Q v (L2.upd H1 a (.frz o (.lst xs)))
theorem mf {t:TE}(h:PE X e t):PE X e (Kh t):=by
 intro pins s σ H Q I hh
 refine thn (h pins s σ H _ I hh) λu s1 ⟨v,H1,I1,r,a,xs,ev,ea,q⟩=>?_
 obtain ⟨z,its,n,rv,hg⟩:=(show gn X.prog X.w H1 s1.heap a (.lst xs) from I1.hok a _ ea)
 have nl:∀ b o,H1 b=some o->(∀ ys,o≠.lst ys)->b≠a:=λb o e1 e2 z=>by subst z;rw[ea] at e1;cases e1;exact e2 _ rfl
 refine ⟨v,_,I1.un (h':=s1.heap) (t':=s1.toks) (H':=L2.upd H1 a (.frz { cls:=.type "list", data:=.seq its.toArray n } (.lst xs))) ⟨λb o e _ _ _=>e,λb o e _ _ _=>⟨o.slots,e⟩,λb o e n _=>?_,λb o e _=>⟨o,e⟩,λb ys e=>?_,λb o u e=>?_,λb ps e=>⟨#[],?_⟩⟩ (λb u e=>?_),r,q _⟩
 ·rw[aV (λz=>by subst z;rw[ea] at n;cases n)];exact n
 ·rw[aV (nl b _ e (λ_=>nofun))];exact e
 ·rw[aV (nl b _ e (λ_=>nofun))];exact e
 ·rw[aV (nl b _ e (λ_=>nofun)),e];simp
 ·by_cases hb:b=a
  ·subst hb
   rw[bc] at e;cases e
   exact ⟨hg,z,its,n,rv,hg⟩
  ·rw[aV hb] at e
   refine (I1.hok b u e).rY (λc w _ q=>q) (λc q=>?_) λc ys q=>?_
   ·rw[aV (nl c _ q (λ_=>nofun))];exact q
   ·rw[aV (nl c _ q (λ_=>nofun))];exact q
theorem dk (h:LA X es At):LE X (.List es pos) (fb At):=by
 obtain ⟨ta,pa,sa⟩:=h.ex
 refine ⟨_,mf (HU pa),λσ H ρ μ Q Q' rl h k=>sa σ H ρ μ _ _ rl h λxs H1 ds μ1 t1 m1 p1 h1=>⟨by rw[p1.length];exact big h1.1,λp hp=>⟨p,xs,rfl,bc,λo=>?_⟩⟩⟩
 have e:L2.upd (L2.upd H1 p (.lst xs)) p (.frz o (.lst xs))=L2.upd H1 p (.frz o (.lst xs)):=xu
 rw[e]
 exact k _ _ _ μ1 (t1.trans (.new hp)) (fj m1 hp) (.ls (.inl ⟨o,bc⟩) (p1.mono (.new hp))) h1.2
end
end
section
open PySem PySem.Spec PyProof.Rows L2
mutual
def toP:D->PyData
 | .non=>.none
 | .bl b=>.bool b
 | .int i=>.int i
 | .str x=>.str x
 | .tup ds=>.tuple (nQ ds)
 | .ls ds=>.list (nQ ds)
 | .ty _=>.none
 | .obj _=>.none
def nQ:List D->List PyData
 | []=>[]
 | d::r=>toP d::nQ r
end
mutual
theorem iL:∀ (n:Nat) (d:D),okD n d=true->(toP d).canLay0=true/\(toP d).depth<=n
 | n,.non,_=>⟨rfl,Wz _⟩
 | n,.bl b,_=>⟨rfl,Wz _⟩
 | n,.int i,_=>⟨rfl,Wz _⟩
 | n,.str x,h=>⟨by cases n<;>exact h,Wz _⟩
 | n+1,.tup ds,h=>by
  obtain ⟨h1,h2⟩:=uj n ds h
  exact ⟨h1,zbi h2⟩
 | n+1,.ls ds,h=>by
  obtain ⟨h1,h2⟩:=uj n ds h
  exact ⟨h1,zbi h2⟩
 | 0,.tup ds,h=>by cases h
 | 0,.ls ds,h=>by cases h
 | n,.ty _,h=>by cases n<;>cases h
 | n,.obj _,h=>by cases n<;>cases h
theorem uj:∀ (n:Nat) (ds:List D),ck n ds=true->zaX (nQ ds)=true/\zbt (nQ ds)<=n
 | n,[],_=>⟨rfl,Wz _⟩
 | n,d::r,h=>by
  have h':okD n d=true/\ck n r=true:=by simpa[ck] using h
  obtain ⟨a1,a2⟩:=iL n d h'.1
  obtain ⟨b1,b2⟩:=uj n r h'.2
  refine ⟨?_,?_⟩
  ·show (zbN (toP d)&&zaX (nQ r))=true
   rw[a1,b1];rfl
  ·show max (PyData.depth (toP d)) (zbt (nQ r))<=n
   exact Nat.max_le.mpr ⟨a2,b2⟩
end
theorem str_beq (a b:Str):(a == b)=decide (a=b):=by
 by_cases h:a=b
 ·subst h;simp
 ·rw[decide_eq_false h];exact beq_eq_false_iff_ne.mpr h
mutual
theorem qV:∀ (n m:Nat) (a b:D),okD n a=true->okD m b=true->WY (toP a) (toP b)=eqD a b
 | n,m,.non,b,_,hb=>by cases b<;>first | rfl | (cases m<;>cases hb)
 | n,m,.bl x,b,_,hb=>by
  cases b with
  | int y=>simp only[toP,WY,eqD];rw[X2]
  | ty _=>cases m<;>cases hb
  | obj _=>cases m<;>cases hb
  | _=>rfl
 | n,m,.int x,b,_,hb=>by
  cases b with
  | int y=>simp only[toP,WY,eqD];rw[X2]
  | bl y=>simp only[toP,WY,eqD];rw[X2]
  | ty _=>cases m<;>cases hb
  | obj _=>cases m<;>cases hb
  | _=>rfl
 | n,m,.str x,b,_,hb=>by
  cases b with
  | str y=>simp only[toP,WY,eqD];exact str_beq x y
  | ty _=>cases m<;>cases hb
  | obj _=>cases m<;>cases hb
  | _=>rfl
 | n+1,m,.tup xs,b,ha,hb=>by
  cases b with
  | tup ys=>
   cases m with
   | zero=>cases hb
   | succ m=>simp only[toP,WY,eqD];exact su n m xs ys ha hb
  | ty _=>cases m<;>cases hb
  | obj _=>cases m<;>cases hb
  | _=>rfl
 | n+1,m,.ls xs,b,ha,hb=>by
  cases b with
  | ls ys=>
   cases m with
   | zero=>cases hb
   | succ m=>simp only[toP,WY,eqD];exact su n m xs ys ha hb
  | ty _=>cases m<;>cases hb
  | obj _=>cases m<;>cases hb
  | _=>rfl
 | 0,_,.tup ds,_,h,_=>by cases h
 | 0,_,.ls ds,_,h,_=>by cases h
 | n,_,.ty _,_,h,_=>by cases n<;>cases h
 | n,_,.obj _,_,h,_=>by cases n<;>cases h
theorem su:∀ (n m:Nat) (a b:List D),ck n a=true->ck m b=true->Y7 (nQ a) (nQ b)=hX a b
 | _,_,[],[],_,_=>rfl
 | _,_,[],_::_,_,_=>by simp[nQ,Y7,hX]
 | _,_,_::_,[],_,_=>by simp[nQ,Y7,hX]
 | n,m,a::r,b::s,ha,hb=>by
  have ha':okD n a=true/\ck n r=true:=by simpa[ck] using ha
  have hb':okD m b=true/\ck m s=true:=by simpa[ck] using hb
  show (WY (toP a) (toP b)&&Y7 (nQ r) (nQ s))=(eqD a b&&hX r s)
  rw[qV n m a b ha'.1 hb'.1,su n m r s ha'.2 hb'.2]
end
section
variable {X:Cx} {pins:List (Addr×Obj)} {σ:L2.St} {H:Hp} {s:UE}
mutual
theorem eo (I:Inv X pins σ H s):∀ {n:Nat} {v:V} {d:D} {u:UC},Dp X.K H v d->okD n d=true->RelV v u->∃ as,Reads s.heap u (toP d) as
 | n,_,_,u,.non,_,r=>by cases (show u=VO from r);exact ⟨_,.none⟩
 | n,_,_,u,.bl b,_,r=>by cases (show u=Zn b from r);exact ⟨_,.bool b⟩
 | n,_,_,u,.int i,_,r=>by obtain ⟨t,e⟩:=(show ∃ t,u=zad i t from r);subst e;exact ⟨_,.int i t⟩
 | n,_,_,u,.str x,_,r=>by obtain ⟨t,e⟩:=(show ∃ t,u=XB x t from r);subst e;exact ⟨_,.str x t⟩
 | n,_,_,u,.ty _,h,_=>by cases n<;>cases h
 | n+1,_,_,u,@Dp.tup _ _ a xs ds q l,h,r=>by
  cases (show u=Vs a from r)
  obtain ⟨its,rv,⟨o,e1,e2,k,e3⟩,_⟩:=I.tuple q
  obtain ⟨as,ra⟩:=jS I (n:=n) l h rv
  exact ⟨_,.tuple e1 e2 e3 (by simpa using ra)⟩
 | n+1,_,_,u,@Dp.ls _ _ a xs ds q l,h,r=>by
  cases (show u=Vs a from r)
  obtain ⟨its,rv,⟨o,k,e1,e2,_,e3⟩,_⟩:=I.list q.sq
  obtain ⟨as,ra⟩:=jS I (n:=n) l h rv
  exact ⟨_,.list e1 e2 e3 (by simpa using ra)⟩
 | 0,_,_,u,@Dp.tup _ _ a xs ds q l,h,r=>by cases h
 | 0,_,_,u,@Dp.ls _ _ a xs ds q l,h,r=>by cases h
 | n,_,_,u,.obj _,h,_=>by cases n<;>cases h
theorem jS (I:Inv X pins σ H s):∀ {n:Nat} {vs:List V} {ds:List D} {us:List UC},DpL X.K H vs ds->ck n ds=true->Vals vs us->∃ as,ReadsAll s.heap us (nQ ds) as
 | n,_,_,_,.nil,_,.nil=>⟨_,.nil⟩
 | n,_,_,_,@DpL.cons _ _ v d vs ds h l,ho,.cons r rs=>by
  have ho':okD n d=true/\ck n ds=true:=by simpa[ck] using ho
  obtain ⟨as,ra⟩:=eo I h ho'.1 r
  obtain ⟨bs,rb⟩:=jS I l ho'.2 rs
  exact ⟨_,.cons ra rb⟩
end
end
def MN (K:UB)(f:Bool->Bool):R2:=λx y H Q=>∃ dx dy,Dp K H x dx/\Dp K H y dy/\okD 40 dx=true/\okD 40 dy=true/\Q (.bl (f (eqD dx dy))) H
section
variable {X:Cx} {a b c e:U5} {Ta Tb Tc:ETr} {pos:Pos}
theorem Hm (hu:X.A.units+64 < cLine):OpR X (VG .Eq) (MN X.K id):=λpins s σ H x y v u Q I rx ry ⟨dx,dy,px,py,ox,oy,q⟩=>by
 obtain ⟨as,ra⟩:=eo I px ox rx
 obtain ⟨bs,rb⟩:=eo I py oy ry
 obtain ⟨l1,d1⟩:=iL 40 dx ox
 obtain ⟨l2,d2⟩:=iL 40 dy oy
 exact SeqAt.compareEq_reads ra rb l1 l2 (by have:=Yn (toP dx).depth (toP dy).depth;omega) ⟨.bl _,H,I,rfl,by rw[qV 40 40 dx dy ox oy];exact q⟩
theorem JS (hu:X.A.units+64 < cLine):OpR X (VG .NotEq) (MN X.K not):=λpins s σ H x y v u Q I rx ry ⟨dx,dy,px,py,ox,oy,q⟩=>by
 obtain ⟨as,ra⟩:=eo I px ox rx
 obtain ⟨bs,rb⟩:=eo I py oy ry
 obtain ⟨l1,d1⟩:=iL 40 dx ox
 obtain ⟨l2,d2⟩:=iL 40 dy oy
 exact SeqAt.compareNe_reads ra rb l1 l2 (by have:=Yn (toP dx).depth (toP dy).depth;omega) ⟨.bl _,H,I,rfl,by rw[qV 40 40 dx dy ox oy];exact q⟩
theorem He {K:UB}:dh K (MN K id) rEq:=λH μ x y dx dy Q Q' m px py h k=>⟨dx,dy,px,py,h.1.1,h.1.2,k _ H _ μ (.refl H) m (.bl _) h.2⟩
theorem Jt {K:UB}:dh K (MN K not) rNe:=λH μ x y dx dy Q Q' m px py h k=>⟨dx,dy,px,py,h.1.1,h.1.2,k _ H _ μ (.refl H) m (.bl _) h.2⟩
theorem le_eq (hu:X.A.units+64 < cLine)(ha:LE X a Ta)(hb:LE X b Tb):LE X (.Compare a [.Eq] [b] pos) (aq rEq Ta Tb):=gD (Hm hu) He ha hb (ff _)
theorem S5 (hu:X.A.units+64 < cLine)(ha:LE X a Ta)(hb:LE X b Tb):LE X (.Compare a [.NotEq] [b] pos) (aq rNe Ta Tb):=gD (JS hu) Jt ha hb (ff _)
theorem lt_eq (hu:X.A.units+64 < cLine)(ha:LE X a Ta)(hb:LE X b Tb):LT X (.Compare a [.Eq] [b] pos) (TB (aq rEq Ta Tb)):=jm (Hm hu) He ha hb (ff _)
theorem nD (hu:X.A.units+64 < cLine)(ha:LE X a Ta)(hb:LE X b Tb):LT X (.Compare a [.NotEq] [b] pos) (TB (aq rNe Ta Tb)):=jm (JS hu) Jt ha hb (ff _)
theorem G0 {K:UB}:dh K (λx y H Q=>y=.non/\Q (.bl (decide (x=.non))) H) rIs:=λH μ x y dx dy Q Q' m px py h k=>by
 cases py with
 | non=>
  refine ⟨rfl,?_⟩
  cases px with
  | non=>exact k _ H _ μ (.refl H) m (.bl _) h
  | _=>exact k _ H _ μ (.refl H) m (.bl _) h
 | _=>exact UG h
theorem Gr {K:UB}:dh K (λx y H Q=>y=.non/\Q (.bl (!decide (x=.non))) H) iR:=λH μ x y dx dy Q Q' m px py h k=>by
 cases py with
 | non=>
  refine ⟨rfl,?_⟩
  cases px with
  | non=>exact k _ H _ μ (.refl H) m (.bl _) h
  | _=>exact k _ H _ μ (.refl H) m (.bl _) h
 | _=>exact UG h
theorem Nt (ha:LE X a Ta)(hb:LE X b Tb):LE X (.Compare a [.Is] [b] pos) (aq rIs Ta Tb):=gD Kj G0 ha hb (ff _)
theorem vX (ha:LE X a Ta)(hb:LE X b Tb):LT X (.Compare a [.Is] [b] pos) (TB (aq rIs Ta Tb)):=jm Kj G0 ha hb (ff _)
theorem zg (ha:LE X a Ta)(hb:LE X b Tb):LT X (.Compare a [.IsNot] [b] pos) (TB (aq iR Ta Tb)):=jm LX Gr ha hb (ff _)
theorem wI {K:UB}{r r':R2}{R R':DR2}{ta tb tc:TE}(hr:dh K r R)(hr':dh K r' R')(ha:Sim K ta Ta)(hb:Sim K tb Tb)(hc:Sim K tc Tc):Sim K (Cu r r' ta tb tc) (gu R R' Ta Tb Tc):=λσ H ρ μ Q Q' rl h k=>
 ha σ H ρ μ _ _ rl h λx H1 dx μ1 t1 m1 p1 h1=>hb σ H1 ρ μ1 _ _ (rl.go t1 m1) h1 λy H2 dy μ2 t2 m2 p2 h2=>hr H2 μ2 x y dx dy _ _ m2 (p1.mono t2) p2 h2 λz H3 dz μ3 t3 m3 p3 h3=>by
  cases p3 with
  | bl q=>
   refine ⟨q,rfl,?_⟩
   have t13:=t1.trans (t2.trans t3)
   cases q with
   | true=>exact u9 (hc σ H3 ρ μ3 _ _ (rl.go t13 m3) h3 λw H4 dw μ4 t4 m4 p4 h4=>hr' H4 μ4 y w dy dw Q Q' m4 (p2.mono (t3.trans t4)) p4 h4 (k.go (t13.trans t4)))
   | false=>exact vp (k _ H3 _ μ3 t13 m3 (.bl _) h3)
  | _=>exact UG h3
theorem J8 {op op':zaR}{r r':R2}{R R':DR2}(ho:OpR X (VG op) r)(ho':OpR X (VG op') r')(hr:dh X.K r R)(hr':dh X.K r' R')(ha:LE X a Ta)(hb:LE X b Tb)(hc:LE X c Tc)
  (hm:zae [op,op'] [b,c]=false:=by with_unfolding_all rfl):LE X (.Compare a [op,op'] [b,c] pos) (gu R R' Ta Tb Tc):=by
 obtain ⟨ta,pa,sa⟩:=ha.ex
 obtain ⟨tb,pb,sb⟩:=hb.ex
 obtain ⟨tc,pc,sc⟩:=hc.ex
 exact ⟨_,Jh ho ho' pa pb pc hm,wI hr hr' sa sb sc⟩
theorem yp {o:Option D}{f:D->Prop}(h:kO o f):∃ d,o=some d/\f d:=by
 cases o with
 | none=>exact UG h
 | some d=>exact ⟨d,rfl,h⟩
theorem cJ {μ:Mu}{a:Addr}{f:List D->Prop}(h:kL μ a f):∃ ds,μ a=some (.lst ds)/\f ds:=by
 unfold kL at h
 cases e:μ a with
 | none=>rw[e] at h;exact UG h
 | some o=>cases o with
  | lst ds=>rw[e] at h;exact ⟨ds,rfl,h⟩
  | _=>rw[e] at h;exact UG h
theorem Dh {o:Option Nat}{f:Nat->Prop}(h:kN o f):∃ d,o=some d/\f d:=by
 cases o with
 | none=>exact UG h
 | some d=>exact ⟨d,rfl,h⟩
theorem Pr {K:UB}:dh K (L2.rIx K) L3.rIx:=λH μ x y dx dy Q Q' m px py h k=>by
 cases px with
 | @tup a xs ds q l=>
  cases py with
  | int i=>
   obtain ⟨d,e,h'⟩:=yp h
   obtain ⟨v,e1,p⟩:=l.at e
   exact .inr (.inl ⟨a,xs,i,v,rfl,rfl,q,e1,k _ H _ μ (.refl H) m p h'⟩)
  | _=>exact UG h
 | @ls a xs ds q l=>
  cases py with
  | int i=>
   obtain ⟨d,e,h'⟩:=yp h
   obtain ⟨v,e1,p⟩:=l.at e
   exact .inl ⟨a,xs,i,v,rfl,rfl,q.sq,e1,k _ H _ μ (.refl H) m p h'⟩
  | _=>exact UG h
 | obj a=>
  cases py with
  | int i=>
   obtain ⟨ds,e0,h1⟩:=cJ h
   obtain ⟨d,e,h'⟩:=yp h1
   obtain ⟨xs,ex,l⟩:=m a _ e0
   obtain ⟨v,e1,p⟩:=l.at e
   exact .inl ⟨a,xs,i,v,rfl,rfl,SqL.of ex,e1,k _ H _ μ (.refl H) m p h'⟩
  | _=>exact UG h
 | _=>cases py<;>exact UG h
theorem aA (ha:LE X a Ta)(hb:LE X b Tb)(hs:qQ b:=by intro _ _;rfl):LE X (.Subscript a b pos) (aq L3.rIx Ta Tb):=by
 obtain ⟨ta,pa,sa⟩:=ha.ex
 obtain ⟨tb,pb,sb⟩:=hb.ex
 exact ⟨_,Ij Qp pa pb hs,nK Pr sa sb⟩
variable {es:List U5} {At:ATr} {x:Str} {p:Pos} {id T:String}
def uV (K:UB)(r:List V->Hp->VK->Prop)(R:FSp):Prop:=∀ H μ xs ds (Q:DK) (Q':VK),cH K H μ->DpL K H xs ds->R ds μ Q->lL K H Q Q'->r xs H Q'
theorem vI {K:UB}{r:List V->Hp->VK->Prop}{R:FSp}{ta:TA}(hr:uV K r R)(ha:RR K ta At):Sim K (tCB r ta) (ao R At):=λσ H ρ μ Q Q' rl h k=>
 ha σ H ρ μ _ _ rl h λxs H1 ds μ1 t1 m1 p1 h1=>hr H1 μ1 xs ds Q Q' m1 p1 h1 (k.go t1)
theorem aO {r:List V->Hp->VK->Prop}{R:FSp}(hc:cj X (.builtin id) r)(hr:uV X.K r R)(hg:Gl X x)(hm:X.mg x=none)(hv:Vm x=some (.builtin id))(ha:LA X (e::es) At)(hn:x ≠ "__name__" := by decide)(hdb:(x == ("__debug__" : Str))=false:=by decide)
  (h1:UI (e::es) X.env=(false,VI e X.env)::UI es X.env:=by rfl) (h2:(Vr pos (UI es X.env)).any (·.1)=false:=by rfl):LE X (.Call (.Name x p) (e::es) [] pos) (ao R At):=by
 obtain ⟨ta,pa,sa⟩:=ha.ex
 exact ⟨_,nM hc hg hm hv pa hn hdb h1 h2,vI hr sa⟩
theorem aL {r:List V->Hp->VK->Prop}{R:FSp}(hc:cj X (.type T) r)(hr:uV X.K r R)(hg:Gl X x)(hm:X.mg x=none)(hv:Vm x=some (.type T))(ha:LA X (e::es) At)(hn:x ≠ "__name__" := by decide)(hdb:(x == ("__debug__" : Str))=false:=by decide)
  (h1:UI (e::es) X.env=(false,VI e X.env)::UI es X.env:=by rfl) (h2:(Vr pos (UI es X.env)).any (·.1)=false:=by rfl):LE X (.Call (.Name x p) (e::es) [] pos) (ao R At):=by
 obtain ⟨ta,pa,sa⟩:=ha.ex
 exact ⟨_,FV hc hg hm hv pa hn hdb h1 h2,vI hr sa⟩
theorem nF {K:UB}:uV K (λxs H Q=>∃ i,xs=[.int i]/\Q (.int (if i < 0 then -i else i)) H) xJ:=λH μ xs ds Q Q' m p h k=>by
 unfold xJ at h
 split at h
 ·cases p with | cons p1 p2=>cases p2;cases p1;exact ⟨_,rfl,k _ H _ μ (.refl H) m (.int _) h⟩
 ·exact UG h
theorem KS {K:UB}:uV K (λxs H Q=>(∃ i,xs=[.int i]/\Q (.int i) H)∨∃ k,xs=[.bl k]/\Q (.int (if k then 1 else 0)) H) Gu:=λH μ xs ds Q Q' m p h k=>by
 unfold Gu at h
 split at h
 ·cases p with | cons p1 p2=>cases p2;cases p1;exact .inl ⟨_,rfl,k _ H _ μ (.refl H) m (.int _) h⟩
 ·cases p with | cons p1 p2=>cases p2;cases p1;exact .inr ⟨_,rfl,k _ H _ μ (.refl H) m (.int _) h⟩
 ·exact UG h
theorem cj.or {f:UC}{r r':List V->Hp->VK->Prop}(h:cj X f r)(h':cj X f r'):cj X f (λxs H Q=>r xs H Q∨r' xs H Q):=λpins s σ H xs us Q I rx q=>by
 rcases q with q | q
 ·exact h pins s σ H xs us Q I rx q
 ·exact h' pins s σ H xs us Q I rx q
theorem bA {K:UB}:uV K (λxs H Q=>(∃ p ys,xs=[.ref p]/\(SqL K H p ys∨SqT K H p ys)/\Q (.int ys.length) H)∨∃ z,xs=[.str z]/\z.length<=sizeLine/\Q (.int z.length) H) cI:=λH μ xs ds Q Q' m p h k=>by
 unfold cI at h
 split at h
 ·cases p with | cons p1 p2=>cases p2;cases p1 with | tup q l=>exact .inl ⟨_,_,rfl,.inr q,k _ H _ μ (.refl H) m (by rw[l.length];exact .int _) h⟩
 ·cases p with | cons p1 p2=>cases p2;cases p1 with | ls q l=>exact .inl ⟨_,_,rfl,.inl q.sq,k _ H _ μ (.refl H) m (by rw[l.length];exact .int _) h⟩
 ·cases p with | cons p1 p2=>cases p2;cases p1;exact .inr ⟨_,rfl,big h.1,k _ H _ μ (.refl H) m (.int _) h.2⟩
 ·rename_i a
  cases p with | cons p1 p2=>
  cases p2;cases p1
  obtain ⟨ys,e0,h⟩:=cJ h
  obtain ⟨xs,ex,l⟩:=m a _ e0
  exact .inl ⟨_,_,rfl,.inl (SqL.of ex),k _ H _ μ (.refl H) m (by rw[l.length];exact .int _) h⟩
 ·exact UG h
theorem bb:cj X (.builtin "len") (λxs H Q=>(∃ p ys,xs=[.ref p]/\(SqL X.K H p ys∨SqT X.K H p ys)/\Q (.int ys.length) H)∨∃ z,xs=[.str z]/\z.length<=sizeLine/\Q (.int z.length) H):=cj.or xW yg
end
end
section
open PySem PySem.Spec PyProof.Rows L2
def tys:List String:=["NoneType", "bool", "int", "str", "tuple", "list"]
def Ai:List String:=["bool", "int", "str", "tuple", "list", "dict"]
theorem Ej (K:UB):∀ t∈tys,∀ c∈Ai,zbO K (.type t) (.type c)=some (bu t c):=by
 intro t ht c hc
 simp only[tys,UQ,U2,or_false] at ht
 simp only[Ai,UQ,U2,or_false] at hc
 rcases ht with rfl | rfl | rfl | rfl | rfl | rfl<;>rcases hc with rfl | rfl | rfl | rfl | rfl | rfl<;>with_unfolding_all rfl
theorem QW {d:D}{t:String}(h:tyD d=some t):t∈tys:=by
 cases d<;>simp[tyD] at h<;>subst h<;>decide
def NO (K:UB):List V->Hp->VK->Prop:=λxs H Q=>∃ x d t c,xs=[x,.ty c]/\Dp K H x d/\tyD d=some t/\c∈Ai/\Q (.bl (bu t c)) H
theorem zO {X:Cx}:cj X (.builtin "isinstance") (NO X.K):=λpins s σ H xs us Q I rx ⟨x,d,t,c,ex,px,et,hc,q⟩=>by
 subst ex
 cases rx with | @cons _ u _ _ r1 r2=>cases r2 with | cons r2 r3=>
 cases r3
 cases (show _=Zo c from r2)
 have e:=Ej X.K t (QW et) c hc
 have fin:∀ tk,EP X pins σ Q (.bool (bu t c)) { s with toks:=tk }:=λtk=>⟨.bl _,H,I.tok tk,rfl,q⟩
 cases px with
 | non=>cases et;cases (show u=VO from r1);exact Wq PySem.W.kitx_none I.kIn Xy e (λz=>nomatch z) fin
 | bl y=>cases et;cases (show u=Zn y from r1);exact Wq PySem.W.kitx_bool I.kIn Xy e (λz=>nomatch z) fin
 | int i=>cases et;obtain ⟨t,z⟩:=(show ∃ t,u=zad i t from r1);cases z;exact Wq PySem.W.kitx_int I.kIn Xy e (λz=>nomatch z) fin
 | str y=>cases et;obtain ⟨t,z⟩:=(show ∃ t,u=XB y t from r1);cases z;exact Wq PySem.W.kitx_str I.kIn Xy e (λz=>nomatch z) fin
 | ty _=>cases et
 | obj _=>cases et
 | @tup a xs ds sq l=>
  cases et
  cases (show u=Vs a from r1)
  obtain ⟨its,_,⟨o,h1,h2,_⟩,_⟩:=I.tuple sq
  exact Wq PySem.W.kitx_tuple I.kIn ⟨o,h1,h2⟩ e (λz=>nomatch z) fin
 | @ls a xs ds sq l=>
  cases et
  cases (show u=Vs a from r1)
  obtain ⟨its,_,⟨o,n,h1,h2,_⟩,_⟩:=I.list sq.sq
  exact Wq zaY I.kIn ⟨o,h1,h2⟩ e (λz=>nomatch z) fin
theorem fh {X:Cx}{x y:Str}{p p2 pos:Pos}{c:String}{e:U5}{Ta:ETr}(hg:Gl X x)(hm:X.mg x=none)(hv:Vm x=some (.builtin "isinstance"))(ha:LE X e Ta)(hg2:Gl X y)(hm2:X.mg y=none)(hv2:Vm y=some (.type c))(hc:c∈Ai:=by decide)
  (hn:x ≠ "__name__" := by decide) (hdb:(x == ("__debug__" : Str))=false:=by decide) (hn2:y ≠ "__name__" := by decide) (hdb2:(y == ("__debug__" : Str))=false:=by decide)
  (h0:UI [.Name y p2] X.env=[(false,VI (.Name y p2) X.env)]:=by rfl) (h1:UI (e::[.Name y p2]) X.env=(false,VI e X.env)::UI [.Name y p2] X.env:=by rfl) (h2:(Vr pos (UI [.Name y p2] X.env)).any (·.1)=false:=by rfl) :
  LE X (.Call (.Name x p) [e,.Name y p2] [] pos) (TUn (gm c) Ta):=by
 obtain ⟨ta,pa,sa⟩:=ha.ex
 refine ⟨_,nM zO hg hm hv (cG pa (cG (DX hg2 hm2 hv2 (v:=.ty c) rfl hn2 hdb2) gf h0) h1) hn hdb h1 h2,λσ H ρ μ Q Q' rl h k=>sa σ H ρ μ _ _ rl h λv H1 d μ1 t1 m1 p1 h1=>?_⟩
 have h1':(match tyD d with | some t=>Q (.bl (bu t c)) μ1 | none=>False):=h1
 cases et:tyD d with
 | none=>rw[et] at h1';exact UG h1'
 | some t=>rw[et] at h1';exact ⟨v,d,t,c,rfl,p1,et,hc,k _ H1 _ μ1 t1 m1 (.bl _) h1'⟩
section
variable {X:Cx} {a b c e tg o:U5} {Ta Tb Tc:ETr} {pos:Pos} {es:List U5} {At:ATr} {x:Str} {p:Pos} {id T:String} {st:Stmt} {rest:List Stmt} {T1 T2:STr} {tA:TTr}
theorem aF:LSs X [] aU:=⟨_,MK,λσ H ρ μ E E' rl h k=>k.nx _ _ _ _ (.refl H) rl h⟩
theorem ak (h1:LS X st T1)(h2:LSs X rest T2):LSs X (st::rest) (aD T1 T2):=by
 obtain ⟨t1,p1,s1⟩:=h1.ex
 obtain ⟨t2,p2,s2⟩:=h2.ex
 exact ⟨_,J6 p1 p2,λσ H ρ μ E E' rl h k=>s1 σ H ρ μ _ _ rl h ⟨λσ' H' ρ' μ' t' r' q=>s2 σ' H' ρ' μ' E E' r' q (k.go t'),k.rt,k.bk,k.ct⟩⟩
theorem au (h1:LS X st T1):LSs X [st] T1:=by
 obtain ⟨t1,p1,s1⟩:=h1.ex
 exact ⟨_,MX p1,s1⟩
theorem eK (he:LE X e Ta)(hs:YF e none pos.line X.env=pure false:=by rfl):LS X (.Expr e pos) (fA Ta):=by
 obtain ⟨ta,pa,sa⟩:=he.ex
 exact ⟨_,My pa hs,λσ H ρ μ E E' rl h k=>sa σ H ρ μ _ _ rl h λv H' d μ' t' m' p' h'=>k.nx _ _ _ _ t' (rl.go t' m') h'⟩
theorem ay (he:LE X e Ta):LS X (.Return (some e) pos) (aK Ta):=by
 obtain ⟨ta,pa,sa⟩:=he.ex
 exact ⟨_,Qa pa,λσ H ρ μ E E' rl h k=>sa σ H ρ μ _ _ rl h k.rt⟩
theorem ba {sa sb:List Stmt}(hc:LT X c tA)(ha:LSs X sa T1)(hb:LSs X sb T2):LS X (.If c sa sb pos) (bp tA T1 T2):=by
 obtain ⟨tc,pc,sc⟩:=hc.ex
 obtain ⟨t1,p1,s1⟩:=ha.ex
 obtain ⟨t2,p2,s2⟩:=hb.ex
 refine ⟨_,SV pc p1 p2,λσ H ρ μ E E' rl h k=>sc σ H ρ μ _ _ rl h λq H1 μ1 t1' m1 h1=>?_⟩
 cases q with
 | true=>exact u9 (s1 σ H1 ρ μ1 E E' (rl.go t1' m1) h1 (k.go t1'))
 | false=>exact vp (s2 σ H1 ρ μ1 E E' (rl.go t1' m1) h1 (k.go t1'))
theorem og {K:UB}(i:Nat):Qo K (rj i) (ax i):=λσ H ρ μ v d k k' rl p h q=>q _ _ _ _ (.refl H) (rl.set p i) h
theorem qM (i:Nat)(hN:X.N.Nodup)(hi:X.N[i]? = some x:=by rfl)(hx:Loc X.env.scope x:=by first | exact ZC rfl | exact YQ rfl)(hf:X.fn x=true∨X.env.scope.names.lookup x=some .local:=by first | exact .inl rfl | exact .inr rfl | assumption):LG X (.Name x pos) (ax i):=
 ⟨_,nG hN hi hx hf,og i⟩
theorem aG (i:Nat){pos':Pos}(hN:X.N.Nodup)(he:LE X e Ta)(hi:X.N[i]? = some x:=by rfl)(hx:Loc X.env.scope x:=by first | exact ZC rfl | exact YQ rfl)(hs:YF e (some (.Name x pos')) pos.line X.env=pure false:=by rfl)
  (hf:X.fn x=true∨X.env.scope.names.lookup x=some .local:=by first | exact .inl rfl | exact .inr rfl | assumption):LS X (.Assign [.Name x pos'] e pos) (aZ Ta (ax i)):=by
 obtain ⟨ta,pa,sa⟩:=he.ex
 exact ⟨_,N2 hN hi hx pa hs hf,λσ H ρ μ E E' rl h k=>sa σ H ρ μ _ _ rl h λv H' d μ' t' m' p' h'=>og i σ H' ρ μ' v d _ _ (rl.go t' m') p' h' (k.go t').nx⟩
theorem GB (i j:Nat){y:Str}{px py pt:Pos}{kt k2 pt2}(hc:X.calm=true)(hN:X.N.Nodup)(ha:LA X [a,b] At)(hi:X.N[i]? = some x:=by rfl)(hj:X.N[j]? = some y:=by rfl)(hij:i≠j:=by decide)
  (hx:X.env.scope.names.lookup x=some .local:=by rfl) (hy:X.env.scope.names.lookup y=some .local:=by rfl)
  (hw:Yc [.Tuple [.Name x px,.Name y py] kt pt] (.Tuple [a,b] k2 pt2) X.env=pure (some [x,y]):=by rfl)
  (hs:Yb [.Tuple [.Name x px,.Name y py] kt pt] (.Tuple [a,b] k2 pt2) pos.line X.env=pure false:=by rfl) :
  LS X (.Assign [.Tuple [.Name x px,.Name y py] kt pt] (.Tuple [a,b] k2 pt2) pos) (Di i j At):=by
 obtain ⟨ta,pa,sa⟩:=ha.ex
 refine ⟨_,Pa hc hN hi hj hij hx hy pa hw hs,λσ H ρ μ E E' rl h k=>sa σ H ρ μ _ _ rl h λvs H' ds μ' t' m' p' h'=>?_⟩
 unfold L3.k2 at h'
 split at h'
 ·rename_i dv dw
  cases p' with | cons p1 p2=>cases p2 with | cons p2 p3=>
  cases p3
  exact ⟨_,_,rfl,k.nx _ _ _ _ t' (((rl.go t' m').set p1 i).set p2 j) h'⟩
 ·exact UG h'
theorem kr {Tk':ETr}{tpos:Pos}(ho:LE X o Ta)(hi:LE X b Tk')(he:LE X e Tb)
  (ha:∀ v,YH (.Subscript o b tpos) X.env v=(do
   let ov ← Y0 [v] (VI o X.env)
   let iv ← Y0 [v,ov] (VI b X.env)
   standAt tpos
   Y0 [v,ov,iv] (setItem ov iv v)
   release [v,ov,iv] []):=by intro _;rfl)
  (hs:Yb [.Subscript o b tpos] e pos.line X.env=pure false:=by rfl) (hw:Yc [.Subscript o b tpos] e X.env=pure none:=by rfl)
  (h1:(V1 [.Subscript o b tpos] X.env).map (·.2)=[YH (.Subscript o b tpos) X.env]:=by rfl):LS X (.Assign [.Subscript o b tpos] e pos) (eT Ta Tk' Tb):=by
 obtain ⟨to,po,so⟩:=ho.ex
 obtain ⟨ti,pi,si⟩:=hi.ex
 obtain ⟨te,pe,se⟩:=he.ex
 refine ⟨_,GK pe (QG po pi set_list ha) hs hw h1,λσ H ρ μ E E' rl h k=>se σ H ρ μ _ _ rl h λy H1 dy μ1 t1 m1 p1 h1=>so σ H1 ρ μ1 _ _ (rl.go t1 m1) h1 λov H2 dov μ2 t2 m2 p2 h2=>
  si σ H2 ρ μ2 _ _ (rl.go (t1.trans t2) m2) h2 λiv H3 div μ3 t3 m3 p3 h3=>?_⟩
 cases p2 with
 | obj q=>
  cases p3 with
  | int n=>
   obtain ⟨ds,e0,h3'⟩:=cJ h3
   obtain ⟨j,e1,h4⟩:=Dh h3'
   obtain ⟨xs,ex,l⟩:=m3 q _ e0
   refine ⟨q,xs,n,j,rfl,rfl,ex,by rw[l.length];exact e1,?_⟩
   have t4:Tk H3 (L2.upd H3 q (.lst (xs.set j y))):=.upd (λys z=>by rw[ex] at z;cases z) λo' u z=>by rw[ex] at z;cases z
   have t14:=t1.trans (t2.trans (t3.trans t4))
   refine k.nx _ _ ρ _ t14 (rl.go t14 (λa' o' e'=>?_)) h4
   by_cases haq:a'=q
   ·subst haq
    rw[bh] at e';cases e'
    exact ⟨_,bc,(l.set (p1.mono (t2.trans t3)) j).mono t4⟩
   ·rw[bQ haq] at e'
    exact (m3 a' _ e').ne t4 haq
  | _=>exact UG h3
 | _=>cases p3<;>exact UG h3
theorem y3 {body:List Stmt}(hp:zbd (U1 X.prog X.w) X.A X.env X.xe)(hc:LT X c tA)(hb:LSs X body T1):LS X (.While c body [] pos) (Cv tA T1):=by
 obtain ⟨tc,pc,sc⟩:=hc.ex
 obtain ⟨t1,p1,s1⟩:=hb.ex
 refine ⟨_,Ja hp pc p1,λσ H ρ μ E E' rl h k=>?_⟩
 obtain ⟨P,m,h0,hs⟩:=h
 refine ⟨λn σ' H'=>∃ ρ' μ',Tk H H'/\Rl X.K σ' H' ρ' μ'/\P ρ' μ'/\n=m ρ' μ',⟨_,ρ,μ,.refl H,rl,h0,rfl⟩,?_⟩
 rintro n σ1 H1 ⟨ρ1,μ1,t1',rl1,hP,rfl⟩
 refine sc σ1 H1 ρ1 μ1 _ _ rl1 (hs ρ1 μ1 hP) λq H2 μ2 t2 m2 h2=>?_
 have t12:=t1'.trans t2
 cases q with
 | true=>
  refine u9 ⟨λσ' H'=>∃ ρ' μ',Tk H H'/\Rl X.K σ' H' ρ' μ'/\P ρ' μ'/\m ρ' μ' < m ρ1 μ1,λσ' H' ⟨ρ',μ',a1,a2,a3,a4⟩=>⟨_,a4,ρ',μ',a1,a2,a3,rfl⟩,?_⟩
  have h2':=h2
  refine s1 σ1 H2 ρ1 μ2 _ _ (rl1.go t2 m2) h2' ⟨λσ' H' ρ' μ' t' r' q=>⟨ρ',μ',t12.trans t',r',q.1,q.2⟩,(k.go t12).rt,(k.go t12).nx,λσ' H' ρ' μ' t' r' q=>⟨ρ',μ',t12.trans t',r',q.1,q.2⟩⟩
 | false=>exact vp (k.nx _ _ _ _ t12 (rl1.go t2 m2) h2)
theorem kD (lo:Int)(n:Nat):dQ lo (n+1)=.int lo::dQ (lo+1) n:=by
 unfold dQ
 rw[List.range_succ_eq_map]
 rw[Vt,Vg]
 congr 1
 ·simp
 ·refine zaj λi _=>?_
  show D.int _=D.int _
  congr 1
  show lo+((i+1:Nat):Int)=lo+1+(i:Int)
  omega
end
def lift (K:UB)(sp:FSp):Sp:=λvs H Q _=>∃ ds μ QQ,DpL K H vs ds/\cH K H μ/\sp ds μ QQ/\lL K H QQ Q
def RT (Q:DK):DK:=λd μ'=>∃ μ,Sub μ μ'/\Q d μ
def ini (n:Nat)(ds:List D):ST:=ds.map some++Vb (n - ds.length) none
theorem Pf:∀ (ds:List D) (n i:Nat) (d:D),lk (ini n ds) i=some d->ds[i]? = some d:=by
 intro ds
 have rep:∀ m i (d:D),lk (Vb m none) i=some d->False:=by
  intro m
  induction m with
  | zero=>intro i d h;cases i<;>cases h
  | succ m ih=>intro i d h;cases i with
   | zero=>cases h
   | succ i=>exact ih i d h
 have gen:∀ (ds:List D) m i d,lk (ds.map some++Vb m none) i=some d->ds[i]? = some d:=by
  intro ds
  induction ds with
  | nil=>intro m i d h;exact (rep m i d h).elim
  | cons x r ih=>intro m i d h;cases i with
   | zero=>simpa[lk] using h
   | succ i=>simpa using ih m i d h
 exact λn i d h=>gen ds _ i d h
section
variable {P:UT} {w:Va} {K:UB} {mg:Str->Option UC} {base:Heap}
theorem IS {x qual:Str}{st:Stmt}{f:Addr}{fd:US}{N ps:List Str}{k:Nat}{sp:FSp}{T:STr}(F:Fun K x qual st f fd)(S:aE N ps (aw st))(len:∀ ds μ Q,sp ds μ Q->ds.length=ps.length)
  (hb:∀ (cdv:UC) (A:U9) (outer:List Env) (s:UE) (H:Hp) (E:XK),gx k (A.deeper (YK qual (aw st) s.heap.objs.size f cdv))->
   LSs (BM CX0 P w K mg base N qual (aw st) f cdv A outer s H E).nox (gA st) T)
  (hr:∀ ds μ Q,sp ds μ Q->T { nx:=λ_ μ'=>RT Q .non μ',rt:=RT Q } (ini N.length ds) μ):jK P w K mg base CX0 (k+1) f fd ps (lift K sp):=by
 refine F.ok S (λvs H Q E h=>?_) (λcdv A outer s H vs Q E hroom h=>?_)
 ·obtain ⟨ds,μ,QQ,l,m,h1,k⟩:=h
  rw[l.length];exact len ds μ QQ h1
 ·obtain ⟨ds,μ,QQ,l,m,h1,k⟩:=h
  obtain ⟨t,pt,stt⟩:=(hb cdv A outer s H E hroom).ex
  have hl:vs.length=ds.length:=l.length
  refine ⟨t,pt,stt (L2.start N vs) H (ini N.length ds) μ _ _ ⟨?_,λi d e=>?_,m⟩ (hr ds μ QQ h1) ⟨λσ' H' ρ' μ' t' r' q=>?_,λv H' d μ' t' m' p' q=>?_,λ_ _ _ _ _ _ q=>q,λ_ _ _ _ _ _ q=>q⟩⟩
  ·unfold ini L2.start;simp[hl]
  ·have e':=Pf ds _ i d e
   obtain ⟨v,e1,p⟩:=l.get e'
   refine ⟨v,?_,p⟩
   unfold L2.start
   have hi:i < vs.length:=(VJ.mp e1).1
   rw[Xq (by simpa using hi),VB,e1]
   rfl
  ·obtain ⟨μ2,s2,q2⟩:=q
   exact k _ _ _ μ2 t' (r'.mu.sub s2) .non q2
  ·obtain ⟨μ2,s2,q2⟩:=q
   exact k _ _ _ μ2 t' (m'.sub s2) p' q2
end
section
variable {X:Cx} {k:Nat} {f:Addr} {fd:US} {ps:List Str} {sp:FSp} {x:Str} {p pos:Pos} {e:U5} {es:List U5} {At:ATr}
theorem D8 (F:jK X.prog X.w X.K X.mg X.base CX0 k f fd ps (lift X.K sp))(hr:gx k X.A)(hg:Gl X x)(hm:X.mg x=some (.ref f))(hk:XR X.K (.ref f)=true)(hb:Binds X.K fd ps [])
  (ha:LA X (e::es) At) (hdb:(x == ("__debug__" : Str))=false:=by decide) (he:UI (e::es) X.env=(false,VI e X.env)::UI es X.env:=by rfl) (hpl:(Vr pos (UI es X.env)).any (·.1)=false:=by rfl) :
  LE X (.Call (.Name x p) (e::es) [] pos) (ao sp At):=by
 obtain ⟨ta,pa,sa⟩:=ha.ex
 refine ⟨_,MT F hr hg hm hk hb .nil S3 pa hdb he hpl,λσ H ρ μ Q Q' rl h k=>sa σ H ρ μ _ _ rl h λxs H1 ds μ1 t1 m1 p1 h1=>?_⟩
 rw[Ve]
 exact ⟨ds,μ1,Q,p1,m1,h1,k.go t1⟩
end
end
section
open PySem PySem.Spec PyProof.Rows L2
theorem DpL.ints {K:UB}{H:Hp}:∀ ns:List Int,DpL K H (ns.map V.int) (ns.map D.int)
 | []=>.nil
 | n::r=>.cons (.int n) (DpL.ints r)
theorem SqF.only {K:UB}{H:Hp}{a:Addr}{xs:List V}(hO:Mx H)(h:SqL K H a xs):SqF K H a xs:=by
 rcases h with (h | h) | h
 ·rcases hO a with z | ⟨o,ys,z⟩
  ·rw[h] at z;cases z
  ·rw[h] at z;cases z
 ·exact .inl h
 ·exact .inr h
theorem Sv {l:ZJ}{k:Nat}{q:UT}{loose:List Str}{XP:(Str->Option UC)->Heap->Prop}{YP:Va->Heap->Prop}{d:DefRec}{K:zbg->UB}{sp:FSp}{x:Str}
  (hn:l.most=some 63) (hdf:d.params.defaults=[]) (hr:gx k ZA) (hY:∀ (w:Va) (h:Heap),YP w h->(K w.params).In h)
  (hl:∀ ns:List Int,ns.length<=63->∀ μ,sp [.ls (ns.map .int)] μ (λd _=>d=.bl true))
  (F:∀ (w:Va) (mg:Str->Option UC) (fa:Addr) (h:Heap),(K w.params).In h->h.Ns VM mg->mg d.name=some (.ref fa)->
   ∃ fd:US,(∀ (s:UE) (u:UC),zaS s fd ⟨[u],[]⟩ [(x,u)])/\∀ base:Heap,(K w.params).In base->base.Ns VM mg->jK l.prog w (K w.params) mg base CX0 k fa fd [x] (lift (K w.params) sp)) :
  zb2 q loose XP YP l.row.toRowW d [] (λf vs=>YO f vs):=
 L2.Ms (n:=63) (k:=k) (x:=x) (CX:=λ_=>CX0) (sp:=λw=>lift (K w.params) sp) hn (by decide) hdf hr hY F
  (λw H a ns hl' hO hS=>⟨[.ls (ns.map .int)],λ_=>none,_,.cons (.ls (.only hO hS) (.ints ns)) .nil,(λa o e=>by cases e),hl ns hl' _,λv H' d μ' _ _ p e=>by
   have e':d=.bl true:=e
   subst e'
   cases p;rfl⟩) λ_ _ _ _ _ z=>z
end
section
open PySem PySem.Spec PyProof.Rows L2
def scB (N P:List Str)(sc:Scope):Bool:=decide N.Nodup&&decide (∀ x∈P,sc.names.lookup x=some .local∨sc.names.lookup x=some .cell)&&decide (∀ y∈sc.names,y.2≠.free)
theorem SF {N P:List Str}{sc:Scope}(h1:sc.kind=.function)(h2:sc.isCoroutine=false)(h3:sc.isGenerator=false)(h4:N.take P.length=P)(h:scB N P sc=true):aE N P sc:=by
 unfold scB at h
 rw[UM,UM] at h
 exact ⟨h1,h2,h3,of_decide_eq_true h.1.1,h4,of_decide_eq_true h.1.2,of_decide_eq_true h.2⟩
structure aR (P:UT) (w:Va) (K:UB) (mg:Str->Option UC) (base:Heap) (k:Nat) (x:Str) (ps:List Str) (sp:FSp):Prop where
 ex:∃ f fd,jK P w K mg base CX0 k f fd ps (lift K sp)/\mg x=some (.ref f)/\XR K (.ref f)=true/\Binds K fd ps []
section
variable {P:UT} {w:Va} {K:UB} {mg:Str->Option UC} {base:Heap}
theorem aH {x qual:Str}{st:Stmt}{f:Addr}{fd:US}{N ps:List Str}{k:Nat}{sp:FSp}{T:STr}(m:mg x=some (.ref f))(F:Fun K x qual st f fd)(S:aE N ps (aw st))(len:∀ ds μ Q,sp ds μ Q->ds.length=ps.length)
  (hr:∀ ds μ Q,sp ds μ Q->T { nx:=λ_ μ'=>RT Q .non μ',rt:=RT Q } (ini N.length ds) μ)
  (b:∀ (kV doc pm:UC) (an:Option Addr) (cdv ct:UC) (us:List UC),us.length=ps.length->bindArgs (Xo x qual (nj st) (gA st) (aw st) .none kV doc pm an cdv ct) ⟨us,[]⟩=pure (ps.zip us))
  (hb:∀ (cdv:UC) (A:U9) (outer:List Env) (s:UE) (H:Hp) (E:XK),gx k (A.deeper (YK qual (aw st) s.heap.objs.size f cdv))->(A.deeper (YK qual (aw st) s.heap.objs.size f cdv)).units+64 < cLine->
   LSs (BM CX0 P w K mg base N qual (aw st) f cdv A outer s H E).nox (gA st) T):aR P w K mg base (k+1) x ps sp:=
 ⟨f,fd,IS F S len (λcdv A outer s H E h=>hb cdv A outer s H E h h.units) hr,m,F.kp,F.binds b⟩
end
theorem aj {X:Cx}{k n:Nat}{x:Str}{ps:List Str}{sp:FSp}{e:U5}{es:List U5}{At:ATr}{p pos:Pos}(C:aR X.prog X.w X.K X.mg X.base k x ps sp)(hr:gx n X.A)(hg:Gl X x)
  (ha:LA X (e::es) At) (hle:k<=n:=by decide) (hdb:(x == ("__debug__" : Str))=false:=by decide) (he:UI (e::es) X.env=(false,VI e X.env)::UI es X.env:=by rfl) (hpl:(Vr pos (UI es X.env)).any (·.1)=false:=by rfl) :
  LE X (.Call (.Name x p) (e::es) [] pos) (ao sp At):=by
 obtain ⟨f,fd,F,m,kp,b⟩:=C.ex
 exact D8 F (hr.mono hle) hg m kp b ha hdb he hpl
end
section
open PySem PySem.Spec PyProof.Rows L2
def bR (X:Cx)(scope:Scope)(Nc:List Str)(cl:List (Str×Addr))(C:Addr)(s₀:UE)(H₀:Hp)(ex:List Addr):Cx:=
 { X with env:=zbP scope cl C X.env,N:=Nc,s₀:=s₀,H₀:=H₀,outer:=X.stack,ex:=ex,fn:=λ_=>false,pn:=[] }
theorem CM {scope:Scope}{env:Env}(h:∀ y∈scope.names,y.2=.free->∃ c,env.cells.lookup y.1=some c) :
  ∃ cl,closureFor scope env=pure cl/\(∀ x c,cl.lookup x=some c->env.cells.lookup x=some c)/\∀ y∈scope.names,y.2=.free->∃ c,cl.lookup y.1=some c:=by
 have gen:∀ (ns:List (Str×Yf)) (cs:List (Str×Addr)),(∀ y∈ns,y.2=.free->∃ c,env.cells.lookup y.1=some c)->(∀ x c,cs.lookup x=some c->env.cells.lookup x=some c)->
   ∃ cl,(forIn ns cs λx r=>if (x.2 == Wi)=true then do let c ← cellOf env x.1;pure (Wr ((x.1,c)::r)) else pure (Wr r):Sem _)=pure cl/\(∀ x c,cl.lookup x=some c->env.cells.lookup x=some c)/\
    (∀ x,(cs.lookup x).isSome=true->(cl.lookup x).isSome=true)/\∀ y∈ns,y.2=.free->∃ c,cl.lookup y.1=some c:=by
  intro ns
  induction ns with
  | nil=>intro cs _ h2;exact ⟨cs,rfl,h2,λ_ z=>z,λ_ z=>nomatch z⟩
  | cons y r ih=>
   intro cs h1 h2
   obtain ⟨n,k⟩:=y
   by_cases hk:k=.free
   ·subst hk
    obtain ⟨c,hc⟩:=h1 (n,.free) UK rfl
    have h2':∀ x c',((n,c)::cs).lookup x=some c'->env.cells.lookup x=some c':=λx c' e=>by
     rw[Wh] at e
     split at e
     ·rename_i hx
      cases e
      have:x=n:=by simpa using hx
      subst this;exact hc
     ·exact h2 x c' e
    obtain ⟨cl,e1,e2,e3,e4⟩:=ih ((n,c)::cs) (λy hy=>h1 y (UN _ hy)) h2'
    refine ⟨cl,?_,e2,λx hx=>e3 x ?_,λy hy hf=>?_⟩
    ·rw[Yo]
     have:cellOf env n=pure c:=by unfold cellOf;rw[hc]
     simp only[beq_self_eq_true,if_true,this,pure_bind]
     exact e1
    ·rw[Wh];split
     ·rfl
     ·exact hx
    ·obtain rfl | hy:=UQ.mp hy
     ·have:(cl.lookup n).isSome=true:=e3 n (by simp[Wh])
      exact Xv.mp this
     ·exact e4 y hy hf
   ·obtain ⟨cl,e1,e2,e3,e4⟩:=ih cs (λy hy=>h1 y (UN _ hy)) h2
    refine ⟨cl,?_,e2,e3,λy hy hf=>?_⟩
    ·rw[Yo]
     have:(k == Wi)=false:=by simpa using hk
     simp only[this,W9,if_false,pure_bind]
     exact e1
    ·obtain rfl | hy:=UQ.mp hy
     ·exact absurd hf hk
     ·exact e4 y hy hf
 obtain ⟨cl,e1,e2,_,e4⟩:=gen scope.names [] h λx c e=>by cases e
 refine ⟨cl,?_,e2,e4⟩
 show ((forIn scope.names ([]:List (Str×Addr)) λx r=>if (x.2 == Wi)=true then do let c ← cellOf env x.1;pure (Wr ((x.1,c)::r)) else pure (Wr r):Sem _) >>= λs=>pure s)=pure cl
 rw[e1]
 rfl
def CG (Y:Cx)(ifs:List U5)(t:TT):Prop:=
 ∀ (pins:List (Addr×Obj)) (s:UE) (σ:L2.St) (H:Hp) (Q:Bool->Hp->Prop),Inv Y pins σ H s->t σ H Q->
  UU (U1 Y.prog Y.w) Y.A (forIn ifs true λc r=>if r=true then do let ok ← isTrue c Y.env (VI c Y.env);pure (Wr ok) else pure (Wr r)) (TP Y pins σ Q) Y.xe s
def T9:TT:=λ_ H Q=>Q true H
theorem MF {Y:Cx}:CG Y [] T9:=λpins s σ H Q I h=>wpAny_tests_nil ⟨H,I,h⟩
theorem ME {Y:Cx}{c:U5}{t:TT}(h:PT Y c t):CG Y [c] t:=λpins s σ H Q I hh=>wpAny_tests_one (h pins s σ H Q I hh)
def mJ (σ:L2.St)(n:Nat)(caps:List Nat):L2.St:=Vb n none++caps.map λi=>(σ[i]?).join
def Wk (σ' σ:L2.St):Prop:=σ'.length=σ.length/\∀ (i:Nat) v,σ'[i]? = some (some v)->σ[i]? = some (some v)
def tU (wi:TI)(g:TG)(tt:TT)(te:TE)(n:Nat)(caps:List Nat):TE:=λσ H Q=>wi σ H λJ H1=>∀ D,H1 D=none->
 ∃ W:Nat->Nat->List V->Hp->Prop,(∃ m,W 0 m [] (L2.upd H1 D (.lst [])))/\∀ i m ys H2,W i m ys H2->
  (J.stop i H2/\Q (.ref D) H2)∨(J.go i H2/\∃ N:List V->Hp->Prop,(∀ ys' H',N ys' H'->∃ m',m' < m/\W (i+1) m' ys' H')/\
   ∀ x H3,J.yld i H2 x H3->g x (mJ σ n caps) H3 λσ4 H4=>Wk (mJ σ n caps) σ4/\tt σ4 H4 λb H5=>if b=true then te σ4 H5 λy H6=>∃ zs,H6 D=some (.lst zs)/\zs.length < sizeLine/\N (zs++[y]) (L2.upd H6 D (.lst (zs++[y]))) else N ys H5)
theorem FP {prog:UT}{w:Va}{A:U9}{R:zbJ->UE->Prop}{s:UE}{elt target iter:U5}{ifs:List U5}{scope:Scope}{pos:Pos}{it acc:UC}{env:Env}(J:Nat->UE->Prop)
  (turn:∀ n s,J n s->UU (U1 prog w) A (Xf it) (λo t₁=>match o with
   | none=>R (.ok .next) t₁
   | some v=>UU (U1 prog w) A (Ym target it v) (λ_ t₁=>UU (U1 prog w) A (YH target env v) (λ_ t₂=>
     UU (U1 prog w) A (forIn ifs true λc r=>
      if r=true then do let ok ← isTrue c env (VI c env);pure (Wr ok) else pure (Wr r)) (λok t₃=>
      if ok=true then UU (U1 prog w) A (VI elt env) (λx t₄=>
       UU (U1 prog w) A (call (.builtin "list.append") [acc,x]) (λ_ t₅=>∃ m,m < n/\J m t₅) (λ_ _=>False) t₄) (λ_ _=>False) t₃
      else ∃ m,m < n/\J m t₃) (λ_ _=>False) t₂) (λ_ _=>False) t₁) (λ_ _=>False) t₁) (λ_ _=>False) s)
  (n:Nat) (h:J n s):Xh (U1 prog w) A (.compLoop (.ListComp elt [⟨target,iter,ifs,0⟩] scope pos) 0 it acc env) R s:=by
 refine codeAny_loop rfl J (λn s hJ=>?_) n h
 show UU _ A ((compTurn (.ListComp elt [⟨target,iter,ifs,0⟩] scope pos) 0 it acc env).onRaise
  (λx=>do noteFrame x env;theTreesLotGoes x)) _ _ s
 refine wpAny_noted ?_
 rw[compTurn_list]
 refine wpAny_bind (Y5 (wpAny_bind (Wg (turn n s hJ) (λr t₁ g₁=>?_) λ_ _ h'=>h'.elim)))
 cases r with
 | none=>exact wpAny_pure g₁
 | some v=>
  refine wpAny_bind (Wg g₁ (λ_ t₁' g₁'=>?_) λ_ _ h'=>h'.elim)
  refine wpAny_bind (Wg g₁' (λ_ t₂ g₂=>wpAny_bind (Wg g₂ (λok t₃ g₃=>?_) λ_ _ h'=>h'.elim)) λ_ _ h'=>h'.elim)
  cases ok with
  | false=>exact wpAny_pure ⟨rfl,g₃⟩
  | true=>
   exact wpAny_bind (wpAny_bind (Wg g₃ (λx t₄ g₄=>wpAny_bind (Wg g₄ (λ_ t₅ g₅=>wpAny_pure (wpAny_pure ⟨rfl,g₅⟩)) λ_ _ h'=>h'.elim)) λ_ _ h'=>h'.elim))
theorem tG {σ:L2.St}{n:Nat}{caps:List Nat}{i:Nat}{v:V}(h:(mJ σ n caps)[i]? = some (some v)):∃ j k,i=n+j/\caps[j]? = some k/\σ[k]? = some (some v):=by
 unfold mJ at h
 by_cases hi:i < n
 ·rw[Xq (by simpa using hi),Ze,if_pos hi] at h
  cases h
 ·rw[VR (by simpa using hi)] at h
  rw[We,VB] at h
  cases e:caps[i - n]? with
  | none=>rw[e] at h;cases h
  | some k=>
   rw[e] at h
   have h':(σ[k]?).join=some v:=VF h
   cases e2:σ[k]? with
   | none=>rw[e2] at h';cases h'
   | some o=>
    rw[e2] at h'
    have h'':o=some v:=h'
    subst h''
    exact ⟨i - n,k,by omega,e,e2⟩
theorem fI {env:Env}(hk:env.scope.kind=.function):∀ {names:List (Str×Yf)} {x:Str},env.kindOf x=some .cell->names.lookup x=some .free->
  (names.map λ(n,k)=>if (k == Wi&&env.scope.kind == .function&&env.kindOf n == some .cell) then (n,zat) else (n,k)).lookup x=some .cell
 | [],_,_,h=>by simp at h
 | (n,k)::r,x,hc,h=>by
  have ih:=@fI env hk r x hc
  show List.lookup x ((if (k == Wi&&env.scope.kind == .function&&env.kindOf n == some .cell)=true
   then (n,zat) else (n,k))::_)=_
  cases hx:x == n with
  | true=>
   simp only[hx,Wh] at h
   cases h
   have e:x=n:=by simpa using hx
   subst e
   simp[Wh,hk,hc]
  | false=>
   simp only[hx,Wh] at h
   by_cases hcc:(k == Wi&&env.scope.kind == .function&&env.kindOf n == some .cell)=true
   ·rw[if_pos hcc];simp only[Wh,hx];exact ih h
   ·rw[if_neg hcc];simp only[Wh,hx];exact ih h
theorem oU {env:Env}:∀ {names:List (Str×Yf)} {x:Str} {k':Yf},(∀ y∈names,y.2≠.cell)->(k'=.cell∨k'=.free)->
  (x,k')∈(names.map λ(n,k)=>if (k == Wi&&env.scope.kind == .function&&env.kindOf n == some .cell) then (n,zat) else (n,k))->(x,Wi)∈names:=by
 intro names x k' hn hk h
 obtain ⟨⟨n,k⟩,hm,e⟩:=U3.mp h
 dsimp only at e
 split at e
 ·rename_i hc
  cases e
  have:k=.free:=by simp at hc;exact hc.1.1
  subst this;exact hm
 ·cases e
  rcases hk with rfl | rfl
  ·exact absurd rfl (hn _ hm)
  ·exact hm
theorem JX {X:Cx}{pins:List (Addr×Obj)}{σ:L2.St}{H H5:Hp}{s:UE}{C:Addr}{h':Heap}(I:Inv X pins σ H s)(f0:H C=none)(fC:rq X pins H5 C)(hs:Wu C s.heap h'):Inv X pins σ H { s with heap:=h' }:=by
 have keep:∀ b o',b≠C->s.heap.get? b=some o'->h'.get? b=some o':=λb o' hb e'=>(hs.2 b hb).trans e'
 refine I.N1 (ch:=[C]) (s':={ s with heap:=h' }) rfl ⟨λb o' e' _ _ nx=>keep b o' (λz=>nx (by rw[z];exact UK)) e',λb o' e' _ _ nx=>⟨o'.slots,keep b o' (λz=>nx (by rw[z];exact UK)) e'⟩,λb o' _ w _=>w,λb o' e' nx=>⟨o',keep b o' (λz=>nx (by rw[z];exact UK)) e'⟩,λb ys e'=>e',λb o' u e'=>e',λb ps e'=>⟨#[],by simpa using e'⟩⟩ (λb u e'=>?_) I.bare λb hb=>?_
 ·refine (I.hok b u e').rY (λc w' hc q=>keep c w' ?_ q) (λ_ q=>q) λ_ _ q=>q
  rintro rfl
  rcases hc with z | z
  ·rw[← z,f0] at e';cases e'
  ·rw[f0] at z;cases z
 ·cases UZ.mp hb
  exact ⟨fC.2.2.2.1,fC.2.1,fC.2.2.2.2.1,fC.2.2.2.2.2⟩
theorem Ap {X:Cx}{tg iter elt:U5}{ifs:List U5}{scope:Scope}{pos:Pos}{wi:TI}{g:TG}{tt:TT}{te:TE}{Nc:List Str}{n:Nat}{caps:List Nat}
  (hxe:X.xe=λ_ _=>False) (hcalm:X.calm=true) (hi:PI X tg iter wi)
  (hbody:∀ (cl:List (Str×Addr)) (C:Addr) (s₀:UE) (H₀:Hp) (ex:List Addr),PG (bR X scope Nc cl C s₀ H₀ ex) tg g/\CG (bR X scope Nc cl C s₀ H₀ ex) ifs tt/\PE (bR X scope Nc cl C s₀ H₀ ex) elt te)
  (hfree:∀ y∈scope.names,y.2=.free->X.env.kindOf y.1=some .cell) (hcell:∀ y∈scope.names,y.2≠.cell) (iB:scope.kind=.function)
  (hnames:∀ y∈scope.names,y.2=.local->scope.names.lookup y.1=some .local) (hlen:Nc.length=n+caps.length)
  (hcap:∀ (j k:Nat),caps[j]? = some k->∃ x,Nc[n+j]? = some x/\X.N[k]? = some x/\scope.names.lookup x=some .free)
  {use:Option (UC->Sem Unit)} {Qv:UC->UE->Prop} {pins:List (Addr×Obj)} {s:UE} {σ:L2.St} {H:Hp} {Q:VK} {ps:Pos} (I:Inv X pins σ H s) (h:tU wi g tt te n caps σ H Q)
  (hfin:∀ (D C:Addr) (s5:UE) (H5:Hp) (m:Str->Option UC),Inv X pins σ H5 s5->rq X pins H5 C->s5.heap.Ns C m->Q (.ref D) H5->zbQ (U1 X.prog X.w) X.A (λ_ _=>False) use Qv (.ref D) C (.ok .next) s5)
  (hs:∀ x,VV iter X.env x=pure x:=by intro _;rfl) :
  UU (U1 X.prog X.w) X.A (comprehension (.ListComp elt [⟨tg,iter,ifs,0⟩] scope pos) scope X.env ps (newList []) false (VI iter X.env) use) Qv (λ_ _=>False) s:=by
 obtain ⟨cl,hclos,clin,clfree⟩:=CM (scope:=scope) (env:=X.env) λy hy hf=>I.ok.has y.1 (.inl (hfree y hy hf))
 refine wpAny_comprehension_free (use:=use) rfl hs hclos iB hnames ?_
 have hi':=hi pins s σ H _ I h
 rw[hxe] at hi'
 refine Wg hi' (λxv s1 h1=>Wg h1 (λitv s2 h2=>?_) λ_ _ z=>z) λ_ _ z=>z
 obtain ⟨it,fp,tn,J,H1,rfl,I2,T,st2,f2,hh⟩:=h2
 -- the new list
 refine VP ?_
 have hD:H1 s2.heap.objs.size=none:=I2.hok.fresh (U0 _)
 obtain ⟨W,⟨m0,w0⟩,turn⟩:=hh _ hD
 have I3:Inv X pins σ (L2.upd H1 s2.heap.objs.size (.lst [])) { s2 with heap:=s2.heap.push { cls:=.type "list", dict:=none,data:=.seq ([]:List UC).toArray } }:=
  I2.laid (t':=s2.toks) (λb u e=>UD _ e) (U0 _) ⟨Wz _,[],0,.nil,UP _ rfl⟩
 have k3:∀ b u,s2.heap.get? b=some u->(s2.heap.push { cls:=.type "list", dict:=none,data:=.seq ([]:List UC).toArray }).get? b=some u:=λb u e=>UD _ e
 have fne:∀ b∈fp,b≠s2.heap.objs.size:=λb hb=>by
  obtain ⟨o,ho,_⟩:=T.obj 0 _ st2 b hb
  exact UW (UO ho)
 generalize eD:s2.heap.objs.size=D at *
 generalize eh3:s2.heap.push { cls:=.type "list", dict:=none,data:=.seq ([]:List UC).toArray }=h3 at *
 generalize eH3:L2.upd H1 D (.lst [])=H3 at *
 have st3:tn 0 h3:=T.keep 0 _ _ st2 λb hb o e=>k3 b o e
 have f3:∀ b∈fp,rq X pins H3 b:=λb hb=>⟨by rw[← eH3,aV (fne b hb)];exact (f2 b hb).1,(f2 b hb).2⟩
 have lt3:∀ b∈fp,b < h3.objs.size:=λb hb=>by
  obtain ⟨o,ho,_⟩:=T.obj 0 _ st3 b hb
  exact UO ho
 generalize es3:({ s2 with heap:=h3 }:UE)=s3 at *
 have hs3:s3.heap=h3:=by rw[← es3]
 refine wpAny_newFunctionEnv hcell (λy hy=>(by cases hy)) (λh4 hns hsb=>?_) iB
 show Xh _ _ (.compStart _ 0 (.ref it) (.ref D) (zbP scope cl s3.heap.objs.size X.env)) (zbQ _ _ _ _ _ (.ref D) s3.heap.objs.size) _
 have k4:∀ b u,s3.heap.get? b=some u->h4.get? b=some u:=λb u e=>hsb.extBut b u (UW (UO e)) (UD _ e)
 have okY:(bR X scope Nc cl s3.heap.objs.size s3 H3 fp).Ok:=by
  refine ⟨I3.ok.mod,iB,I3.ok.glob,I3.ok.blt,U0 _,λx y c e1 e2=>I3.ok.inj x y c (clin _ _ e1) (clin _ _ e2),λx hx=>?_,λx c hf=>(by cases hf),I3.ok.hd,I3.ok.frames,.inl rfl,λb hb=>⟨?_,λx c e z=>?_⟩,I3.bs,Vy I3.ok.bsz I3.sz,λb o e hb=>?_,λb hb hz=>?_,I3.stack,I3.Ef⟩
  ·have hx':(relabel scope X.env).names.lookup x=some .cell∨(relabel scope X.env).names.lookup x=some .free:=hx
   have hm:(x,Wi)∈scope.names:=by
    rcases hx' with q | q
    ·exact oU hcell (.inl rfl) (VT q)
    ·exact oU hcell (.inr rfl) (VT q)
   exact clfree _ hm rfl
  ·show b≠s3.heap.objs.size
   rw[hs3];exact UW (lt3 b hb)
  ·exact (f3 b hb).2.2.2.2.1 x c (clin _ _ e) z
  ·rcases (f3 b hb).2.2.2.1 with z | z
   ·exact I3.ok.Ks b o e z
   ·exact absurd (U4 (UO e) (Vy I3.ok.bsz z)) (Xd _)
  ·rcases UQ.mp (I3.Ca b hz) with z | z
   ·exact (f3 b hb).2.1 z
   ·exact (f3 b hb).2.2.1 z
 have SM:∀ c v,s3.heap.IsCell c v->h4.IsCell c v:=λc v ⟨o,ho,hd⟩=>⟨o,k4 c o ho,hd⟩
 have J0:Inv (bR X scope Nc cl s3.heap.objs.size s3 H3 fp) [] (mJ σ n caps) H3 { s3 with heap:=h4,toks:=s3.toks+([]:List (Str×UC)).length }:=by
  refine ⟨okY,rfl,I3.bare,Un.kept k4,⟨_,hns,λi x v e1 e2 e3=>?_⟩,λx c e=>?_,I3.hok.fresh (U0 _),λx c e=>I3.jG x c (clin _ _ e),(λp hp=>(by cases hp)),I3.hok.kept k4,?_⟩
  ·obtain ⟨j,k,rfl,ej,ek⟩:=tG e2
   obtain ⟨x',n1,n2,n3⟩:=hcap j k ej
   have e1':Nc[n+j]? = some x:=e1
   rw[n1] at e1';cases e1'
   have hmem:(x,Wi)∈scope.names:=VT n3
   have hcellx:X.env.kindOf x=some .cell:=hfree _ hmem rfl
   obtain ⟨m,hn,hl⟩:=I3.loc
   obtain ⟨u,ru,lk⟩:=hl k x v n2 ek (.inr (.inl hcellx))
   refine ⟨u,ru,.inr ⟨.inl (fI I3.ok.kind hcellx n3),?_⟩⟩
   rcases lk with ⟨q,_⟩ | ⟨_,c,ec,ic⟩
   ·rw[hcellx] at q;cases q
   ·obtain ⟨c',ec'⟩:=clfree _ hmem rfl
    have:=clin _ _ ec'
    rw[ec] at this;cases this
    exact ⟨c,ec',SM _ _ ic⟩
  ·obtain ⟨v,q⟩:=I3.cell x c (clin _ _ e)
   exact ⟨v,SM _ _ q⟩
  ·unfold mJ
   show _=Nc.length
   rw[UY,We,UJ,hlen]
 obtain ⟨pg,pifs,pelt⟩:=hbody cl s3.heap.objs.size s3 H3 fp
 generalize eY:bR X scope Nc cl s3.heap.objs.size s3 H3 fp=Y at *
 have yP:Y.prog=X.prog:=by rw[← eY];rfl
 have yw:Y.w=X.w:=by rw[← eY];rfl
 have yK:Y.K=X.K:=by rw[← eY];rfl
 have yA:Y.A=X.A:=by rw[← eY];rfl
 have yx:Y.xe=λ_ _=>False:=by rw[← eY];exact hxe
 have yc:Y.calm=true:=by rw[← eY];exact hcalm
 have ye:Y.env=zbP scope cl s3.heap.objs.size X.env:=by rw[← eY];rfl
 have yfs:Y.fs=frs X.stack:=by rw[← eY];rfl
 have yex:Y.ex=fp:=by rw[← eY];rfl
 have ys0:Y.s₀=s3:=by rw[← eY];rfl
 have yH0:Y.H₀=H3:=by rw[← eY];rfl
 have ypn:Y.pn=[]:=by rw[← eY];rfl
 have Dk:∀ {H':Hp},(∀ b∈fp,H' b=none)->∀ b∈fp,rq Y [] H' b:=λhn b hb=>⟨hn b hb,by rw[ye];show b≠s3.heap.objs.size;rw[hs3];exact UW (lt3 b hb),okY.GZ b (by rw[yex];exact hb),.inl (by rw[yex];exact hb),
  λx c e=>by rw[ye] at e;exact (f3 b hb).2.2.2.2.1 x c (clin _ _ e),λp hp=>by rw[ypn] at hp;exact nomatch hp⟩
 have tn4:∀ t,tn 0 ({ s3 with heap:=h4,toks:=t }:UE).heap:=λt=>T.keep 0 _ _ st3 λb hb o e=>k4 b o (by rw[hs3];exact e)
 -- the end
 have fin:∀ (s5:UE) (H5:Hp),Inv Y [] (mJ σ n caps) H5 s5->Q (.ref D) H5->zbQ (U1 X.prog X.w) X.A (λ_ _=>False) use Qv (.ref D) s3.heap.objs.size (.ok .next) s5:=λs5 H5 I5 q5=>by
  obtain ⟨m,hn,_⟩:=I5.loc
  rw[ye] at hn
  have un:=I5.base
  rw[yfs,yex,yH0,ys0] at un
  have hfreeC0:=I5.free
  rw[ye] at hfreeC0
  have hfreeC:H5 s3.heap.objs.size=none:=hfreeC0
  have hok5:=I5.hok
  rw[yP,yw] at hok5
  have I5X:Inv X pins σ H5 s5:=I3.N1 (ch:=fp) (s':=s5) (by have:=I5.os;rw[ys0] at this;exact this) un hok5 I5.bare λb hb=>⟨(f3 b hb).2.2.2.1,(f3 b hb).2.1,(f3 b hb).2.2.2.2.1,(f3 b hb).2.2.2.2.2⟩
  exact hfin _ _ s5 H5 m I5X (I3.Io (U0 _) hfreeC) hn q5
 have loop:Xh (U1 X.prog X.w) X.A (.compLoop (.ListComp elt [⟨tg,iter,ifs,0⟩] scope pos) 0 (.ref it) (.ref D) (zbP scope cl s3.heap.objs.size X.env)) (zbQ (U1 X.prog X.w) X.A (λ_ _=>False) use Qv (.ref D) s3.heap.objs.size)
   { s3 with heap:=h4,toks:=s3.toks+([]:List (Str×UC)).length }:=by
  refine FP (λk s'=>∃ i ys H',Inv Y [] (mJ σ n caps) H' s'/\tn i s'.heap/\(∀ b∈fp,H' b=none)/\W i k ys H') ?_ m0 ⟨0,[],H3,J0,tn4 _,λb hb=>(f3 b hb).1,w0⟩
  rintro k s5 ⟨i,ys,H5,I5,st5,fr5,w5⟩
  rcases turn i k ys H5 w5 with ⟨stop,q⟩ | ⟨go,N,hN,step⟩
  ·have d:=T.done Y yP yw yK yc i [] s5 _ H5 (λ_ _=>False) I5 (Dk fr5) st5 stop
   rw[yA] at d
   refine thn d λr s6 ⟨hr,I6⟩=>?_
   subst hr
   exact fin s6 H5 I6 q
  ·have d:=T.item Y yP yw yK yc i [] s5 _ H5 (λ_ _=>False) I5 (Dk fr5) st5 go
   rw[yA] at d
   refine thn d λr s6 ⟨u,hr,h6⟩=>?_
   subst hr
   refine thn h6 λ_ s7 ⟨x,H7,I7,r7,y7,st7,fr7⟩=>?_
   have I7':=I7.pinned (Dk fr7) (T.obj _ _ st7)
   have a:=pg _ s7 _ H7 x u _ I7' r7 (step x H7 y7)
   rw[yP,yw,yA,yx,ye] at a
   refine thn a λ_ s8 ⟨σ8,H8,I8,wk,q8⟩=>?_
   have b:=pifs _ s8 σ8 H8 _ I8 q8
   rw[yP,yw,yA,yx,ye] at b
   have again:∀ {s9:UE} {ys9:List V} {H9:Hp},Inv Y ([]++rK fp s7.heap) σ8 H9 s9->N ys9 H9->∃ m,m < k/\∃ i ys H',Inv Y [] (mJ σ n caps) H' s9/\tn i s9.heap/\(∀ b∈fp,H' b=none)/\W i m ys H':=λ{s9 ys9 H9} I9 n9=>by
    obtain ⟨m',hm,w9⟩:=hN ys9 H9 n9
    have hp:∀ b∈fp,∀ o,s7.heap.get? b=some o->s9.heap.get? b=some o/\H9 b=none:=λb hb o e=>
     ⟨(I9.pin (b,o) (Vd _ (Vd _ (gv hb e)))).1,(I9.pin (b,o) (Vd _ (Vd _ (gv hb e)))).2.1⟩
    refine ⟨m',hm,i+1,ys9,H9,I9.jT.weak wk.1 wk.2,T.keep _ _ _ st7 λb hb o e=>(hp b hb o e).1,λb hb=>?_,w9⟩
    obtain ⟨o,e,_⟩:=T.obj _ _ st7 b hb
    exact (hp b hb o e).2
   refine thn b λok s9 ⟨H9,I9,q9⟩=>?_
   cases ok with
   | false=>
    rw[if_neg YJ] at q9 ⊢
    exact again I9 q9
   | true=>
    rw[if_pos rfl] at q9 ⊢
    have c:=pelt _ s9 σ8 H9 _ I9 q9
    rw[yP,yw,yA,yx,ye] at c
    refine thn c λv s10 ⟨y,H10,I10,r10,zs,ez,lz,n10⟩=>?_
    have d:=wo (X:=Y) _ s10 σ8 H10 (.ref D) [y] (.ref D) [v] (λ_ H'=>N (zs++[y]) H') I10 rfl (.cons r10 .nil) ⟨D,zs,y,rfl,rfl,ez,lz,n10⟩
    rw[yP,yw,yA,yx] at d
    exact thn d λ_ s11 ⟨_,H11,I11,_,q11⟩=>again I11 q11
 refine codeAny_compStart_list loop ?_
 exact T.self X.A 0 _ _ _ (tn4 _) loop
theorem MJ {X:Cx}{tg iter elt:U5}{ifs:List U5}{scope:Scope}{pos:Pos}{wi:TI}{g:TG}{tt:TT}{te:TE}{Nc:List Str}{n:Nat}{caps:List Nat}
  (hxe:X.xe=λ_ _=>False) (hcalm:X.calm=true) (hi:PI X tg iter wi)
  (hbody:∀ (cl:List (Str×Addr)) (C:Addr) (s₀:UE) (H₀:Hp) (ex:List Addr),PG (bR X scope Nc cl C s₀ H₀ ex) tg g/\CG (bR X scope Nc cl C s₀ H₀ ex) ifs tt/\PE (bR X scope Nc cl C s₀ H₀ ex) elt te)
  (hfree:∀ y∈scope.names,y.2=.free->X.env.kindOf y.1=some .cell) (hcell:∀ y∈scope.names,y.2≠.cell) (iB:scope.kind=.function)
  (hnames:∀ y∈scope.names,y.2=.local->scope.names.lookup y.1=some .local) (hlen:Nc.length=n+caps.length)
  (hcap:∀ (j k:Nat),caps[j]? = some k->∃ x,Nc[n+j]? = some x/\X.N[k]? = some x/\scope.names.lookup x=some .free)
  (hs:∀ x,VV iter X.env x=pure x:=by intro _;rfl) :
  PE X (.ListComp elt [⟨tg,iter,ifs,0⟩] scope pos) (tU wi g tt te n caps):=by
 intro pins s σ H Q I h
 rw[hxe,eval_ListComp]
 exact Ap hxe hcalm hi hbody hfree hcell iB hnames hlen hcap (use:=none) I h (λD C s5 H5 m I5 fC hn q=>⟨m,hn,λh6 hs6=>⟨.ref D,H5,JX I5 fC.1 fC hs6,rfl,q⟩⟩) hs
theorem GH {X:Cx}{tg iter elt:U5}{ifs:List U5}{scope:Scope}{pos spos py:Pos}{y:Str}{iy:Nat}{wi:TI}{g:TG}{tt:TT}{te:TE}{Nc:List Str}{n:Nat}{caps:List Nat}{Z:TE->TE}
  (hxe:X.xe=λ_ _=>False) (hcalm:X.calm=true) (hi:PI X tg iter wi)
  (hbody:∀ (cl:List (Str×Addr)) (C:Addr) (s₀:UE) (H₀:Hp) (ex:List Addr),PG (bR X scope Nc cl C s₀ H₀ ex) tg g/\CG (bR X scope Nc cl C s₀ H₀ ex) ifs tt/\PE (bR X scope Nc cl C s₀ H₀ ex) elt te)
  (hfree:∀ y∈scope.names,y.2=.free->X.env.kindOf y.1=some .cell) (hcell:∀ y∈scope.names,y.2≠.cell) (iB:scope.kind=.function)
  (hnames:∀ y∈scope.names,y.2=.local->scope.names.lookup y.1=some .local) (hlen:Nc.length=n+caps.length)
  (hcap:∀ (j k:Nat),caps[j]? = some k->∃ x,Nc[n+j]? = some x/\X.N[k]? = some x/\scope.names.lookup x=some .free)
  (pgy:PG X (.Name y py) (rj iy))
  (hsw:YF (.ListComp elt [⟨tg,iter,ifs,0⟩] scope pos) (some (.Name y py)) spos.line X.env=pure true)
  (hz:∀ (σ:L2.St) (H:Hp) (Q:VK),Z (tU wi g tt te n caps) σ H Q->∃ Q',tU wi g tt te n caps σ H Q'/\∀ pins D H5 s5,Inv X pins σ H5 s5->Q' (.ref D) H5->∃ H6,(∀ b,H5 b=none->H6 b=none)/\Inv X pins σ H6 s5/\Q (.ref D) H6)
  (hs:∀ x,VV iter X.env x=pure x:=by intro _;rfl) :
  PS X (.Assign [.Name y py] (.ListComp elt [⟨tg,iter,ifs,0⟩] scope pos) spos) (LC (Z (tU wi g tt te n caps)) (rj iy)):=by
 intro pins s σ H E' I h
 rw[hxe]
 rewrite [exec_Assign_Name_used _ _ _ _ hsw]
 refine wpAny_bind (Y5 ?_)
 refine wpAny_bind ?_
 refine (show UU _ X.A (do let _ ← comprehension (.ListComp elt [⟨tg,iter,ifs,0⟩] scope pos) scope X.env _ (newList []) false (VI iter X.env) (some (YH (.Name y py) X.env))) _ _ s from ?_)
 obtain ⟨Q',h',hq⟩:=hz σ H _ h
 refine wpAny_bind (Wg (Ap hxe hcalm hi hbody hfree hcell iB hnames hlen hcap (use:=some (YH (.Name y py) X.env)) (Qv:=λ_ s'=>SP X pins E' .next s') I h' (λD C s5 H5 m I5 fC hn q=>?_) hs) (λ_ s' hq=>wpAny_pure (wpAny_pure hq)) λ_ _ e=>e)
 obtain ⟨H6,fr,I6,q6⟩:=hq pins D H5 s5 I5 q
 have f0:=fr C fC.1
 have fC6:rq X pins H6 C:=⟨f0,fC.2⟩
 obtain ⟨oC,gC,dC⟩:∃ oC,s5.heap.get? C=some oC/\∀ v,oC.data≠.cell v:=by
  obtain ⟨oC,es,ep,ho,hd,_⟩:=hn
  exact ⟨oC,ho,λv z=>by rw[hd] at z;cases z⟩
 have I5P:=I6.pinned (fp:=[C]) (λb hb=>by cases UZ.mp hb;exact fC6) (λb hb=>by cases UZ.mp hb;exact ⟨oC,gC,dC⟩)
 have as:=pgy _ s5 σ _ (.ref D) (.ref D) E'.nx I5P rfl q6
 rw[hxe] at as
 refine thn as λ_ s6 ⟨σ6,H7,I7,n7⟩=>?_
 obtain ⟨g7,f7,_⟩:=I7.pin (C,oC) (Vd _ (Vd _ (gv UK gC)))
 exact ⟨m,hn.at' (λo' e'=>by have e'':s5.heap.get? C=some o':=e';rw[gC] at e'';cases e'';exact g7),λh8 hs8=>⟨σ6,H7,JX I7.jT f7 fC6 hs8,n7⟩⟩
end
section
open PySem PySem.Spec PyProof.Rows L2
structure Fq (K:UB) (J:It) (H1:Hp) (ds:List D):Prop where
 go:∀ i H',Tk H1 H'->i < ds.length->J.go i H'
 yld:∀ i H' x H'',Tk H1 H'->i < ds.length->J.yld i H' x H''->Tk H' H''/\(∃ d,ds[i]? = some d/\Dp K H'' x d)/\∀ μ,cH K H' μ->cH K H'' μ
 stop:∀ i H',Tk H1 H'->ds.length<=i->J.stop i H'
def SR (K:UB)(wi:TI)(It':ATr):Prop:=∀ σ H ρ μ (Q:List D->Mu->Prop) (R:It->Hp->Prop),Rl K σ H ρ μ->It' ρ μ Q->(∀ J H1 ds μ1,Tk H H1->cH K H1 μ1->Fq K J H1 ds->Q ds μ1->R J H1)->wi σ H R
structure LI (X:Cx) (tg iter:U5) (It':ATr):Prop where
 ex:∃ wi,PI X tg iter wi/\SR X.K wi It'
section
variable {X:Cx} {tg a b c e elt iter:U5} {Ta Tb Te:ETr} {Tt:TTr} {pos:Pos} {It':ATr} {G:GTr}
theorem IM {K:UB}{H:Hp}{p:Addr}{xs:List V}{ds:List D}(q:SqT K H p xs)(l:DpL K H xs ds):Fq K (Itt K p) H ds where
 go:=λi H' t hi=>by
  have hl:=l.length
  exact ⟨xs,xs[i],t.sqT q,by simp[show i < xs.length by omega]⟩
 yld:=λi H' x H'' t hi ⟨e,y⟩=>by
  subst e
  have ex:=y xs (t.sqT q)
  obtain ⟨d,ed,p⟩:=l.get' ex
  exact ⟨.refl _,⟨d,ed,p.mono t⟩,λ_ m=>m⟩
 stop:=λi H' t hi=>⟨xs,t.sqT q,by rw[l.length];exact hi⟩
theorem Ly {K:UB}{H:Hp}{p:Addr}{xs:List V}{ds:List D}(q:SqF K H p xs)(l:DpL K H xs ds):Fq K (Itl K p) H ds where
 go:=λi H' t hi=>by
  have hl:=l.length
  exact ⟨xs,xs[i],(t.sqF q).sq,by simp[show i < xs.length by omega]⟩
 yld:=λi H' x H'' t hi ⟨e,y⟩=>by
  subst e
  have ex:=y xs (t.sqF q).sq
  obtain ⟨d,ed,p⟩:=l.get' ex
  exact ⟨.refl _,⟨d,ed,p.mono t⟩,λ_ m=>m⟩
 stop:=λi H' t hi=>⟨xs,(t.sqF q).sq,by rw[l.length];exact hi⟩
theorem gj (lo:Int)(n:Nat):(dQ lo n).length=n:=by unfold dQ;simp
theorem Bs {K:UB}{H:Hp}(lo:Int)(n:Nat):Fq K (Itr lo n) H (dQ lo n) where
 go:=λi H' t hi=>by rw[gj] at hi;exact hi
 yld:=λi H' x H'' t hi ⟨e,y⟩=>by
  rw[gj] at hi
  subst e y
  exact ⟨.refl _,⟨.int (lo+i),by unfold dQ;simp[hi],.int _⟩,λ_ m=>m⟩
 stop:=λi H' t hi=>by rw[gj] at hi;exact hi
def Ry (a:ETr):ATr:=λρ μ Q=>a ρ μ λx μ1=>match x with
 | .tup ds=>Q ds μ1
 | _=>False
def ILs (a:ETr):ATr:=λρ μ Q=>a ρ μ λx μ1=>match x with
 | .ls ds=>Q ds μ1
 | _=>False
theorem vV {rp rpos:Pos}(hg:Gl X "range")(hm:X.mg "range" = none)(ha:LE X a Ta)(hs:UI [a] X.env=[(false,VI a X.env)]:=by rfl):LI X tg (.Call (.Name "range" rp) [a] [] rpos) (iI Ta):=by
 obtain ⟨ta,pa,sa⟩:=ha.ex
 refine ⟨_,E6 hg hm (cG pa gf hs) hs,λσ H ρ μ Q R rl h k=>sa σ H ρ μ _ _ rl h λx H1 d μ1 t1 m1 p1 h1=>?_⟩
 cases p1 with
 | int j=>
  obtain ⟨⟨h2,h3⟩,h4⟩:=h1
  exact ⟨j,rfl,by simpa using h2,by simpa using h3,k _ H1 _ μ1 t1 m1 (Bs 0 _) h4⟩
 | _=>exact UG h1
theorem Ss {t1:TS}{T1:STr}{g:TG}{E:En}{E':Ends}{K:UB}{H0 H1:Hp}{J:It}{ds:List D}(sg:Qo K g G)(s1:Oc K t1 T1)(k:IB K H0 E E')(Y:Fq K J H1 ds){σ:L2.St}{ρ:ST}{μ:Mu}(t0:Tk H0 H1)(rl:Rl K σ H1 ρ μ)(h:forR G T1 E ds ρ μ) :
  ∃ W:Nat->Nat->L2.St->Hp->Prop,(∃ m,W 0 m σ H1)/\∀ i m σ H,W i m σ H->
   (J.stop i H/\E'.nx σ H)∨(J.go i H/\∃ N:L2.St->Hp->Prop,(∀ σ' H',N σ' H'->∃ m',m' < m/\W (i+1) m' σ' H')/\∀ x H',J.yld i H x H'->g x σ H' λσ2 H2=>t1 { E' with nx:=N,ct:=N,bk:=E'.nx } σ2 H2):=by
 refine ⟨λi m σ' H'=>m=ds.length - i/\i<=ds.length/\Tk H1 H'/\∃ ρ' μ',Rl K σ' H' ρ' μ'/\forR G T1 E (ds.drop i) ρ' μ',⟨ds.length,by simp,Wz _,.refl _,ρ,μ,rl,by simpa using h⟩,?_⟩
 rintro i m σ1 H2 ⟨rfl,hi,t12,ρ1,μ1,r1,h1⟩
 by_cases hlt:i < ds.length
 ·refine .inr ⟨Y.go i H2 t12 hlt,λσ' H'=>Tk H1 H'/\∃ ρ' μ',Rl K σ' H' ρ' μ'/\forR G T1 E (ds.drop (i+1)) ρ' μ',λσ' H' ⟨t',ρ',μ',r',h'⟩=>⟨ds.length - (i+1),by omega,rfl,hlt,t',ρ',μ',r',h'⟩,λx H3 y=>?_⟩
  obtain ⟨t23,⟨d,ed,pd⟩,mk⟩:=Y.yld i H2 x H3 t12 hlt y
  have e:ds.drop i=d::ds.drop (i+1):=by
   refine (Xs hlt).trans ?_
   congr 1
   rw[Vf hlt] at ed
   exact VF ed
  rw[e] at h1
  have t13:=t12.trans t23
  refine sg σ1 H3 ρ1 μ1 _ _ _ _ (r1.go t23 (mk _ r1.mu)) pd h1 λσ4 H4 ρ4 μ4 t4 r4 h4=>?_
  have t14:=t13.trans t4
  have t04:=t0.trans t14
  exact s1 σ4 H4 ρ4 μ4 _ _ r4 h4 ⟨λσ' H' ρ' μ' t' r' q=>⟨t14.trans t',ρ',μ',r',q⟩,(k.go t04).rt,(k.go t04).nx,λσ' H' ρ' μ' t' r' q=>⟨t14.trans t',ρ',μ',r',q⟩⟩
 ·have e:i=ds.length:=by omega
  subst e
  rw[X8] at h1
  exact .inl ⟨Y.stop _ H2 t12 (U0 _),k.nx _ _ _ _ (t0.trans t12) r1 h1⟩
theorem kz {body:List Stmt}{T1:STr}(hp:zbd (U1 X.prog X.w) X.A X.env X.xe)(hc:X.calm=true)(hi:LI X tg iter It')(hG:LG X tg G)(hb:LSs X body T1)(hf:∀ x,VV iter X.env x=pure x:=by intro _;rfl) :
  LS X (.For tg iter body [] pos) (oN It' G T1):=by
 obtain ⟨wi,pi,si⟩:=hi.ex
 obtain ⟨g,pg,sg⟩:=hG.ex
 obtain ⟨t1,p1,s1⟩:=hb.ex
 exact ⟨_,Pe hp hc pi pg p1 hf,λσ H ρ μ E E' rl h k=>si σ H ρ μ _ _ rl h λJ H1 ds μ1 t1' m1 Y h1=>Ss sg s1 k Y t1' (rl.go t1' m1) h1⟩
def EX (K:UB)(T:ETr):TE:=λσ H Q'=>∃ ρ μ Q,Rl K σ H ρ μ/\T ρ μ Q/\lL K H Q Q'
def liftT (K:UB)(T:TTr):TT:=λσ H Q'=>∃ ρ μ Q,Rl K σ H ρ μ/\T ρ μ Q/\∀ b H' μ',Tk H H'->cH K H' μ'->Q b μ'->Q' b H'
abbrev Nm (K:UB)(n:Nat)(σ:L2.St)(H:Hp)(k:ST->Mu->Prop)(k':L2.St->Hp->Prop):Prop:=∀ σ' H' ρ' μ',Tk H H'->Rl K σ' H' ρ' μ'->(σ'.length=σ.length/\∀ j,n<=j->σ'[j]? = σ[j]?)->k ρ' μ'->k' σ' H'
def EU (K:UB)(n:Nat)(G:GTr):TG:=λv σ H k'=>∃ ρ μ d k,Rl K σ H ρ μ/\Dp K H v d/\G d ρ μ k/\Nm K n σ H k k'
theorem LE.pe (h:LE X e Te):PE X e (EX X.K Te):=by
 obtain ⟨t,p,s⟩:=h.ex
 exact λpins st σ H Q I ⟨ρ,μ,Q0,rl,hT,k⟩=>p pins st σ H Q I (s σ H ρ μ Q0 Q rl hT k)
structure I0 (X:Cx) (ifs:List U5) (Tt:TTr):Prop where
 pe:CG X ifs (liftT X.K Tt)
theorem cf:I0 X [] fe:=⟨λpins s σ H Q I ⟨ρ,μ,Q0,rl,hT,k⟩=>MF pins s σ H Q I (k true H μ (.refl H) rl.mu hT)⟩
theorem LY (h:LT X c Tt):I0 X [c] Tt:=by
 obtain ⟨t,p,s⟩:=h.ex
 exact ⟨λpins st σ H Q I ⟨ρ,μ,Q0,rl,hT,k⟩=>ME p pins st σ H Q I (s σ H ρ μ Q0 Q rl hT k)⟩
structure LGc (X:Cx) (n:Nat) (tg:U5) (G:GTr):Prop where
 pe:PG X tg (EU X.K n G)
theorem bJ {x:Str}{n:Nat}(i:Nat)(hN:X.N.Nodup)(hin:i < n:=by decide)(hi:X.N[i]? = some x:=by rfl)(hx:Loc X.env.scope x:=by first | exact ZC rfl | exact YQ rfl)(hf:X.fn x=true∨X.env.scope.names.lookup x=some .local:=by first | exact .inr rfl | exact .inl rfl | assumption):LGc X n (.Name x pos) (ax i):=
 ⟨λpins s σ H v u k' I r ⟨ρ,μ,d,k,rl,p,h,post⟩=>nG hN hi hx hf pins s σ H v u k' I r (post _ H _ μ (.refl H) (rl.set p i) ⟨by simp,λj hj=>by rw[WQ (by omega)]⟩ h)⟩
theorem EO {K:UB}{σ:L2.St}{H:Hp}{ρ:ST}{μ:Mu}(rl:Rl K σ H ρ μ)(n:Nat)(caps:List Nat):Rl K (mJ σ n caps) H (ml ρ n caps) μ:=by
 refine ⟨by unfold mJ ml;simp,λi d e=>?_,rl.mu⟩
 have gen:∀ (n i:Nat),lk (Vb n none++caps.map (lk ρ)) i=some d->∃ j,i=n+j/\∃ k,caps[j]? = some k/\lk ρ k=some d:=by
  intro n
  induction n with
  | zero=>
   intro i h
   have h':lk (caps.map (lk ρ)) i=some d:=by simpa using h
   have g2:∀ (cs:List Nat) (i:Nat),lk (cs.map (lk ρ)) i=some d->∃ k,cs[i]? = some k/\lk ρ k=some d:=by
    intro cs
    induction cs with
    | nil=>intro i h;cases i<;>cases h
    | cons c r ih=>intro i h;cases i with
     | zero=>exact ⟨c,rfl,h⟩
     | succ i=>simpa using ih i h
   exact ⟨i,by omega,g2 caps i h'⟩
  | succ n ih=>
   intro i h
   cases i with
   | zero=>cases h
   | succ i=>
    obtain ⟨j,rfl,k,h1,h2⟩:=ih i h
    exact ⟨j,by omega,k,h1,h2⟩
 obtain ⟨j,rfl,k,h1,h2⟩:=gen n i e
 obtain ⟨v,h3,h4⟩:=rl.loc k d h2
 refine ⟨v,?_,h4⟩
 unfold mJ
 rw[VR (by simp)]
 simp[h1,h3]
theorem KZ {ifs:List U5}{scope:Scope}{Nc:List Str}{n:Nat}{caps:List Nat}(hxe:X.xe=λ_ _=>False)(hcalm:X.calm=true)(hi:LI X tg iter It')
  (hbody:∀ (cl:List (Str×Addr)) (C:Addr) (s₀:UE) (H₀:Hp) (ex:List Addr),LGc (bR X scope Nc cl C s₀ H₀ ex) n tg G/\I0 (bR X scope Nc cl C s₀ H₀ ex) ifs Tt/\LE (bR X scope Nc cl C s₀ H₀ ex) elt Te)
  (hfree:∀ y∈scope.names,y.2=.free->X.env.kindOf y.1=some .cell) (hcell:∀ y∈scope.names,y.2≠.cell) (iB:scope.kind=.function)
  (hnames:∀ y∈scope.names,y.2=.local->scope.names.lookup y.1=some .local) (hlen:Nc.length=n+caps.length)
  (hcap:∀ (j k:Nat),caps[j]? = some k->∃ x,Nc[n+j]? = some x/\X.N[k]? = some x/\scope.names.lookup x=some .free)
  (hs:∀ x,VV iter X.env x=pure x:=by intro _;rfl) :
  LE X (.ListComp elt [⟨tg,iter,ifs,0⟩] scope pos) (cp It' G Tt Te n caps):=by
 obtain ⟨wi,pi,si⟩:=hi.ex
 refine ⟨_,mf (MJ (g:=EU X.K n G) (tt:=liftT X.K Tt) (te:=EX X.K Te) hxe hcalm pi (λcl C s₀ H₀ ex=>let ⟨h1,h2,h3⟩:=hbody cl C s₀ H₀ ex;⟨h1.pe,h2.pe,h3.pe⟩) hfree hcell iB hnames hlen hcap hs),?_⟩
 intro σ H ρ μ Q Q' rl h k
 refine si σ H ρ μ _ _ rl h λJ H1 ds μ1 t1 m1 Y h1 D hD=>?_
 have hp:=h1 D (m1.free hD)
 have tD:Tk H1 (L2.upd H1 D (.lst [])):=.new hD
 have mD:cH X.K (L2.upd H1 D (.lst [])) (up μ1 D (.lst [])):=λa o e=>by
  by_cases ha:a=D
  ·subst ha
   rw[bh] at e;cases e
   exact ⟨[],bc,.nil⟩
  ·rw[bQ ha] at e
   exact fj m1 hD a o e
 refine ⟨λi m ys H2=>m=ds.length - i/\i<=ds.length/\Tk H1 H2/\∃ μ2,cH X.K H2 μ2/\ka D G Tt Te (ml ρ n caps) (λμ'=>kL μ' D λzs=>Q (.ls zs) (dn μ' D)) (ds.drop i) μ2,
  ⟨ds.length,by simp,Wz _,tD,_,mD,by simpa using hp⟩,?_⟩
 rintro i m ys H2 ⟨rfl,hi,t12,μ2,m2,h2⟩
 by_cases hlt:i < ds.length
 ·refine .inr ⟨Y.go i H2 t12 hlt,λys' H'=>Tk H1 H'/\∃ μ',cH X.K H' μ'/\ka D G Tt Te (ml ρ n caps) (λμ'=>kL μ' D λzs=>Q (.ls zs) (dn μ' D)) (ds.drop (i+1)) μ',λys' H' ⟨t',μ',m',h'⟩=>⟨ds.length - (i+1),by omega,rfl,hlt,t',μ',m',h'⟩,λx H3 y=>?_⟩
  obtain ⟨t23,⟨d,ed,pd⟩,mk⟩:=Y.yld i H2 x H3 t12 hlt y
  have e:ds.drop i=d::ds.drop (i+1):=by
   refine (Xs hlt).trans ?_
   congr 1
   rw[Vf hlt] at ed
   exact VF ed
  rw[e] at h2
  have t13:=t12.trans t23
  have r3:Rl X.K (mJ σ n caps) H3 (ml ρ n caps) μ2:=EO (rl.go (t1.trans t13) (mk _ m2)) n caps
  refine ⟨_,_,d,_,r3,pd,h2,λσ4 H4 ρ4 μ4 t4 r4 kp h4=>⟨⟨kp.1.symm,λj v ej=>?_⟩,_,_,_,r4,h4,λb H5 μ5 t5 m5 h5=>?_⟩⟩
  ·by_cases hj:n<=j
   ·rw[kp.2 j hj];exact ej
   ·obtain ⟨j',k',e1,_⟩:=tG ej
    omega
  ·have t15:=t13.trans (t4.trans t5)
   cases b with
   | false=>exact vp ⟨t15,μ5,m5,h5⟩
   | true=>
    refine u9 ⟨_,_,_,r4.go t5 m5,h5,λv H6 d6 μ6 t6 m6 p6 h6=>?_⟩
    obtain ⟨zs,ez,lz,h7⟩:=cJ h6
    obtain ⟨xs,ex,lx⟩:=m6 D _ ez
    have t67:Tk H6 (L2.upd H6 D (.lst (xs++[v]))):=.upd (λys z=>by rw[ex] at z;cases z) λo' u z=>by rw[ex] at z;cases z
    refine ⟨xs,ex,by rw[lx.length];exact U4 lz (by decide),(t15.trans t6).trans t67,up μ6 D (.lst (zs++[d6])),λa o ea=>?_,h7⟩
    by_cases ha:a=D
    ·subst ha
     rw[bh] at ea;cases ea
     exact ⟨_,bc,(lx.append (.cons p6 .nil)).mono t67⟩
    ·rw[bQ ha] at ea
     exact (m6 a _ ea).ne t67 ha
 ·have e:i=ds.length:=by omega
  subst e
  rw[X8] at h2
  obtain ⟨zs,ez,hq⟩:=cJ (show kL μ2 D λzs=>Q (.ls zs) (dn μ2 D) from h2)
  obtain ⟨xs,ex,lx⟩:=m2 D _ ez
  refine .inl ⟨Y.stop _ H2 t12 (U0 _),D,xs,rfl,ex,λo=>?_⟩
  have t2f:Tk H2 (L2.upd H2 D (.frz o (.lst xs))):=.upd (λys z=>by rw[ex] at z;cases z) λo' u z=>by rw[ex] at z;cases z
  refine k _ _ _ (dn μ2 D) ((t1.trans t12).trans t2f) (λa o' ea=>?_) (.ls (.inl ⟨o,bc⟩) (lx.mono t2f)) hq
  have ha:a≠D:=λz=>by subst z;unfold dn at ea;rw[if_pos rfl] at ea;cases ea
  have ea':μ2 a=some o':=by unfold dn at ea;rw[if_neg ha] at ea;exact ea
  exact (m2 a _ ea').ne t2f ha
end
end
section
open PySem PySem.Spec PyProof.Rows L2
def xp (fn:List (Str×Yf))(XN:List Str)(sc:Scope)(Nc:List Str)(n:Nat)(caps:List Nat):Bool:=
 sc.names.all (λy=>(y.2 != .free || fn.lookup y.1 == some .cell)&&y.2 != .cell&&(y.2 != .local || sc.names.lookup y.1 == some .local))&&sc.kind == .function&&Nc.length == n+caps.length &&
 (Wo caps.length).all λj=>match caps[j]? with
  | some k=>(match XN[k]? with
   | some x=>Nc[n+j]? == some x&&sc.names.lookup x == some .free
   | none=>false)
  | none=>false
section
variable {X:Cx} {tg a b c e elt iter:U5} {Ta Tb Te:ETr} {Tt:TTr} {pos:Pos} {It':ATr} {G:GTr}
theorem bP {ifs:List U5}{scope fsc:Scope}(XN Nc:List Str)(n:Nat)(caps:List Nat)(hxe:X.xe=λ_ _=>False)(hcalm:X.calm=true)(hi:LI X tg iter It')
  (hbody:∀ (cl:List (Str×Addr)) (C:Addr) (s₀:UE) (H₀:Hp) (ex:List Addr),LGc (bR X scope Nc cl C s₀ H₀ ex) n tg G/\I0 (bR X scope Nc cl C s₀ H₀ ex) ifs Tt/\LE (bR X scope Nc cl C s₀ H₀ ex) elt Te)
  (hsc:X.env.scope=fsc) (hXN:X.N=XN) (hok:xp fsc.names XN scope Nc n caps=true)
  (hs:∀ x,VV iter X.env x=pure x:=by intro _;rfl) :
  LE X (.ListComp elt [⟨tg,iter,ifs,0⟩] scope pos) (cp It' G Tt Te n caps):=by
 unfold xp at hok
 simp only[UM,Vv] at hok
 obtain ⟨⟨⟨h1,h2⟩,h3⟩,h4⟩:=hok
 refine KZ hxe hcalm hi hbody (λy hy hf=>?_) (λy hy hf=>?_) (by simpa using h2) (λy hy hf=>?_) (by simpa using h3) (λj k hj=>?_) hs
 ·have:=(h1 y hy).1.1
  show X.env.scope.names.lookup y.1=_
  rw[hsc]
  simpa[hf] using this
 ·have:=(h1 y hy).1.2
  simp[hf] at this
 ·have:=(h1 y hy).2
  simpa[hf] using this
 ·have hl:j < caps.length:=(VJ.mp hj).1
  have:=h4 j (W2.mpr hl)
  rw[hj] at this
  dsimp only at this
  rw[hXN]
  cases e:XN[k]? with
  | none=>rw[e] at this;cases this
  | some x=>
   rw[e] at this
   dsimp only at this
   rw[UM] at this
   exact ⟨x,by simpa using this.1,rfl,by simpa using this.2⟩
end
theorem pq:∀ {bs:List Bool} {us:List UC},Vals (bs.map V.bl) us->LSm.BoolsAre us bs
 | [],_,.nil=>.nil
 | b::r,_,.cons h t=>by
  cases (show _=Zn b from h)
  exact .cons b (pq t)
theorem fZ {X:Cx}(hc:X.calm=true):cj X (.builtin "all") (λxs H Q=>∃ (p:Addr) (ys:List V) (bs:List Bool),xs=[.ref p]/\SqL X.K H p ys/\ys=bs.map V.bl/\Q (.bl (bs.all id)) H):=λpins s σ H xs us Q I rx ⟨p,ys,bs,e1,sq,e2,q⟩=>by
 subst e1 e2
 cases rx with | cons r1 r2=>
 cases r2
 cases (show _=Vs p from r1)
 obtain ⟨its,rv,pl,_⟩:=I.list sq
 have ils:s.heap.IsList p its.toArray:=by
  obtain ⟨o,n,h1,h2,_,h3⟩:=pl
  exact ⟨o,h1,h2,n,h3⟩
 have bls:=pq rv
 have hlt:p < s.heap.objs.size:=by obtain ⟨_,e,_⟩:=ils;exact UO e
 refine call_all_walk (XT ils ?_)
 refine ⟨s.heap.objs.size,[s.heap.objs.size,p],[s.heap.objs.size],its.toArray.size,_,_,λi=>(bs[i]?).getD true,rfl,Walks.list (A:=X.A.in1) (I.ok.hd hc) _ p (UW hlt) its.toArray,
  ⟨⟨_,UP _ rfl,rfl,rfl⟩,ils.push _⟩,λi v s' Q' E' gP gQ=>?_,λh' tk hk=>?_⟩
 ·obtain ⟨b,e,rfl⟩:=bls.get i v (by simpa using gP)
  simp only[e,Option.getD_some] at gQ
  exact VU gQ
 ·have e:((Wo its.toArray.size).all λi=>(bs[i]?).getD true)=bs.all id:=by
   rw[UR,bls.length];exact LSm.range_all bs
  rw[e]
  exact ⟨.bl _,H,I.kept (LSm.kept_iter hk),rfl,q⟩
theorem DpL.bools {K:UB}{H:Hp}:∀ {xs:List V} {bs:List Bool},DpL K H xs (bs.map .bl)->xs=bs.map V.bl
 | _,[],.nil=>rfl
 | _,b::r,.cons h l=>by cases h;rw[DpL.bools l];rfl
theorem kF {K:UB}:uV K (λxs H Q=>∃ (p:Addr) (ys:List V) (bs:List Bool),xs=[.ref p]/\SqL K H p ys/\ys=bs.map V.bl/\Q (.bl (bs.all id)) H) yG:=λH μ xs ds Q Q' m p h k=>by
 unfold yG at h
 split at h
 ·obtain ⟨bs,rfl,h⟩:=h
  cases p with | cons p1 p2=>cases p2;cases p1 with | ls q l=>exact ⟨_,_,bs,rfl,q.sq,l.bools,k _ H _ μ (.refl H) m (.bl _) h⟩
 ·exact h.elim
end
section
open PySem PySem.Spec PyProof.Rows L2
def GV (K:UB)(mg:Str->Option UC)(x:Str)(d:D):Prop:=∃ u v,mg x=some u/\RelV v u/\∀ H,Dp K H v d
theorem bj {X:Cx}{x:Str}{pos:Pos}{d:D}(hg:Gl X x)(h:GV X.K X.mg x d)(hd:(x == ("__debug__" : Str))=false:=by decide):LE X (.Name x pos) (TC d):=by
 obtain ⟨u,v,hm,r,p⟩:=h
 exact ⟨_,xf hg hm r hd,λσ H ρ μ Q Q' rl h k=>k v H d μ (.refl H) rl.mu (p H) h⟩
section
variable {K:UB} {h:Heap} {mg:Str->Option UC} {x:Str}
theorem bU {i:Int}{t:Tok}(X:K.In h)(G:h.Ns VM mg)(a:ZD K VM x=some (some (.int i t))):GV K mg x (.int i):=⟨_,.int i,Y8 X G a,⟨t,rfl⟩,λ_=>.int i⟩
theorem IA {i:Str}{t:Tok}(X:K.In h)(G:h.Ns VM mg)(a:ZD K VM x=some (some (.str i t))):GV K mg x (.str i):=⟨_,.str i,Y8 X G a,⟨t,rfl⟩,λ_=>.str i⟩
theorem J4 {p:Addr}{o:Obj}{its:Array UC}{n:Nat}{xs:List V}{ds:List D}(X:K.In h)(G:h.Ns VM mg)(a:ZD K VM x=some (some (.ref p)))(l:K.lookup p=some o)(c:o.cls=.type "tuple")(dn:o.dict=none)(d:o.data=.seq its n)
  (z:its.size<=sizeLine) (r:Vals xs its.toList) (q:∀ H,DpL K H xs ds):GV K mg x (.tup ds):=⟨_,.ref p,Y8 X G a,rfl,λH=>.tup (.inr ⟨o,its,n,l,c,dn,d,z,r⟩) (q H)⟩
end
def iP:ST->List Nat->List D->ST
 | ρ,i::is,d::ds=>iP (ρ.set i (some d)) is ds
 | ρ,_,_=>ρ
def jJ (is:List Nat):GTr:=λd ρ μ k=>match d with
 | .tup ds=>ds.length=is.length/\k (iP ρ is ds) μ
 | _=>False
def Q3 (K:UB)(t:TGs)(is:List Nat):Prop:=∀ σ H ρ μ vs ds (k:ST->Mu->Prop) (k':L2.St->Hp->Prop),Rl K σ H ρ μ->DpL K H vs ds->ds.length=is.length->k (iP ρ is ds) μ->Be K H k k'->t vs σ H k'
structure LGs (X:Cx) (es:List U5) (is:List Nat):Prop where
 ex:∃ t,PGs X es t/\Q3 X.K t is
section
variable {X:Cx} {e tg:U5} {es:List U5} {is:List Nat} {pos:Pos} {x:Str} {Ta:ETr} {G:GTr}
theorem mm:LGs X [] []:=⟨_,D6,λσ H ρ μ vs ds k k' rl l hl h q=>by
 cases ds with
 | nil=>cases l;exact ⟨rfl,q _ _ _ _ (.refl H) rl h⟩
 | cons=>cases hl⟩
theorem bq (i:Nat)(hN:X.N.Nodup)(h2:LGs X es is)(hi:X.N[i]? = some x:=by rfl)(hx:Loc X.env.scope x:=by first | exact ZC rfl | exact YQ rfl)(hf:X.fn x=true∨X.env.scope.names.lookup x=some .local:=by first | exact .inl rfl | exact .inr rfl | assumption)
  (hs:(V1 (.Name x pos::es) X.env).map (·.2)=YH (.Name x pos) X.env::(V1 es X.env).map (·.2):=by rfl):LGs X (.Name x pos::es) (i::is):=by
 obtain ⟨t,pt,st⟩:=h2.ex
 refine ⟨_,Aq (nG hN hi hx hf) pt hs,λσ H ρ μ vs ds k k' rl l hl h q=>?_⟩
 cases l with
 | nil=>cases hl
 | @cons v d vs ds p l=>exact ⟨v,vs,rfl,st _ H _ μ vs ds k k' (rl.set p i) l (by simpa using hl) h q⟩
theorem qX {k:Nat}(hc:X.calm=true)(h:LGs X es is)(hn:(V1 es X.env).length=is.length:=by rfl)(hst:(V1 es X.env).findIdx? (·.1)=none:=by rfl):LG X (.Tuple es k pos) (jJ is):=by
 obtain ⟨t,pt,st⟩:=h.ex
 refine ⟨_,G7 hc pt hn hst,λσ H ρ μ v d k k' rl p h q=>?_⟩
 cases p with
 | @tup a xs ds sq l=>exact ⟨a,xs,rfl,sq,by rw[l.length];exact h.1,st σ H ρ μ xs ds k k' rl l h.1 h.2 q⟩
 | _=>exact UG h
theorem QO (he:LE X e Ta)(hG:LG X tg G)(hs:Yb [tg] e pos.line X.env=pure false:=by rfl)(hw:Yc [tg] e X.env=pure none:=by rfl)
  (h1:(V1 [tg] X.env).map (·.2)=[YH tg X.env]:=by rfl):LS X (.Assign [tg] e pos) (aZ Ta G):=by
 obtain ⟨ta,pa,sa⟩:=he.ex
 obtain ⟨g,pg,sg⟩:=hG.ex
 exact ⟨_,GK pa pg hs hw h1,λσ H ρ μ E E' rl h k=>sa σ H ρ μ _ _ rl h λv H' d μ' t' m' p' h'=>sg σ H' ρ μ' v d _ _ (rl.go t' m') p' h' (k.go t').nx⟩
theorem lt_chain {a b c:U5}{Ta Tb Tc:ETr}{op op':zaR}{r r':L2.R2}{R R':DR2}(ho:OpR X (VG op) r)(ho':OpR X (VG op') r')(hr:dh X.K r R)(hr':dh X.K r' R')(ha:LE X a Ta)(hb:LE X b Tb)(hc:LE X c Tc)
  (hm:zae [op,op'] [b,c]=false:=by with_unfolding_all rfl):LT X (.Compare a [op,op'] [b,c] pos) (TB (gu R R' Ta Tb Tc)):=by
 obtain ⟨ta,pa,sa⟩:=ha.ex
 obtain ⟨tb,pb,sb⟩:=hb.ex
 obtain ⟨tc,pc,sc⟩:=hc.ex
 exact ⟨_,G1 ho ho' pa pb pc hm,BV (wI hr hr' sa sb sc)⟩
end
end
section
open PySem PySem.Spec PyProof.Rows L2
def mi (tp:Bool)(h:Heap)(it a:Addr)(i:Nat):Prop:=match tp with
 | true=>h.IsTupleIter it a i
 | false=>h.IsListIter it a i
def iT (tp:Bool)(h:Heap)(a:Addr)(xs:Array UC):Prop:=match tp with
 | true=>h.IsTuple a xs
 | false=>h.IsList a xs
theorem mi.at {tp:Bool}{h g:Heap}{it a:Addr}{i:Nat}(x:mi tp h it a i)(k:∀ o,h.get? it=some o->g.get? it=some o):mi tp g it a i:=by
 cases tp with
 | true=>obtain ⟨o,e,r⟩:=x;exact ⟨o,k o e,r⟩
 | false=>obtain ⟨o,e,r⟩:=x;exact ⟨o,k o e,r⟩
theorem iT.at {tp:Bool}{h g:Heap}{a:Addr}{xs:Array UC}(x:iT tp h a xs)(k:∀ o,h.get? a=some o->g.get? a=some o):iT tp g a xs:=by
 cases tp with
 | true=>obtain ⟨o,e,r⟩:=x;exact ⟨o,k o e,r⟩
 | false=>obtain ⟨o,e,r⟩:=x;exact ⟨o,k o e,r⟩
theorem mi.ex {tp:Bool}{h:Heap}{it a:Addr}{i:Nat}(x:mi tp h it a i):∃ o,h.get? it=some o/\∃ vs,o.data=.fields vs:=by
 cases tp with
 | true=>obtain ⟨o,e,_,d⟩:=x;exact ⟨o,e,_,d⟩
 | false=>obtain ⟨o,e,_,d⟩:=x;exact ⟨o,e,_,d⟩
section
variable {prog:UT} {w:Va} {A:U9} {E:UC->UE->Prop} {s:UE}
theorem Ke {it t:Addr}{i:Nat}{xs:Array UC}{x:UC}{Q:UC->UE->Prop}(hi:s.heap.IsTupleIter it t i)(ht:s.heap.IsTuple t xs)(hx:xs[i]? = some x)
  (k:∀ g,g.IsTupleIter it t (i+1)->Wu it s.heap g->Q x { s with heap:=g }):UU (U1 prog w) A (Vj (.ref it)) Q E s:=by
 obtain ⟨ob,gb,cb,db⟩:=id hi
 obtain ⟨ot,gt,_,nt,dt⟩:=ht
 delta Vj
 refine wpAny_bind (Vi (name:=OF "__next__") hi.typeIs WH (Vu WH hi.typeIs YA ?_ (Yp _)))
 refine wpAny_bind (m:=zbR (.ref it) 0) (VW gb db (x:=.ref t) rfl ?_)
 refine (show UU _ _ (if (Vs t == VO)=true then _ else _) _ _ s from ?_)
 rw[if_neg (show ¬ ((Vs t == VO)=true) by intro z;cases z)]
 refine wpAny_bind (m:=zbR (.ref it) 1) (VW gb db (x:=.int i 0) rfl ?_)
 refine wpAny_bind (m:=seqItems? (.ref t)) (V4 gt dt ?_)
 simp only[hx,Vn]
 refine wpAny_bind (V5 gb db (by simp) (wpAny_pure ⟨x,rfl,wpAny_pure (k _ ⟨_,Vz _ gb (VX (U8 db _)),(WS ..).trans cb,?_⟩ (VE ..))⟩))
 rw[U8 db];simp[W3]
theorem xj {tp:Bool}{it a:Addr}{i:Nat}{xs:Array UC}{x:UC}{Q:UC->UE->Prop}(hi:mi tp s.heap it a i)(hs:iT tp s.heap a xs)(hx:xs[i]? = some x)
  (k:∀ g,mi tp g it a (i+1)->Wu it s.heap g->Q x { s with heap:=g }):UU (U1 prog w) A (Vj (.ref it)) Q E s:=by
 cases tp with
 | true=>exact Ke hi hs hx k
 | false=>exact wpAny_nextOf_list_item hi hs hx k
theorem Mn {it t:Addr}{i:Nat}{xs:Array UC}{Q:UC->UE->Prop}(hh:A.handled=none)(hi:s.heap.IsTupleIter it t i)(ht:s.heap.IsTuple t xs)(hx:xs[i]? = none)
  (k:∀ g e,Z1 it s.heap g->(∃ o,g.get? e=some o/\o.cls=.type "StopIteration")->E (.ref e) { s with heap:=g }):UU (U1 prog w) A (Vj (.ref it)) Q E s:=by
 obtain ⟨ob,gb,cb,db⟩:=id hi
 obtain ⟨ot,gt,_,nt,dt⟩:=ht
 delta Vj
 refine wpAny_bind (Vi (name:=OF "__next__") hi.typeIs WH (Vu WH hi.typeIs YA ?_ (Yp _)))
 refine wpAny_bind (m:=zbR (.ref it) 0) (VW gb db (x:=.ref t) rfl ?_)
 refine (show UU _ _ (if (Vs t == VO)=true then _ else _) _ _ s from ?_)
 rw[if_neg (show ¬ ((Vs t == VO)=true) by intro z;cases z)]
 refine wpAny_bind (m:=zbR (.ref it) 1) (VW gb db (x:=.int i 0) rfl ?_)
 refine wpAny_bind (m:=seqItems? (.ref t)) (V4 gt dt ?_)
 simp only[hx,Vn]
 refine wpAny_bind (wpAny_rule (wpAny_bind (V5 gb db (by simp) (wpAny_bind (m:=newExc (.type "StopIteration") []) ?_))))
 simp only[newExc,newTuple]
 refine wpAny_bind (VP (wpAny_bind (m:=YR _ _) (W7 (a:=VO) (by first | rfl | (simp only[YR];rfl)) (VP ?_ (by size_fits)))) (by size_fits))
 simp only[raiseNew]
 refine wpAny_bind <| wpAny_handled ?_
 rw[(show A.in1.handled=none from hh)]
 exact wpAny_bind (wpAny_pure (wpAny_throw (k _ _ (((VE ..).extBut.push _).push _) ⟨_,UP _ rfl,rfl⟩)))
theorem IY {tp:Bool}{it a:Addr}{i:Nat}{xs:Array UC}{Q:UC->UE->Prop}(hh:A.handled=none)(hi:mi tp s.heap it a i)(hs:iT tp s.heap a xs)(hx:xs[i]? = none)
  (k:∀ g e,Z1 it s.heap g->(∃ o,g.get? e=some o/\o.cls=.type "StopIteration")->E (.ref e) { s with heap:=g }):UU (U1 prog w) A (Vj (.ref it)) Q E s:=by
 cases tp with
 | true=>exact Mn hh hi hs hx k
 | false=>exact wpAny_nextOf_list_end hh hi hs hx k
structure Zp (z ti to i j a b:Addr):Prop where
 nd:[z,ti,to,i,j].Nodup
 na:a ∉ [z,to,i,j]
 nb:b ∉ [z,to,i,j]
structure ZAt (ta tb:Bool) (h:Heap) (z ti to i j a b:Addr) (k:Nat):Prop where
 zz:WU h z ti to .none
 zt:V6 h ti (.ref i) (.ref j)
 zo:∃ u v,V6 h to u v
 zi:mi ta h i a k
 zj:mi tb h j b k
theorem Ga {ta tb:Bool}{z ti to i j a b:Addr}{k:Nat}{xs ys:Array UC}{x y:UC}{Q:Option UC->UE->Prop}(Z:Zp z ti to i j a b)(S:ZAt ta tb s.heap z ti to i j a b k)(ha:iT ta s.heap a xs)(hb:iT tb s.heap b ys)(hx:xs[k]? = some x)(hy:ys[k]? = some y)
  (q:∀ g,WU g z ti to (W3 s.heap.objs.size)->V6 g ti (.ref i) (.ref j)->V6 g to x y->mi ta g i a (k+1)->mi tb g j b (k+1)->V6 g s.heap.objs.size x y->
   (∀ c o,c≠z->c≠to->c≠i->c≠j->s.heap.get? c=some o->g.get? c=some o)->Q (some (.ref s.heap.objs.size)) { s with heap:=g }):UU (U1 prog w) A (Xf (.ref z)) Q E s:=by
 obtain ⟨zz,zt,⟨u,v,zo⟩,zi,zj⟩:=S
 obtain ⟨nd,na,nb⟩:=Z
 simp only[Wc,UQ,U2,or_false,not_or] at nd na nb
 obtain ⟨⟨n1,n2,n3,n4⟩,⟨n5,n6,n7⟩,⟨n8,n9⟩,n10,_⟩:=nd
 obtain ⟨a1,a2,a3,a4⟩:=na
 obtain ⟨b1,b2,b3,b4⟩:=nb
 have hT:s.TypeIs (.ref z) "zip" := ⟨_,zz,rfl⟩
 unfold Xf
 refine wpAny_bind (Xe (Vi (name:=OF "__next__") hT Yq (Vu Yq hT zbj ?_ (zaZ _))))
 refine wpAny_bind (m:=zbR (.ref z) 2) (VW zz rfl (x:=.bool false) rfl ?_)
 refine wpAny_bind (m:=zbR (.ref z) 3) (VW zz rfl (x:=.ref ti) rfl (wpAny_bind (V4 zt rfl (wpAny_bind (m:=VZ (.ref z)) ?_))))
 delta VZ
 refine wpAny_bind (VW zz rfl (x:=.none) rfl (wpAny_pure ?_))
 simp only[if_true]
 refine wpAny_bind (wpAny_rule (wpAny_bind (VW zz rfl (x:=.ref to) rfl (wpAny_bind (WI zz (by simp) λg1 zz1 k1=>wpAny_bind ?_)))))
 have zz1:WU g1 z ti to .ellipsis:=zz1
 simp only[zbu,zbk,zbS,Yo]
 refine wpAny_bind (wpAny_bind (Y9 (wpAny_bind (m:=Vj (.ref i)) (xj (s:={ s with heap:=g1 }) (zi.at λo e=>(k1.2 i (Vq n3)).trans e) (ha.at λo e=>(k1.2 a a1).trans e) hx λg2 zi2 k2=>wpAny_pure ?_))))
 have zo2:V6 g2 to u v:=(k2.2 to n8).trans ((k1.2 to (Vq n2)).trans zo)
 refine wpAny_bind (V4 zo2 rfl (wpAny_bind (Xm zo2 λg3 zo3 k3=>wpAny_bind (zbp (wpAny_pure ?_)))))
 have zo3:V6 g3 to x v:=zo3
 refine wpAny_bind (wpAny_bind (Y9 (wpAny_bind (m:=Vj (.ref j)) (xj (s:={ s with heap:=g3 }) (zj.at λo e=>(k3.2 j (Vq n9)).trans ((k2.2 j (Vq n10)).trans ((k1.2 j (Vq n4)).trans e)))
  (hb.at λo e=>(k3.2 b b2).trans ((k2.2 b b3).trans ((k1.2 b b1).trans e))) hy λg4 zj4 k4=>wpAny_pure ?_))))
 have zo4:V6 g4 to x v:=(k4.2 to n9).trans zo3
 refine wpAny_bind (V4 zo4 rfl (wpAny_bind (Xm zo4 λg5 zo5 k5=>wpAny_bind (zbp (wpAny_pure (wpAny_pure ?_))))))
 have zo5:V6 g5 to x y:=zo5
 refine wpAny_bind (V4 zo5 rfl (wpAny_bind (wpAny_newTuple (wpAny_bind (m:=Xt (.ref z) (.ref g5.objs.size)) ?_))))
 have sz:g5.objs.size=s.heap.objs.size:=by rw[k5.1,k4.1,k3.1,k2.1,k1.1]
 have zz5:WU g5 z ti to .ellipsis:=(k5.2 z n2).trans ((k4.2 z n4).trans ((k3.2 z n2).trans ((k2.2 z n3).trans zz1)))
 have zlt:z < g5.objs.size:=UO zz5
 delta Xt
 have zz6:WU (g5.push { cls:=.type "tuple", data:=.seq #[x,y] }) z ti to .ellipsis:=UD _ zz5
 refine wpAny_bind (WI zz6 (by simp) λg7 zz7 k7=>?_)
 have zz7:WU g7 z ti to (W3 g5.objs.size):=zz7
 refine WI zz7 (by simp) λg8 zz8 k8=>wpAny_pure ⟨_,rfl,wpAny_pure ?_⟩
 have up5:∀ c o,c≠z->g5.get? c=some o->g8.get? c=some o:=λc o c1 e=>(k8.2 c c1).trans ((k7.2 c c1).trans (UD _ e))
 have SX:V6 g8 g5.objs.size x y:=(k8.2 _ (XO zlt)).trans ((k7.2 _ (XO zlt)).trans (UP _ rfl))
 have zz8:WU g8 z ti to (W3 g5.objs.size):=zz8
 rw[sz] at zz8 SX
 have all:∀ c o,c≠z->c≠to->c≠i->c≠j->s.heap.get? c=some o->g8.get? c=some o:=λc o c1 c2 c3 c4 e=>up5 c o c1 ((k5.2 c c2).trans ((k4.2 c c4).trans ((k3.2 c c2).trans ((k2.2 c c3).trans ((k1.2 c c1).trans e)))))
 have fin:=q g8 zz8 (all ti _ (Vq n1) n5 n6 n7 zt) (up5 to _ (Vq n2) zo5) (zi2.at λo e=>up5 i o (Vq n3) ((k5.2 i (Vq n8)).trans ((k4.2 i n10).trans ((k3.2 i (Vq n8)).trans e)))) (zj4.at λo e=>up5 j o (Vq n4) ((k5.2 j (Vq n9)).trans e)) SX all
 rw[← sz] at fin
 exact fin
theorem Ho {ta tb:Bool}{z ti to i j a b:Addr}{k:Nat}{xs ys:Array UC}{Q:Option UC->UE->Prop}(hh:A.handled=none)(Z:Zp z ti to i j a b)(S:ZAt ta tb s.heap z ti to i j a b k)(ha:iT ta s.heap a xs)(hb:iT tb s.heap b ys)(he:xs[k]? = none∨ys[k]? = none)
  (q:∀ g,(∀ c o,c≠z->c≠to->c≠i->c≠j->s.heap.get? c=some o->g.get? c=some o)->Q none { s with heap:=g }):UU (U1 prog w) A (Xf (.ref z)) Q E s:=by
 obtain ⟨zz,zt,⟨u,v,zo⟩,zi,zj⟩:=S
 obtain ⟨nd,na,nb⟩:=Z
 simp only[Wc,UQ,U2,or_false,not_or] at nd na nb
 obtain ⟨⟨n1,n2,n3,n4⟩,⟨n5,n6,n7⟩,⟨n8,n9⟩,n10,_⟩:=nd
 obtain ⟨a1,a2,a3,a4⟩:=na
 obtain ⟨b1,b2,b3,b4⟩:=nb
 have hT:s.TypeIs (.ref z) "zip" := ⟨_,zz,rfl⟩
 have stop:∀ g e,(∃ o,g.get? e=some o/\o.cls=.type "StopIteration")->(∀ c o,c≠z->c≠to->c≠i->c≠j->s.heap.get? c=some o->g.get? c=some o)->
   UU (U1 prog w) A (zbT (.ref e) (.type "StopIteration") >>= λy=>if y=true then pure none else throw (.ref e)) Q E { s with heap:=g }:=λg e ⟨o,ho,hc⟩ al=>by
  refine wpAny_bind <| wpAny_isInstance (T := "StopIteration") (b:=true) ⟨o,ho,hc⟩ isSubtype_stop ?_
  exact wpAny_pure (q g al)
 unfold Xf
 refine wpAny_bind (Xe (Vi (name:=OF "__next__") hT Yq (Vu Yq hT zbj ?_ (zaZ _))))
 refine wpAny_bind (m:=zbR (.ref z) 2) (VW zz rfl (x:=.bool false) rfl ?_)
 refine wpAny_bind (m:=zbR (.ref z) 3) (VW zz rfl (x:=.ref ti) rfl (wpAny_bind (V4 zt rfl (wpAny_bind (m:=VZ (.ref z)) ?_))))
 delta VZ
 refine wpAny_bind (VW zz rfl (x:=.none) rfl (wpAny_pure ?_))
 simp only[if_true]
 refine wpAny_bind (wpAny_rule (wpAny_bind (VW zz rfl (x:=.ref to) rfl (wpAny_bind (WI zz (by simp) λg1 zz1 k1=>wpAny_bind ?_)))))
 have zz1:WU g1 z ti to .ellipsis:=zz1
 simp only[zbu,zbk,zbS,Yo]
 have zi1:mi ta g1 i a k:=zi.at λo e=>(k1.2 i (Vq n3)).trans e
 have ha1:iT ta g1 a xs:=ha.at λo e=>(k1.2 a a1).trans e
 refine wpAny_bind (wpAny_bind (Y9 (wpAny_bind (m:=Vj (.ref i)) ?_)))
 cases hx:xs[k]? with
 | none=>
  refine IY (s:={ s with heap:=g1 }) hh zi1 ha1 hx λg2 e k2 he2=>?_
  obtain ⟨oe,ge,ce⟩:=he2
  have zz2:WU g2 z ti to .ellipsis:=k2 z _ n3 zz1
  have ez:e≠z:=λy=>by subst y;rw[zz2] at ge;cases ge;simp at ce
  refine WI zz2 (by simp) λg3 _ k3=>stop g3 e ⟨oe,(k3.2 e ez).trans ge,ce⟩ λc o c1 _ c3 _ y=>(k3.2 c c1).trans (k2 c o c3 ((k1.2 c c1).trans y))
 | some x=>
  have hy:ys[k]? = none:=by rcases he with h | h;rw[hx] at h;cases h;exact h
  refine xj (s:={ s with heap:=g1 }) zi1 ha1 hx λg2 zi2 k2=>wpAny_pure ?_
  have zo2:V6 g2 to u v:=(k2.2 to n8).trans ((k1.2 to (Vq n2)).trans zo)
  refine wpAny_bind (V4 zo2 rfl (wpAny_bind (Xm zo2 λg3 zo3 k3=>wpAny_bind (zbp (wpAny_pure ?_)))))
  refine wpAny_bind (wpAny_bind (Y9 (wpAny_bind (m:=Vj (.ref j)) (IY (s:={ s with heap:=g3 }) hh (zj.at λo e=>(k3.2 j (Vq n9)).trans ((k2.2 j (Vq n10)).trans ((k1.2 j (Vq n4)).trans e)))
   (hb.at λo e=>(k3.2 b b2).trans ((k2.2 b b3).trans ((k1.2 b b1).trans e))) hy λg4 e k4 he4=>?_))))
  obtain ⟨oe,ge,ce⟩:=he4
  have zz4:WU g4 z ti to .ellipsis:=k4 z _ n4 ((k3.2 z n2).trans ((k2.2 z n3).trans zz1))
  have ez:e≠z:=λy=>by subst y;rw[zz4] at ge;cases ge;simp at ce
  refine WI zz4 (by simp) λg5 _ k5=>stop g5 e ⟨oe,(k5.2 e ez).trans ge,ce⟩ λc o c1 c2 c3 c4 y=>(k5.2 c c1).trans (k4 c o c4 ((k3.2 c c2).trans ((k2.2 c c3).trans ((k1.2 c c1).trans y))))
abbrev itO (tp:Bool)(a:Addr):Obj:={ cls:=.type (match tp with | true => "tuple_iterator" | false => "list_iterator"),data:=.fields #[.ref a,.int 0 0] }
theorem Sw {tp:Bool}{a:Addr}{xs:Array UC}{Q:UC->UE->Prop}(h:iT tp s.heap a xs)(q:Q (.ref s.heap.objs.size) { s with heap:=s.heap.push (itO tp a) }):UU (U1 prog w) A (zaF (.ref a)) Q E s:=by
 cases tp with
 | true=>exact zaK h q
 | false=>exact XT h q
abbrev zg1 (ta:Bool)(h:Heap)(a:Addr):Heap:=h.push (itO ta a)
abbrev zg2 (ta tb:Bool)(h:Heap)(a b:Addr):Heap:=(zg1 ta h a).push (itO tb b)
abbrev zg3 (ta tb:Bool)(h:Heap)(a b:Addr):Heap:=(zg2 ta tb h a b).push { cls:=.type "tuple", data:=.seq #[.ref h.objs.size,.ref (zg1 ta h a).objs.size] }
abbrev zg4 (ta tb:Bool)(h:Heap)(a b:Addr):Heap:=(zg3 ta tb h a b).push { cls:=.type "tuple", data:=.seq #[.none,.none] }
abbrev zg5 (ta tb:Bool)(h:Heap)(a b:Addr):Heap:=(zg4 ta tb h a b).push { cls:=.type "zip", data:=.fields #[.none,.bool false,.bool false,.ref (zg2 ta tb h a b).objs.size,.ref (zg3 ta tb h a b).objs.size] }
theorem Im (ta tb:Bool)(a b:Addr)(xs ys:Array UC):Meets (W0.«zip.__new__» ⟨[.type "zip", .ref a,.ref b],[]⟩) (λ_ R s=>iT ta s.heap a xs/\iT tb s.heap b ys/\R (.ok (.ret (.ref (zg4 ta tb s.heap a b).objs.size))) { s with heap:=zg5 ta tb s.heap a b }):=
 .of_wp λprog w A R s h=>by
  rcases s with ⟨hp,g,d,tk,os⟩
  obtain ⟨h1,h2,h⟩:=h
  have hs0:=PySem.sub_zip
  have H1:iT ta (zco ⟨hp,g,d,tk,os⟩) a xs:=h1
  have H2:iT tb (zco ⟨hp.push (itO ta a),g,d,tk,os⟩) b ys:=iT.at h2 λo e=>UD _ e
  wp_walk using Sw H1,Sw H2
  exact ⟨_,rfl,h⟩
theorem Gf {ta tb:Bool}{a b:Addr}{xs ys:Array UC}{Q:UC->UE->Prop}(h1:iT ta s.heap a xs)(h2:iT tb s.heap b ys)
  (q:∀ g,ZAt ta tb g (s.heap.objs.size+4) (s.heap.objs.size+2) (s.heap.objs.size+3) s.heap.objs.size (s.heap.objs.size+1) a b 0->(∀ c o,s.heap.get? c=some o->g.get? c=some o)->Q (.ref (s.heap.objs.size+4)) { s with heap:=g }) :
  UU (U1 prog w) A (call (.type "zip") [.ref a,.ref b]) Q E s:=by
 refine callType_new F.called_zip (by decide) (F.typeCall_zip_2 _ _) (F.newCall_zip_2 _ _) (λobj=>F.args_object_init_3 obj _ _) F.entry_zip_new (Im ta tb a b xs ys) ⟨h1,h2,?_⟩
 have s1:(zg1 ta s.heap a).objs.size=s.heap.objs.size+1:=XU ..
 have s2:(zg2 ta tb s.heap a b).objs.size=s.heap.objs.size+2:=by rw[XU,s1]
 have s3:(zg3 ta tb s.heap a b).objs.size=s.heap.objs.size+3:=by rw[XU,s2]
 have s4:(zg4 ta tb s.heap a b).objs.size=s.heap.objs.size+4:=by rw[XU,s3]
 have p5:(zg5 ta tb s.heap a b).get? (zg4 ta tb s.heap a b).objs.size=some _:=UP _ rfl
 have p4:(zg5 ta tb s.heap a b).get? (zg3 ta tb s.heap a b).objs.size=some _:=UD _ (UP _ rfl)
 have p3:(zg5 ta tb s.heap a b).get? (zg2 ta tb s.heap a b).objs.size=some _:=UD _ (UD _ (UP _ rfl))
 have p2:(zg5 ta tb s.heap a b).get? (zg1 ta s.heap a).objs.size=some (itO tb b):=UD _ (UD _ (UD _ (UP _ rfl)))
 have p1:(zg5 ta tb s.heap a b).get? s.heap.objs.size=some (itO ta a):=UD _ (UD _ (UD _ (UD _ (UP _ rfl))))
 have i1:mi ta (zg5 ta tb s.heap a b) s.heap.objs.size a 0:=by cases ta<;>exact ⟨_,p1,rfl,rfl⟩
 have i2:mi tb (zg5 ta tb s.heap a b) (zg1 ta s.heap a).objs.size b 0:=by cases tb<;>exact ⟨_,p2,rfl,rfl⟩
 show _/\_
 rw[s2,s3,s4] at p5
 rw[s1,s2] at p3
 rw[s3] at p4
 rw[s1] at i2
 rw[s4]
 exact ⟨⟨_,p5,rfl⟩,q _ ⟨p5,p3,⟨_,_,p4⟩,i1,i2⟩ λc o x=>UD _ (UD _ (UD _ (UD _ (UD _ x))))⟩
end
def Sq (tp:Bool)(K:UB)(H:Hp)(a:Addr)(xs:List V):Prop:=match tp with
 | true=>SqT K H a xs
 | false=>SqL K H a xs
def SqX (tp:Bool)(K:UB)(H:Hp)(a:Addr)(xs:List V):Prop:=match tp with
 | true=>SqT K H a xs
 | false=>SqF K H a xs
theorem SqX.sq {tp:Bool}{K:UB}{H:Hp}{a:Addr}{xs:List V}(h:SqX tp K H a xs):Sq tp K H a xs:=by
 cases tp with
 | true=>exact h
 | false=>exact SqF.sq h
theorem Inv.sq {X:Cx}{pins:List (Addr×Obj)}{σ:L2.St}{H:Hp}{s:UE}{tp:Bool}{a:Addr}{xs:List V}(I:Inv X pins σ H s)(h:Sq tp X.K H a xs):∃ its:List UC,Vals xs its/\iT tp s.heap a its.toArray:=by
 cases tp with
 | true=>obtain ⟨its,r,p,_⟩:=I.tuple h;exact ⟨its,r,p⟩
 | false=>
  obtain ⟨its,r,⟨o,n,e1,e2,_,e3⟩,_⟩:=I.list h
  exact ⟨its,r,o,e1,e2,n,e3⟩
theorem Inv.HG {X:Cx}{pins:List (Addr×Obj)}{σ:L2.St}{H:Hp}{s:UE}{tp:Bool}{a:Addr}{xs ys:List V}(I:Inv X pins σ H s)(h:Sq tp X.K H a xs)(h':Sq tp X.K H a ys):xs=ys:=by
 cases tp with
 | true=>exact I.vL h h'
 | false=>exact I.Aa h h'
def Itz (ta tb:Bool)(K:UB)(a b:Addr):It:=
 ⟨λi H=>∃ xs ys x y,Sq ta K H a xs/\Sq tb K H b ys/\xs[i]? = some x/\ys[i]? = some y,
  λi H v H'=>∃ x y p,(∀ xs,Sq ta K H a xs->xs[i]? = some x)/\(∀ ys,Sq tb K H b ys->ys[i]? = some y)/\v=.ref p/\H p=none/\H'=L2.upd H p (.tup [x,y]),
  λi H=>∃ xs ys,Sq ta K H a xs/\Sq tb K H b ys/\(xs.length<=i∨ys.length<=i)⟩
theorem Kb {P:UT}{w:Va}{K:UB}{es:List U5}{ek:Nat}{ep:Pos}{ta tb:Bool}{z ti to i j a b:Addr}(Z:Zp z ti to i j a b) :
  Turn P w K (.Tuple es ek ep) (Itz ta tb K a b) [z,ti,to,i,j] z (λk h=>ZAt ta tb h z ti to i j a b k) where
 mem:=by simp
 obj:=λk h S c hc=>by
  obtain ⟨zz,zt,⟨u,v,zo⟩,zi,zj⟩:=S
  simp only[UQ,U2,or_false] at hc
  rcases hc with rfl | rfl | rfl | rfl | rfl
  ·exact ⟨_,zz,λv y=>by cases y⟩
  ·exact ⟨_,zt,λv y=>by cases y⟩
  ·exact ⟨_,zo,λv y=>by cases y⟩
  ·obtain ⟨o,e,vs,d⟩:=zi.ex;exact ⟨o,e,λv y=>by rw[d] at y;cases y⟩
  ·obtain ⟨o,e,vs,d⟩:=zj.ex;exact ⟨o,e,λv y=>by rw[d] at y;cases y⟩
 keep:=λk h g S kp=>by
  obtain ⟨zz,zt,⟨u,v,zo⟩,zi,zj⟩:=S
  exact ⟨kp z (by simp) _ zz,kp ti (by simp) _ zt,⟨u,v,kp to (by simp) _ zo⟩,zi.at λo e=>kp i (by simp) o e,zj.at λo e=>kp j (by simp) o e⟩
 item:=by
  intro X hP hw hK hc k pins s σ H E I hf S hg
  subst hP hw hK
  obtain ⟨xs,ys,x,y,qa,qb,ex,ey⟩:=hg
  obtain ⟨ia,ra,sa⟩:=Inv.sq I qa
  obtain ⟨ib,rb,sb⟩:=Inv.sq I qb
  obtain ⟨ux,hux,rx⟩:=ra.get ex
  obtain ⟨uy,huy,ry⟩:=rb.get ey
  refine Ga Z S sa sb (x:=ux) (y:=uy) (by simpa using hux) (by simpa using huy) λg zz zt zo zi zj new al=>⟨_,rfl,wpAny_letOwnedTupleGo_zip zz λg2 zz2 k2=>?_⟩
  have nd:=Z.nd
  simp only[Wc,UQ,U2,or_false,not_or] at nd
  obtain ⟨⟨n1,n2,n3,n4⟩,_⟩:=nd
  have zlt:z < s.heap.objs.size:=UO S.zz
  have fr:H s.heap.objs.size=none:=I.hok.fresh (U0 _)
  have new2:V6 g2 s.heap.objs.size ux uy:=(k2.2 _ (XO zlt)).trans new
  have all:∀ c o,c ∉ [z,ti,to,i,j]->s.heap.get? c=some o->g2.get? c=some o:=λc o hc e=>by
   simp only[UQ,U2,or_false,not_or] at hc
   exact (k2.2 c hc.1).trans (al c o hc.1 hc.2.2.1 hc.2.2.2.1 hc.2.2.2.2 e)
  have nfp:∀ c u,H c=some u->c ∉ [z,ti,to,i,j]:=λc u e hc=>by rw[(hf c hc).1] at e;cases e
  refine ⟨.ref s.heap.objs.size,L2.upd H s.heap.objs.size (.tup [x,y]),?_,rfl,⟨x,y,_,λxs' q=>by rw[Inv.HG I q qa];exact ex,λys' q=>by rw[Inv.HG I q qb];exact ey,rfl,fr,rfl⟩,⟨zz2,(k2.2 ti (Vq n1)).trans zt,⟨_,_,(k2.2 to (Vq n2)).trans zo⟩,zi.at λo e=>(k2.2 i (Vq n3)).trans e,zj.at λo e=>(k2.2 j (Vq n4)).trans e⟩,λc hc=>?_⟩
  ·refine L2.Inv.step (s:=s) (H:=H) (H':=L2.upd H s.heap.objs.size (.tup [x,y])) (g':=s.gens) (d':=s.drawn) (t':=s.toks) (h':=g2) (ch:=[z,ti,to,i,j]) I (λc hc=>⟨(hf c hc).2.2.2.1,(hf c hc).2.1,(hf c hc).2.2.2.2.1,(hf c hc).2.2.2.2.2⟩) (λc o _ _ hc e _=>all c o hc e) (λc o _ _ hc e _=>⟨o.slots,all c o hc e⟩) (λc o hc e n=>?_) (λc o hc e=>⟨o,all c o hc e⟩)
    (λc xs e=>?_) (λc o u e=>?_) (λc ps e=>⟨#[],?_⟩) (λm hm=>?_) (λc u e=>?_) I.bare
   ·rw[aV (UW (UO e))];exact n
   ·rw[aV (bX e fr)];exact e
   ·rw[aV (bX e fr)];exact e
   ·rw[aV (bX e fr),e];simp
   ·obtain ⟨o,es',ep',ho,r⟩:=hm
    exact ⟨o,es',ep',all _ o (λhc=>(hf _ hc).2.1 rfl) ho,r⟩
   ·by_cases hcT:c=s.heap.objs.size
    ·subst hcT
     rw[bc] at e;cases e
     exact ⟨by show 2<=sizeLine;decide,[ux,uy],.cons rx (.cons ry .nil),⟨_,new2⟩⟩
    ·rw[aV hcT] at e
     refine (I.hok c u e).rY (λc' v hc' q=>all c' v ?_ q) (λc' q=>by rw[aV (bX q fr)];exact q) λc' xs q=>by rw[aV (bX q fr)];exact q
     rcases hc' with rfl | hc'
     ·exact nfp _ _ e
     ·exact nfp _ _ hc'
  ·have hcl:c≠s.heap.objs.size:=by
    obtain ⟨zz,zt,⟨u,v,zo⟩,zi,zj⟩:=S
    simp only[UQ,U2,or_false] at hc
    rcases hc with rfl | rfl | rfl | rfl | rfl
    ·exact UW (UO zz)
    ·exact UW (UO zt)
    ·exact UW (UO zo)
    ·obtain ⟨o,e,_⟩:=zi.ex;exact UW (UO e)
    ·obtain ⟨o,e,_⟩:=zj.ex;exact UW (UO e)
   rw[aV hcl];exact (hf c hc).1
 done:=by
  intro X hP hw hK hc k pins s σ H E I hf S hg
  subst hP hw hK
  obtain ⟨xs,ys,qa,qb,he⟩:=hg
  obtain ⟨ia,ra,sa⟩:=Inv.sq I qa
  obtain ⟨ib,rb,sb⟩:=Inv.sq I qb
  have la:=ra.length
  have lb:=rb.length
  refine Ho (I.ok.hd hc) Z S sa sb (he.imp (λh=>by simp;omega) λh=>by simp;omega) λg al=>⟨rfl,?_⟩
  have all:∀ c o,c ∉ [z,ti,to,i,j]->s.heap.get? c=some o->g.get? c=some o:=λc o hc e=>by
   simp only[UQ,U2,or_false,not_or] at hc
   exact al c o hc.1 hc.2.2.1 hc.2.2.2.1 hc.2.2.2.2 e
  have nfp:∀ c u,H c=some u->c ∉ [z,ti,to,i,j]:=λc u e hc=>by rw[(hf c hc).1] at e;cases e
  refine L2.Inv.step (s:=s) (H:=H) (H':=H) (g':=s.gens) (d':=s.drawn) (t':=s.toks) (h':=g) (ch:=[z,ti,to,i,j]) I (λc hc=>⟨(hf c hc).2.2.2.1,(hf c hc).2.1,(hf c hc).2.2.2.2.1,(hf c hc).2.2.2.2.2⟩) (λc o _ _ hc e _=>all c o hc e) (λc o _ _ hc e _=>⟨o.slots,all c o hc e⟩) (λc o hc e n=>n) (λc o hc e=>⟨o,all c o hc e⟩)
   (λc xs e=>e) (λc o u e=>e) (λc ps e=>⟨#[],by rw[e];simp⟩) (λm hm=>?_) (λc u e=>?_) I.bare
  ·obtain ⟨o,es',ep',ho,r⟩:=hm
   exact ⟨o,es',ep',all _ o (λhc=>(hf _ hc).2.1 rfl) ho,r⟩
  ·refine (I.hok c u e).rY (λc' v hc' q=>all c' v ?_ q) (λc' q=>q) λc' xs q=>q
   rcases hc' with rfl | hc'
   ·exact nfp _ _ e
   ·exact nfp _ _ hc'
 self:=λ_ _ _ _ _ S h=>zbl S.zz h
theorem Rb (n a b:Nat)(ha:a < n)(hb:b < n):Zp (n+4) (n+2) (n+3) n (n+1) a b:=by
 refine ⟨?_,?_,?_⟩
 ·show ([n+4,n+2,n+3,n,n+1]:List Nat).Nodup
  simp only[Wc,UQ,U2,or_false,not_or,List.nodup_nil,and_true,not_false_eq_true]
  and_intros<;>omega
 ·show a ∉ ([n+4,n+3,n,n+1]:List Nat)
  simp only[UQ,U2,or_false,not_or]
  omega
 ·show b ∉ ([n+4,n+3,n,n+1]:List Nat)
  simp only[UQ,U2,or_false,not_or]
  omega
theorem Nn (n c:Nat)(h:c∈([n+4,n+2,n+3,n,n+1]:List Nat)):n<=c:=by
 simp only[UQ,U2,or_false] at h
 omega
section
variable {X:Cx} {ea eb:U5} {es:List U5} {ek:Nat} {ep p pos:Pos}
def kQ (tp:Bool)(x:D)(f:List D->Prop):Prop:=match tp,x with
 | true,.tup ds=>f ds
 | false,.ls ds=>f ds
 | _,_=>False
theorem Ht {K:UB}{H:Hp}{tp:Bool}{v:V}{x:D}{f:List D->Prop}(p:Dp K H v x)(h:kQ tp x f):∃ a xs ds,v=.ref a/\SqX tp K H a xs/\DpL K H xs ds/\f ds:=by
 cases tp with
 | true=>cases p with
  | @tup a xs ds q l=>exact ⟨a,xs,ds,rfl,q,l,h⟩
  | _=>exact UG h
 | false=>cases p with
  | @ls a xs ds q l=>exact ⟨a,xs,ds,rfl,q,l,h⟩
  | _=>exact UG h
theorem Tk.sq {K:UB}{H H':Hp}{tp:Bool}{a:Addr}{xs:List V}(t:Tk H H')(h:SqX tp K H a xs):Sq tp K H' a xs:=by
 cases tp with
 | true=>exact t.sqT h
 | false=>exact (t.sqF h).sq
end
end
section
open PySem PySem.Spec PyProof.Rows L2
def kObj (x:D)(f:Addr->Prop):Prop:=match x with
 | .obj a=>f a
 | _=>False
theorem ma (a:Addr)(f):kObj (.obj a) f=f a:=rfl
section
variable {X:Cx} {o a b c e:U5} {To Ta Tb Tc Te T T':ETr} {pos:Pos}
theorem S8 {K:UB}{H:Hp}{μ:Mu}{q:Addr}{u:HO}(m:cH K H μ)(t:Tk H (L2.upd H q u)):cH K (L2.upd H q u) (dn μ q):=λz y ez=>by
 have zq:z≠q:=λw=>by subst w;unfold dn at ez;rw[if_pos rfl] at ez;cases ez
 have ez':μ z=some y:=by unfold dn at ez;rw[if_neg zq] at ez;exact ez
 exact (m z _ ez').ne t zq
theorem rW {H:Hp}{q:Addr}{u:HO}{xs:List V}(ex:H q=some (.lst xs)):Tk H (L2.upd H q u):=
 .upd (λys z=>by rw[ex] at z;cases z) λo' w z=>by rw[ex] at z;cases z
theorem Ny {K:UB}{H:Hp}{μ:Mu}{q:Addr}{xs ys:List V}{ds:List D}(m:cH K H μ)(ex:H q=some (.lst xs))(l:DpL K H ys ds):cH K (L2.upd H q (.lst ys)) (up μ q (.lst ds)):=λz y ez=>by
 by_cases zq:z=q
 ·subst zq
  rw[bh] at ez;cases ez
  exact ⟨ys,bc,l.mono (rW ex)⟩
 ·rw[bQ zq] at ez
  exact (m z _ ez).ne (rW ex) zq
def uS (T:ETr):ETr:=λρ μ Q=>T ρ μ λx μ1=>kObj x λa=>kL μ1 a λds=>Q (.ls ds) (dn μ1 a)
theorem qY (h:LE X e T):LE X e (uS T):=by
 obtain ⟨t,p,s⟩:=h.ex
 refine ⟨_,mf p,λσ H ρ μ Q Q' rl h k=>s σ H ρ μ _ _ rl h λv H1 d μ1 t1 m1 p1 h1=>?_⟩
 cases p1 with
 | obj q=>
  obtain ⟨ds,e0,h2⟩:=cJ h1
  obtain ⟨xs,ex,l⟩:=m1 q _ e0
  refine ⟨q,xs,rfl,ex,λu=>?_⟩
  have t2:Tk H1 (L2.upd H1 q (.frz u (.lst xs))):=rW ex
  exact k _ _ _ (dn μ1 q) (t1.trans t2) (S8 m1 t2) (.ls (.inl ⟨u,bc⟩) (l.mono t2)) h2
 | _=>exact UG h1
def mH (To Te:ETr):ETr:=λρ μ Q=>To ρ μ λx μ1=>kObj x λa=>kL μ1 a λ_=>Te ρ μ1 λy μ2=>kL μ2 a λds=>ds.length < 1000000/\Q .non (up μ2 a (.lst (ds++[y])))
theorem le_app {apos cpos:Pos}(ho:LE X o To)(he:LE X e Te)
  (hbase:WX o (OF "append") X.env (VI o X.env)=VI o X.env:=by rfl)
  (hfew:((Vr cpos (UI [e] X.env)).all (λx=>!x.1)&&(YN cpos (Xl [] X.env)).all (λx=>x.1.isSome)
   && decide ([e].length+([]:List WZ).length+(if ([]:List WZ).isEmpty then 0 else 1) < 30))=true:=by rfl)
  (hline:(apos.endLine == cpos.line)=true:=by rfl) (hs:UI [e] X.env=(false,VI e X.env)::UI [] X.env:=by rfl) (hplain:(Vr cpos (UI [] X.env)).any (·.1)=false:=by rfl) :
  LE X (.Call (.Attribute o (OF "append") apos) [e] [] cpos) (mH To Te):=by
 obtain ⟨to,po,so⟩:=ho.ex
 obtain ⟨te,pe,se⟩:=he.ex
 refine ⟨_,Iz XF PySem.F.slot_list_append PySem.F.type_list_append wo po (cG pe gf hs) hbase hfew hline hs hplain,λσ H ρ μ Q Q' rl h k=>so σ H ρ μ _ _ rl h λx H1 dx μ1 t1 m1 p1 h1=>?_⟩
 cases p1 with
 | obj q=>
  obtain ⟨ds0,e0,h2⟩:=cJ h1
  obtain ⟨xs0,ex0,_⟩:=m1 q _ e0
  refine ⟨.inl ⟨rfl,_,SqL.of ex0⟩,se σ H1 ρ μ1 _ _ (rl.go t1 m1) h2 λy H2 dy μ2 t2 m2 p2 h3=>?_⟩
  obtain ⟨ds,e1,lz,h4⟩:=cJ h3
  obtain ⟨xs,ex,l⟩:=m2 q _ e1
  exact ⟨q,xs,y,rfl,rfl,ex,by rw[l.length];exact U4 lz (by decide),k _ _ _ _ ((t1.trans t2).trans (rW ex)) (Ny m2 ex (l.append (.cons p2 .nil))) .non h4⟩
 | _=>exact UG h1
def cO:FSp:=λds μ Q=>match ds with
 | [.tup xs]=>Q (.tup xs) μ
 | [.ls xs]=>Q (.tup xs) μ
 | [.obj a]=>kL μ a λxs=>Q (.tup xs) μ
 | _=>False
theorem cW {K:UB}:uV K (λxs H Q=>∃ p ys,xs=[.ref p]/\((SqL K H p ys/\∀ l,H l=none->Q (.ref l) (L2.upd H l (.tup ys)))∨(SqT K H p ys/\Q (.ref p) H))) cO:=λH μ xs ds Q Q' m p h k=>by
 unfold cO at h
 split at h
 ·cases p with | cons p1 p2=>cases p2;cases p1 with | tup q l=>exact ⟨_,_,rfl,.inr ⟨q,k _ H _ μ (.refl H) m (.tup q l) h⟩⟩
 ·cases p with | cons p1 p2=>cases p2;cases p1 with | ls q l=>exact ⟨_,_,rfl,.inl ⟨q.sq,λz hz=>k _ _ _ μ (.new hz) (fj m hz) (.tup (SqT.of bc) (l.mono (.new hz))) h⟩⟩
 ·rename_i q
  cases p with | cons p1 p2=>
  cases p2;cases p1
  obtain ⟨ys,e0,h⟩:=cJ h
  obtain ⟨xs,ex,l⟩:=m q _ e0
  exact ⟨_,_,rfl,.inl ⟨SqL.of ex,λz hz=>k _ _ _ μ (.new hz) (fj m hz) (.tup (SqT.of bc) (l.mono (.new hz))) h⟩⟩
 ·exact UG h
def BQ:FSp:=λds μ Q=>match ds with
 | [.tup xs]=>∀ p,μ p=none->Q (.obj p) (up μ p (.lst xs))
 | [.ls xs]=>∀ p,μ p=none->Q (.obj p) (up μ p (.lst xs))
 | [.obj a]=>kL μ a λxs=>∀ p,μ p=none->Q (.obj p) (up μ p (.lst xs))
 | _=>False
def CK:FSp:=λds μ Q=>match ds with
 | [.tup xs]=>Q (.ls xs) μ
 | [.ls xs]=>Q (.ls xs) μ
 | [.obj a]=>kL μ a λxs=>Q (.ls xs) μ
 | _=>False
def Sj (Q:VK):VK:=λv H1=>∃ a xs,v=.ref a/\H1 a=some (.lst xs)/\∀ o,Q v (L2.upd H1 a (.frz o (.lst xs)))
theorem mx {K:UB}{H:Hp}{μ:Mu}{ys:List V}{ds:List D}{Q:DK}{Q':VK}{z:Addr}(m:cH K H μ)(l:DpL K H ys ds)(h:Q (.ls ds) μ)(k:lL K H Q Q')(hz:H z=none):Sj Q' (.ref z) (L2.upd H z (.lst ys)):=
 ⟨z,ys,rfl,bc,λo=>by
  have e:L2.upd (L2.upd H z (.lst ys)) z (.frz o (.lst ys))=L2.upd H z (.frz o (.lst ys)):=xu
  rw[e]
  exact k _ _ _ μ (.new hz) (fj m hz) (.ls (.inl ⟨o,bc⟩) (l.mono (.new hz))) h⟩
def jw:D->Bool
 | .non=>true
 | .bl _=>true
 | .int _=>true
 | .str _=>true
 | _=>false
def inD (x:D)(xs:List D):Bool:=xs.any λy=>eqD y x
def rIn (neg:Bool):DR2:=λx y μ Q=>match y with
 | .tup xs=>(jw x=true/\xs.all jw=true)/\Q (.bl (if neg then !inD x xs else inD x xs)) μ
 | .ls xs=>(jw x=true/\xs.all jw=true)/\Q (.bl (if neg then !inD x xs else inD x xs)) μ
 | .obj a=>kL μ a λxs=>(jw x=true/\xs.all jw=true)/\Q (.bl (if neg then !inD x xs else inD x xs)) μ
 | _=>False
end
end
section
open PySem PySem.Spec PyProof.Rows L2
section
variable {X:Cx} {a b e:U5} {Ta Tb T:ETr} {pos:Pos}
def R9 (t:TE):TE:=λσ H Q=>t σ H λv H1=>Q v H1∨Sj Q v H1
theorem D9 {t:TE}(h:PE X e t):PE X e (R9 t):=by
 have g:PE X e (λσ H Q=>∃ P:VK,Kh t σ H P/\∀ v H',P v H'->Q v H'):=λpins s σ H Q I ⟨P,hP,k⟩=>
  thn (mf h pins s σ H P I hP) λu s1 ⟨v,H1,I1,r,q⟩=>⟨v,H1,I1,r,k _ _ q⟩
 intro pins s σ H Q I hh
 refine thn (h pins s σ H _ I hh) λu s1 ⟨v,H1,I1,r,q⟩=>?_
 rcases q with q | ⟨c,xs,rfl,ec,q⟩
 ·exact ⟨v,H1,I1,r,q⟩
 ·have hz:=I1.hok c _ ec
  obtain ⟨z,its,n,rv,hg⟩:=hz
  have nl:∀ d o,H1 d=some o->(∀ ys,o≠.lst ys)->d≠c:=λd o e1 e2 w=>by subst w;rw[ec] at e1;cases e1;exact e2 _ rfl
  refine ⟨.ref c,_,I1.un (h':=s1.heap) (t':=s1.toks) (H':=L2.upd H1 c (.frz { cls:=.type "list", data:=.seq its.toArray n } (.lst xs))) ⟨λd o e _ _ _=>e,λd o e _ _ _=>⟨o.slots,e⟩,λd o e w _=>?_,λd o e _=>⟨o,e⟩,λd ys e=>?_,λd o u e=>?_,λd ps e=>⟨#[],?_⟩⟩ (λd u e=>?_),r,q _⟩
  ·rw[aV (λz=>by subst z;rw[ec] at w;cases w)];exact w
  ·rw[aV (nl d _ e (λ_=>nofun))];exact e
  ·rw[aV (nl d _ e (λ_=>nofun))];exact e
  ·rw[aV (nl d _ e (λ_=>nofun)),e];simp
  ·by_cases hd:d=c
   ·subst hd
    rw[bc] at e;cases e
    exact ⟨hg,z,its,n,rv,hg⟩
   ·rw[aV hd] at e
    refine (I1.hok d u e).rY (λk w _ q=>q) (λk q=>?_) λk ys q=>?_
    ·rw[aV (nl k _ q (λ_=>nofun))];exact q
    ·rw[aV (nl k _ q (λ_=>nofun))];exact q
def NG (K:UB):R2:=λx y H Q=>∃ p q ys,x=.ref p/\y=.ref q/\SqT K H p []/\SqT K H q ys/\Q (.ref q) H
theorem Lm:OpR X (WR .Add) (NG X.K):=λpins s σ H x y v u Q I rx ry ⟨p,q,ys,e1,e2,hp,hq,h⟩=>by
 subst e1 e2
 cases rx
 cases ry
 obtain ⟨its,r1,p1,_⟩:=I.tuple hp
 obtain ⟨its2,r2,p2,_⟩:=I.tuple hq
 cases r1
 obtain ⟨⟨c1,d1,t1,l1⟩,ho,hc,n,hd⟩:=id p1
 obtain ⟨⟨c2,d2,t2,l2⟩,ho2,hc2,n2,hd2⟩:=id p2
 simp only at hc hd hc2 hd2
 subst hc hd hc2 hd2
 exact Zv ⟨_,ho,rfl⟩ ⟨_,ho2,rfl⟩ Zf zar XS XD (Xw _ _)
  (tuple_addW0 p q #[] its2.toArray n n2 d1 d2 l1 l2 rfl) ⟨ho,ho2,⟨.ref q,H,I,rfl,h⟩⟩
def N0 (K:UB):R2:=λx y H Q=>∃ p q xs ys,x=.ref p/\y=.ref q/\SqL K H p xs/\SqL K H q ys/\xs.length+ys.length<=sizeLine/\∀ z,H z=none->Q (.ref z) (L2.upd H z (.lst (xs++ys)))
theorem K6:OpR X (WR .Add) (N0 X.K):=λpins s σ H x y v u Q I rx ry ⟨p,q,xs,ys,e1,e2,hp,hq,hz,h⟩=>by
 subst e1 e2
 cases rx
 cases ry
 obtain ⟨its,r1,p1,_⟩:=I.list hp
 obtain ⟨its2,r2,p2,_⟩:=I.list hq
 obtain ⟨⟨c1,d1,t1,l1⟩,n,ho,hc,hx,hd⟩:=id p1
 obtain ⟨⟨c2,d2,t2,l2⟩,n2,ho2,hc2,hx2,hd2⟩:=id p2
 simp only at hc hd hc2 hd2
 subst hc hd hc2 hd2
 have z1:=r1.length
 have z2:=r2.length
 refine Zv ⟨_,ho,rfl⟩ ⟨_,ho2,rfl⟩ PySem.noFill_list_add PySem.seq_list_add PySem.F.slot_list_add PySem.F.entry_list_add (PySem.F.args_list_add_2 _ _)
  (list_addW p q its.toArray its2.toArray n n2 d1 d2 l1 l2 (by rw[UR,UR];omega)) ⟨ho,ho2,?_⟩
 have ea:its.toArray++its2.toArray=(its++its2).toArray:=by simp
 rw[ea]
 exact ⟨.ref _,_,I.TJ (t':=s.toks) (r1.append r2) (by rw[UY];omega),rfl,h _ I.fresh⟩
def aY:DR2:=λx y μ Q=>match x,y with
 | .int i,.int j=>Q (.int (i+j)) μ
 | .str i,.str j=>i.length+j.length<=1000000/\Q (.str (i++j)) μ
 | .tup a,.tup b=>a.length+b.length<=1000000/\Q (.tup (a++b)) μ
 | .ls a,.ls b=>a.length+b.length<=1000000/\Q (.ls (a++b)) μ
 | _,_=>False
def rPl (K:UB):R2:=λx y H Q=>(rI0 λi j=>.int (i+j)) x y H Q∨(∃ i j,x=.str i/\y=.str j/\i.length+j.length<=sizeLine/\Q (.str (i++j)) H)∨Np K x y H Q∨NG K x y H Q∨N0 K x y H Q
theorem Lz:OpR X (WR .Add) (rPl X.K):=λpins s σ H x y v u Q I rx ry h=>by
 rcases h with h | h | h | h | h
 ·exact QS pins s σ H x y v u Q I rx ry h
 ·exact C2 pins s σ H x y v u Q I rx ry h
 ·exact L0 pins s σ H x y v u Q I rx ry h
 ·exact Lm pins s σ H x y v u Q I rx ry h
 ·exact K6 pins s σ H x y v u Q I rx ry h
theorem aQ (ha:LE X a Ta)(hb:LE X b Tb):LE X (.BinOp a .Add b pos) (aq aY Ta Tb):=by
 obtain ⟨ta,pa,sa⟩:=ha.ex
 obtain ⟨tb,pb,sb⟩:=hb.ex
 refine ⟨_,D9 (NR Lz pa pb),λσ H ρ μ Q Q' rl h k=>sa σ H ρ μ _ _ rl h λx H1 dx μ1 t1 m1 p1 h1=>sb σ H1 ρ μ1 _ _ (rl.go t1 m1) h1 λy H2 dy μ2 t2 m2 p2 h2=>?_⟩
 have p1:=p1.mono t2
 have k:=k.go (t1.trans t2)
 cases p1 with
 | int i=>
  cases p2 with
  | int j=>exact .inl ⟨i,j,rfl,rfl,.inl (k _ H2 _ μ2 (.refl H2) m2 (.int _) h2)⟩
  | _=>exact UG h2
 | str i=>
  cases p2 with
  | str j=>exact .inr (.inl ⟨i,j,rfl,rfl,big h2.1,.inl (k _ H2 _ μ2 (.refl H2) m2 (.str _) h2.2)⟩)
  | _=>exact UG h2
 | @tup q xs ds sq l=>
  cases p2 with
  | @tup q' ys es sq' l'=>
   obtain ⟨hz,h3⟩:=h2
   by_cases hx:xs=[]
   ·subst hx
    cases l
    exact .inr (.inr (.inr (.inl ⟨q,q',ys,rfl,rfl,sq,sq',.inl (k _ H2 _ μ2 (.refl H2) m2 (.tup sq' l') h3)⟩)))
   ·refine .inr (.inr (.inl ⟨q,q',xs,ys,rfl,rfl,sq,sq',hx,by rw[l.length,l'.length];exact big hz,λhy=>?_,λ_ z hzn=>.inl ?_⟩))
    ·subst hy
     cases l'
     rw[Ve] at h3
     exact .inl (k _ H2 _ μ2 (.refl H2) m2 (.tup sq l) h3)
    ·exact k _ _ _ μ2 (.new hzn) (fj m2 hzn) (.tup (SqT.of bc) ((l.append l').mono (.new hzn))) h3
  | _=>exact UG h2
 | @ls q xs ds sq l=>
  cases p2 with
  | @ls q' ys es sq' l'=>exact .inr (.inr (.inr (.inr ⟨q,q',xs,ys,rfl,rfl,sq.sq,sq'.sq,by rw[l.length,l'.length];exact big h2.1,λz hz=>.inr (mx m2 (l.append l') h2.2 k hz)⟩)))
  | _=>exact UG h2
 | _=>cases p2<;>exact UG h2
abbrev OTr:=ST->Mu->(Option Int->Mu->Prop)->Prop
def ONo:OTr:=λ_ μ Q=>Q none μ
def mP (T:ETr):OTr:=λρ μ Q=>T ρ μ λx μ1=>kI x λi=>Q (some i) μ1
def TV (K:UB)(t:TO)(T:OTr):Prop:=∀ σ H ρ μ (Q:Option Int->Mu->Prop) (Q':Option Int->Hp->Prop),Rl K σ H ρ μ->T ρ μ Q->(∀ i H' μ',Tk H H'->cH K H' μ'->Q i μ'->Q' i H')->t σ H Q'
structure LO (X:Cx) (o:Option U5) (T:OTr):Prop where
 ex:∃ t,PO X o t/\TV X.K t T
theorem uk:LO X none ONo:=⟨_,K5,λσ H ρ μ Q Q' rl h k=>k none H μ (.refl H) rl.mu h⟩
theorem ji (h:LE X e T):LO X (some e) (mP T):=by
 obtain ⟨t,p,s⟩:=h.ex
 refine ⟨_,K7 p,λσ H ρ μ Q Q' rl h k=>s σ H ρ μ _ _ rl h λv H1 d μ1 t1 m1 p1 h1=>?_⟩
 cases p1 with
 | int i=>exact ⟨i,rfl,k _ H1 μ1 t1 m1 h1⟩
 | _=>exact UG h1
def cutD {α:Type}(xs:List α)(lo hi:Option Int):List α:=(xs.drop (HT.sIx xs.length 0 lo)).take (HT.sIx xs.length xs.length hi - HT.sIx xs.length 0 lo)
theorem Cp {α:Type}{xs:List α}{lo hi:Option Int}(h:HT.sIx xs.length 0 lo=0/\HT.sIx xs.length xs.length hi=xs.length):cutD xs lo hi=xs:=by
 unfold cutD;rw[h.1,h.2];simp
theorem DpL.take {K:UB}{H:Hp}:∀ {vs:List V} {ds:List D} (n:Nat),DpL K H vs ds->DpL K H (vs.take n) (ds.take n)
 | _,_,0,_=>.nil
 | _,_,_+1,.nil=>.nil
 | _,_,n+1,.cons h l=>.cons h (DpL.take n l)
theorem DpL.drop {K:UB}{H:Hp}:∀ {vs:List V} {ds:List D} (n:Nat),DpL K H vs ds->DpL K H (vs.drop n) (ds.drop n)
 | _,_,0,l=>l
 | _,_,_+1,.nil=>.nil
 | _,_,n+1,.cons _ l=>DpL.drop n l
theorem DpL.cut {K:UB}{H:Hp}{vs:List V}{ds:List D}(lo hi:Option Int)(l:DpL K H vs ds):DpL K H (A2 vs lo hi) (cutD ds lo hi):=by
 unfold A2 cutD;rw[l.length];exact (l.drop _).take _
theorem AJ {prog:UT}{w:Va}{A:U9}{E:UC->UE->Prop}{s:UE}{t sl:Addr}{items:Array UC}{vl vu:UC}{lo hi:Option Int}{Q:UC->UE->Prop}(ht:IsTup s.heap t items)(hs:s.heap.IsSliceOf sl vl vu .none)(pl:IsPart vl lo)(pu:IsPart vu hi)
  (hw:HT.sIx items.size 0 lo=0/\HT.sIx items.size items.size hi=items.size) (h:Q (.ref t) s):UU (U1 prog w) A (zaf (.ref t) (.ref sl)) Q E s:=by
 obtain ⟨os,hos,hcs,hds⟩:=id hs
 have hTs:s.TypeIs (.ref sl) "slice" := ⟨os,hos,hcs⟩
 unfold zaf
 try with_reducible refine wpAny_holding ?_
 first | refine wpAny_bind (wpAny_pure ?_) | skip
 refine wpAny_bind (zaT ht.typeIs (by decide) ?_)
 refine wpAny_bind (Vi (name:=OF "__getitem__") ht.typeIs VD (Vu VD ht.typeIs zai ?_ (zaI _ _)))
 show UU _ _ (YM (.ref t) >>= _) _ _ s
 refine wpAny_bind (tupleItemsOf_ ht ?_)
 refine wpAny_bind <| wpAny_typeOf hTs ?_
 rw[if_pos (by decide)]
 refine wpAny_bind (HT.iC hs pl pu ?_)
 rw[hw.1,hw.2]
 refine (show UU _ _ (if (((0:Nat):Int) == 0&&(1:Int) == 1&&(items.size - 0) == items.size)=true then _ else _) _ _ s from ?_)
 rw[if_pos (by simp)]
 unfold zbU
 refine wpAny_bind (wpAny_bind (wpAny_typeOf ht.typeIs (wpAny_pure ?_)))
 rw[if_pos (by decide)]
 first
  | exact wpAny_bind (wpAny_rule (wpAny_bind (wpAny_pure (wpAny_pure ⟨_,rfl,wpAny_pure h⟩))))
  | exact wpAny_bind (wpAny_rule (wpAny_pure ⟨_,rfl,wpAny_pure h⟩))
  | exact wpAny_bind (wpAny_bind (wpAny_rule (wpAny_pure (wpAny_pure ⟨_,rfl,wpAny_pure h⟩))))
def T3 (K:UB):V->Option Int->Option Int->Hp->VK->Prop:=λx lo hi H Q=>∃ a xs,x=.ref a/\SqT K H a xs/\(HT.sIx xs.length 0 lo=0/\HT.sIx xs.length xs.length hi=xs.length)/\Q (.ref a) H
theorem Jx:SlR X (T3 X.K):=λpins s σ H x v vl vu lo hi sl Q I rx hs pl pu ⟨q,xs,e,hx,hw,h⟩=>by
 subst e
 cases rx
 obtain ⟨its,r,ht,_⟩:=I.tuple hx
 have hlen:its.toArray.size=xs.length:=by rw[UR];exact r.length.symm
 exact ⟨"tuple", _,VD.lookup,ht.typeIs,AJ ht hs pl pu (by rw[hlen];exact hw) ⟨.ref q,H,I,rfl,h⟩⟩
def rSl:D->Option Int->Option Int->Mu->DK->Prop:=λx lo hi μ Q=>match x with
 | .tup xs=>Q (.tup (cutD xs lo hi)) μ
 | .ls xs=>Q (.ls (cutD xs lo hi)) μ
 | .obj a=>kL μ a λxs=>Q (.ls (cutD xs lo hi)) μ
 | _=>False
def TSl (a:ETr)(lo hi:OTr):ETr:=λρ μ Q=>a ρ μ λx μ1=>lo ρ μ1 λl μ2=>hi ρ μ2 λh μ3=>rSl x l h μ3 Q
theorem pR {lo hi:Option U5}{Tl Th:OTr}{p2:Pos}(ha:LE X a Ta)(hl:LO X lo Tl)(hh:LO X hi Th):LE X (.Subscript a (.Slice lo hi none p2) pos) (TSl Ta Tl Th):=by
 obtain ⟨ta,pa,sa⟩:=ha.ex
 obtain ⟨tl,pl,sl⟩:=hl.ex
 obtain ⟨th,ph,sh⟩:=hh.ex
 refine ⟨_,D9 (Hs (SlR.or Jx (SlR.or Qg Lk)) pa pl ph),λσ H ρ μ Q Q' rl h k=>sa σ H ρ μ _ _ rl h λx H1 dx μ1 t1 m1 p1 h1=>sl σ H1 ρ μ1 _ _ (rl.go t1 m1) h1 λi H2 μ2 t2 m2 h2=>sh σ H2 ρ μ2 _ _ (rl.go (t1.trans t2) m2) h2 λj H3 μ3 t3 m3 h3=>?_⟩
 have p1:=p1.mono (t2.trans t3)
 have k:=k.go (t1.trans (t2.trans t3))
 cases p1 with
 | @tup q xs ds sq l=>
  by_cases hw:HT.sIx xs.length 0 i=0/\HT.sIx xs.length xs.length j=xs.length
  ·refine .inl ⟨q,xs,rfl,sq,hw,.inl (k _ H3 _ μ3 (.refl H3) m3 (.tup sq l) ?_)⟩
   rw[l.length] at hw
   have h3:Q (.tup (cutD ds i j)) μ3:=h3
   rw[Cp hw] at h3;exact h3
  ·exact .inr (.inl ⟨q,xs,rfl,sq,hw,λz hz=>.inl (k _ _ _ μ3 (.new hz) (fj m3 hz) (.tup (SqT.of bc) ((l.cut i j).mono (.new hz))) h3)⟩)
 | @ls q xs ds sq l=>exact .inr (.inr ⟨q,xs,rfl,sq.sq,λz hz=>.inr (mx m3 (l.cut i j) h3 k hz)⟩)
 | obj q=>
  obtain ⟨ds,e0,h4⟩:=cJ h3
  obtain ⟨xs,ex,l⟩:=m3 q _ e0
  exact .inr (.inr ⟨q,xs,rfl,SqL.of ex,λz hz=>.inr (mx m3 (l.cut i j) h4 k hz)⟩)
 | _=>exact UG h3
theorem Nf {α:Type}(xs:List α)(k:Nat):cutD xs none (some (k:Int))=xs.take k:=by
 unfold cutD
 rw[HT.zH,HT.DV,List.drop_zero,Nat.sub_zero]
 rcases zcc k xs.length with h | h
 ·rw[zbv h]
 ·rw[zbm h,List.take_length,ZE h]
theorem kG {α:Type}(xs:List α)(k:Nat):cutD xs (some (k:Int)) none=xs.drop k:=by
 unfold cutD
 rw[HT.zH,HT.DV]
 rcases zcc k xs.length with h | h
 ·rw[zbv h,ZE (by rw[Zg];omega)]
 ·rw[zbm h,X8,List.drop_of_length_le h];simp
end
end
section
open PySem PySem.Spec PyProof.Rows L2
end
section
open PySem PySem.Spec PyProof.Rows L2
theorem _root_.L2.Inv.frz {X:Cx}{pins:List (Addr×Obj)}{σ:L2.St}{H:Hp}{s:UE}{c:Addr}{xs:List V}(I1:Inv X pins σ H s)(ec:H c=some (.lst xs)):∃ o,Inv X pins σ (L2.upd H c (.frz o (.lst xs))) s:=by
 obtain ⟨z,its,n,rv,hg⟩:=I1.hok c _ ec
 have nl:∀ d o,H d=some o->(∀ ys,o≠.lst ys)->d≠c:=λd o e1 e2 w=>by subst w;rw[ec] at e1;cases e1;exact e2 _ rfl
 refine ⟨_,I1.un (h':=s.heap) (t':=s.toks) (H':=L2.upd H c (.frz { cls:=.type "list", data:=.seq its.toArray n } (.lst xs))) ⟨λd o e _ _ _=>e,λd o e _ _ _=>⟨o.slots,e⟩,λd o e w _=>?_,λd o e _=>⟨o,e⟩,λd ys e=>?_,λd o u e=>?_,λd ps e=>⟨#[],?_⟩⟩ (λd u e=>?_)⟩
 ·rw[aV (λz=>by subst z;rw[ec] at w;cases w)];exact w
 ·rw[aV (nl d _ e (λ_=>nofun))];exact e
 ·rw[aV (nl d _ e (λ_=>nofun))];exact e
 ·rw[aV (nl d _ e (λ_=>nofun)),e];simp
 ·by_cases hd:d=c
  ·subst hd
   rw[bc] at e;cases e
   exact ⟨hg,z,its,n,rv,hg⟩
  ·rw[aV hd] at e
   refine (I1.hok d u e).rY (λk w _ q=>q) (λk q=>?_) λk ys q=>?_
   ·rw[aV (nl k _ q (λ_=>nofun))];exact q
   ·rw[aV (nl k _ q (λ_=>nofun))];exact q
theorem M3 {X:Cx}{tg iter elt:U5}{ifs:List U5}{scope:Scope}{pos spos py:Pos}{y:Str}{iy:Nat}{wi:TI}{g:TG}{tt:TT}{te:TE}{Nc:List Str}{n:Nat}{caps:List Nat}
  (hxe:X.xe=λ_ _=>False) (hcalm:X.calm=true) (hi:PI X tg iter wi)
  (hbody:∀ (cl:List (Str×Addr)) (C:Addr) (s₀:UE) (H₀:Hp) (ex:List Addr),PG (bR X scope Nc cl C s₀ H₀ ex) tg g/\CG (bR X scope Nc cl C s₀ H₀ ex) ifs tt/\PE (bR X scope Nc cl C s₀ H₀ ex) elt te)
  (hfree:∀ y∈scope.names,y.2=.free->X.env.kindOf y.1=some .cell) (hcell:∀ y∈scope.names,y.2≠.cell) (iB:scope.kind=.function)
  (hnames:∀ y∈scope.names,y.2=.local->scope.names.lookup y.1=some .local) (hlen:Nc.length=n+caps.length)
  (hcap:∀ (j k:Nat),caps[j]? = some k->∃ x,Nc[n+j]? = some x/\X.N[k]? = some x/\scope.names.lookup x=some .free)
  (pgy:PG X (.Name y py) (rj iy))
  (hsw:YF (.ListComp elt [⟨tg,iter,ifs,0⟩] scope pos) (some (.Name y py)) spos.line X.env=pure true)
  (hs:∀ x,VV iter X.env x=pure x:=by intro _;rfl) :
  PS X (.Assign [.Name y py] (.ListComp elt [⟨tg,iter,ifs,0⟩] scope pos) spos) (LC (Kh (tU wi g tt te n caps)) (rj iy)):=
 GH (Z:=Kh) hxe hcalm hi hbody hfree hcell iB hnames hlen hcap pgy hsw (λσ H Q h=>⟨_,h,λpins D H5 s5 I5 ⟨a,xs,ea,eH,q⟩=>by
  cases ea
  obtain ⟨o,I6⟩:=I5.frz eH
  exact ⟨_,λb hb=>by rw[aV (λz=>by rw[z,eH] at hb;cases hb)];exact hb,I6,q o⟩⟩) hs
theorem IL {K:UB}{wi:TI}{It':ATr}{G:GTr}{Tt:TTr}{Te:ETr}{n:Nat}{caps:List Nat}(si:SR K wi It'):Sim K (Kh (tU wi (EU K n G) (liftT K Tt) (EX K Te) n caps)) (cp It' G Tt Te n caps):=by
 intro σ H ρ μ Q Q' rl h k
 refine si σ H ρ μ _ _ rl h λJ H1 ds μ1 t1 m1 Y h1 D hD=>?_
 have hp:=h1 D (m1.free hD)
 have tD:Tk H1 (L2.upd H1 D (.lst [])):=.new hD
 have mD:cH K (L2.upd H1 D (.lst [])) (up μ1 D (.lst [])):=λa o e=>by
  by_cases ha:a=D
  ·subst ha
   rw[bh] at e;cases e
   exact ⟨[],bc,.nil⟩
  ·rw[bQ ha] at e
   exact fj m1 hD a o e
 refine ⟨λi m ys H2=>m=ds.length - i/\i<=ds.length/\Tk H1 H2/\∃ μ2,cH K H2 μ2/\ka D G Tt Te (ml ρ n caps) (λμ'=>kL μ' D λzs=>Q (.ls zs) (dn μ' D)) (ds.drop i) μ2,
  ⟨ds.length,by simp,Wz _,tD,_,mD,by simpa using hp⟩,?_⟩
 rintro i m ys H2 ⟨rfl,hi,t12,μ2,m2,h2⟩
 by_cases hlt:i < ds.length
 ·refine .inr ⟨Y.go i H2 t12 hlt,λys' H'=>Tk H1 H'/\∃ μ',cH K H' μ'/\ka D G Tt Te (ml ρ n caps) (λμ'=>kL μ' D λzs=>Q (.ls zs) (dn μ' D)) (ds.drop (i+1)) μ',λys' H' ⟨t',μ',m',h'⟩=>⟨ds.length - (i+1),by omega,rfl,hlt,t',μ',m',h'⟩,λx H3 y=>?_⟩
  obtain ⟨t23,⟨d,ed,pd⟩,mk⟩:=Y.yld i H2 x H3 t12 hlt y
  have e:ds.drop i=d::ds.drop (i+1):=by
   refine (Xs hlt).trans ?_
   congr 1
   rw[Vf hlt] at ed
   exact VF ed
  rw[e] at h2
  have t13:=t12.trans t23
  have r3:Rl K (mJ σ n caps) H3 (ml ρ n caps) μ2:=EO (rl.go (t1.trans t13) (mk _ m2)) n caps
  refine ⟨_,_,d,_,r3,pd,h2,λσ4 H4 ρ4 μ4 t4 r4 kp h4=>⟨⟨kp.1.symm,λj v ej=>?_⟩,_,_,_,r4,h4,λb H5 μ5 t5 m5 h5=>?_⟩⟩
  ·by_cases hj:n<=j
   ·rw[kp.2 j hj];exact ej
   ·obtain ⟨j',k',e1,_⟩:=tG ej
    omega
  ·have t15:=t13.trans (t4.trans t5)
   cases b with
   | false=>exact vp ⟨t15,μ5,m5,h5⟩
   | true=>
    refine u9 ⟨_,_,_,r4.go t5 m5,h5,λv H6 d6 μ6 t6 m6 p6 h6=>?_⟩
    obtain ⟨zs,ez,lz,h7⟩:=cJ h6
    obtain ⟨xs,ex,lx⟩:=m6 D _ ez
    have t67:Tk H6 (L2.upd H6 D (.lst (xs++[v]))):=.upd (λys z=>by rw[ex] at z;cases z) λo' u z=>by rw[ex] at z;cases z
    refine ⟨xs,ex,by rw[lx.length];exact U4 lz (by decide),(t15.trans t6).trans t67,up μ6 D (.lst (zs++[d6])),λa o ea=>?_,h7⟩
    by_cases ha:a=D
    ·subst ha
     rw[bh] at ea;cases ea
     exact ⟨_,bc,(lx.append (.cons p6 .nil)).mono t67⟩
    ·rw[bQ ha] at ea
     exact (m6 a _ ea).ne t67 ha
 ·have e:i=ds.length:=by omega
  subst e
  rw[X8] at h2
  obtain ⟨zs,ez,hq⟩:=cJ (show kL μ2 D λzs=>Q (.ls zs) (dn μ2 D) from h2)
  obtain ⟨xs,ex,lx⟩:=m2 D _ ez
  refine .inl ⟨Y.stop _ H2 t12 (U0 _),D,xs,rfl,ex,λo=>?_⟩
  have t2f:Tk H2 (L2.upd H2 D (.frz o (.lst xs))):=.upd (λys z=>by rw[ex] at z;cases z) λo' u z=>by rw[ex] at z;cases z
  refine k _ _ _ (dn μ2 D) ((t1.trans t12).trans t2f) (λa o' ea=>?_) (.ls (.inl ⟨o,bc⟩) (lx.mono t2f)) hq
  have ha:a≠D:=λz=>by subst z;unfold dn at ea;rw[if_pos rfl] at ea;cases ea
  have ea':μ2 a=some o':=by unfold dn at ea;rw[if_neg ha] at ea;exact ea
  exact (m2 a _ ea').ne t2f ha
theorem zQ {X:Cx}{tg elt iter:U5}{Te:ETr}{Tt:TTr}{pos spos py:Pos}{y:Str}{It':ATr}{G:GTr}{ifs:List U5}{scope fsc:Scope}(iy:Nat)(hN:X.N.Nodup)(XN Nc:List Str)(n:Nat)(caps:List Nat)(hxe:X.xe=λ_ _=>False)(hcalm:X.calm=true)(hi:LI X tg iter It')
  (hbody:∀ (cl:List (Str×Addr)) (C:Addr) (s₀:UE) (H₀:Hp) (ex:List Addr),LGc (bR X scope Nc cl C s₀ H₀ ex) n tg G/\I0 (bR X scope Nc cl C s₀ H₀ ex) ifs Tt/\LE (bR X scope Nc cl C s₀ H₀ ex) elt Te)
  (hsc:X.env.scope=fsc) (hXN:X.N=XN) (hok:xp fsc.names XN scope Nc n caps=true)
  (hiy:X.N[iy]? = some y:=by rfl) (hx:Loc X.env.scope y:=by first | exact ZC rfl | exact YQ rfl) (hf:X.fn y=true∨X.env.scope.names.lookup y=some .local:=by first | exact .inl rfl | exact .inr rfl | assumption)
  (hsw:YF (.ListComp elt [⟨tg,iter,ifs,0⟩] scope pos) (some (.Name y py)) spos.line X.env=pure true:=by rfl)
  (hs:∀ x,VV iter X.env x=pure x:=by intro _;rfl) :
  LS X (.Assign [.Name y py] (.ListComp elt [⟨tg,iter,ifs,0⟩] scope pos) spos) (aZ (cp It' G Tt Te n caps) (ax iy)):=by
 unfold xp at hok
 simp only[UM,Vv] at hok
 obtain ⟨⟨⟨h1,h2⟩,h3⟩,h4⟩:=hok
 obtain ⟨wi,pi,si⟩:=hi.ex
 refine ⟨_,M3 (g:=EU X.K n G) (tt:=liftT X.K Tt) (te:=EX X.K Te) hxe hcalm pi (λcl C s₀ H₀ ex=>let ⟨h1,h2,h3⟩:=hbody cl C s₀ H₀ ex;⟨h1.pe,h2.pe,h3.pe⟩) (λy hy hf=>?_) (λy hy hf=>?_) (by simpa using h2) (λy hy hf=>?_) (by simpa using h3) (λj k hj=>?_) (nG hN hiy hx hf) hsw hs,λσ H ρ μ E E' rl h k=>IL si σ H ρ μ _ _ rl h λv H' d μ' t' m' p' h'=>og iy σ H' ρ μ' v d _ _ (rl.go t' m') p' h' (k.go t').nx⟩
 ·have:=(h1 y hy).1.1
  show X.env.scope.names.lookup y.1=_
  rw[hsc]
  simpa[hf] using this
 ·have:=(h1 y hy).1.2
  simp[hf] at this
 ·have:=(h1 y hy).2
  simpa[hf] using this
 ·have hl:j < caps.length:=(VJ.mp hj).1
  have:=h4 j (W2.mpr hl)
  rw[hj] at this
  dsimp only at this
  rw[hXN]
  cases e:XN[k]? with
  | none=>rw[e] at this;cases this
  | some x=>
   rw[e] at this
   dsimp only at this
   rw[UM] at this
   exact ⟨x,by simpa using this.1,rfl,by simpa using this.2⟩
end
section
open PySem PySem.Spec PyProof.Rows L2
section
variable {X:Cx} {ea:U5} {es:List U5} {ek:Nat} {ep p pos:Pos}
def Nv (ds:List D):List D:=(Wo ds.length).zipWith (λi d=>.tup [.int (i:Nat),d]) ds
def RA (t:ATr):ATr:=λρ μ Q=>t ρ μ λvs μ1=>match vs with
 | [.ls ds]=>Q (Nv ds) μ1
 | _=>False
variable {eb:U5} {tg:U5} {Ta Tb:ETr}
def ya (a b:ETr):ATr:=λρ μ Q=>a ρ μ λx μ1=>b ρ μ1 λy μ2=>kI x λi=>kI y λj=>((-4611686018427387904<=i/\i < 4611686018427387904)/\-4611686018427387904<=j/\j < 4611686018427387904)/\Q (dQ i (j - i).toNat) μ2
theorem Fl {rp rpos:Pos}(hg:Gl X "range")(hm:X.mg "range" = none)(ha:LE X ea Ta)(hb:LE X eb Tb)(hs:UI [ea,eb] X.env=[(false,VI ea X.env),(false,VI eb X.env)]:=by rfl)(hs2:UI [eb] X.env=[(false,VI eb X.env)]:=by rfl):LI X tg (.Call (.Name "range" rp) [ea,eb] [] rpos) (ya Ta Tb):=by
 obtain ⟨ta,pa,sa⟩:=ha.ex
 obtain ⟨tb,pb,sb⟩:=hb.ex
 refine ⟨_,Fo hg hm (cG pa (cG pb gf hs2) (by rw[hs,hs2])) hs hs2,λσ H ρ μ Q R rl h k=>sa σ H ρ μ _ _ rl h λx H1 d μ1 t1 m1 p1 h1=>sb σ H1 ρ μ1 _ _ (rl.go t1 m1) h1 λy H2 d2 μ2 t2 m2 p2 h2=>?_⟩
 cases p1 with
 | int i=>
  cases p2 with
  | int j=>
   obtain ⟨⟨⟨h3,h4⟩,h5,h6⟩,h7⟩:=h2
   exact ⟨i,j,rfl,⟨by simpa using h3,by simpa using h4,by simpa using h5,by simpa using h6⟩,k _ H2 _ μ2 (t1.trans t2) m2 (Bs i _) h7⟩
  | _=>exact UG h2
 | _=>exact UG h2
end
end
section
open PySem PySem.Spec PyProof PyProof.Rows L2
section
variable {X:Cx} {a b:U5} {Ta Tb:ETr} {pos:Pos}
end
end
theorem wQ (i j:Int)(μ Q):aY (.int i) (.int j) μ Q=Q (.int (i+j)) μ:=rfl
theorem yj (i j:Str)(μ Q):aY (.str i) (.str j) μ Q=(i.length+j.length<=1000000/\Q (.str (i++j)) μ):=rfl
theorem xP (a b:List D)(μ Q):aY (.tup a) (.tup b) μ Q=(a.length+b.length<=1000000/\Q (.tup (a++b)) μ):=rfl
theorem xl (a b:List D)(μ Q):aY (.ls a) (.ls b) μ Q=(a.length+b.length<=1000000/\Q (.ls (a++b)) μ):=rfl
theorem rT (a:List D)(μ Q):cO [.tup a] μ Q=Q (.tup a) μ:=rfl
theorem tM (a:List D)(μ Q):cO [.ls a] μ Q=Q (.tup a) μ:=rfl
theorem rz (a:Addr)(μ Q):cO [.obj a] μ Q=kL μ a λxs=>Q (.tup xs) μ:=rfl
theorem sM (a:List D)(μ Q):CK [.tup a] μ Q=Q (.ls a) μ:=rfl
theorem tZ (a:List D)(μ Q):CK [.ls a] μ Q=Q (.ls a) μ:=rfl
theorem sE (a:Addr)(μ Q):CK [.obj a] μ Q=kL μ a λxs=>Q (.ls xs) μ:=rfl
theorem ue (a:List D)(μ Q):BQ [.tup a] μ Q = ∀ p,μ p=none->Q (.obj p) (up μ p (.lst a)):=rfl
theorem tf (a:List D)(μ Q):BQ [.ls a] μ Q = ∀ p,μ p=none->Q (.obj p) (up μ p (.lst a)):=rfl
theorem rg (a:Addr)(μ Q):BQ [.obj a] μ Q=kL μ a λxs=>∀ p,μ p=none->Q (.obj p) (up μ p (.lst xs)):=rfl
theorem Ia (a:List D)(lo hi)(μ Q):rSl (.tup a) lo hi μ Q=Q (.tup (cutD a lo hi)) μ:=rfl
theorem JE (a:List D)(lo hi)(μ Q):rSl (.ls a) lo hi μ Q=Q (.ls (cutD a lo hi)) μ:=rfl
theorem HB (a:Addr)(lo hi)(μ Q):rSl (.obj a) lo hi μ Q=kL μ a λxs=>Q (.ls (cutD xs lo hi)) μ:=rfl
theorem HD (n:Bool)(x:D)(a:List D)(μ Q):L3.rIn n x (.tup a) μ Q=((jw x=true/\a.all jw=true)/\Q (.bl (if n then !inD x a else inD x a)) μ):=rfl
theorem G2 (n:Bool)(x:D)(a:List D)(μ Q):L3.rIn n x (.ls a) μ Q=((jw x=true/\a.all jw=true)/\Q (.bl (if n then !inD x a else inD x a)) μ):=rfl
theorem IH (n:Bool)(x:D)(a:Addr)(μ Q):L3.rIn n x (.obj a) μ Q=kL μ a λxs=>(jw x=true/\xs.all jw=true)/\Q (.bl (if n then !inD x xs else inD x xs)) μ:=rfl
theorem Dx (a:Addr)(μ Q):cI [.obj a] μ Q=kL μ a λxs=>Q (.int xs.length) μ:=rfl
theorem Cn (x:Str)(μ Q):cI [.str x] μ Q=(x.length<=1000000/\Q (.int x.length) μ):=rfl
theorem Hw (μ Q):rIs .non .non μ Q=Q (.bl true) μ:=rfl
theorem Hc (i:Int)(μ Q):rIs (.int i) .non μ Q=Q (.bl false) μ:=rfl
theorem Ko (i:List D)(μ Q):rIs (.tup i) .non μ Q=Q (.bl false) μ:=rfl
theorem sH (μ Q):iR .non .non μ Q=Q (.bl false) μ:=rfl
theorem uq (i:Int)(μ Q):iR (.int i) .non μ Q=Q (.bl true) μ:=rfl
theorem tP (i:List D)(μ Q):iR (.tup i) .non μ Q=Q (.bl true) μ:=rfl
theorem Dg (c:String)(i:List D)(μ Q):gm c (.ls i) μ Q=Q (.bl (bu "list" c)) μ:=rfl
theorem Cc (c:String)(i:Str)(μ Q):gm c (.str i) μ Q=Q (.bl (bu "str" c)) μ:=rfl
theorem CY (c:String)(μ Q):gm c .non μ Q=Q (.bl (bu "NoneType" c)) μ:=rfl
theorem bY (k:Nat)(ds:List D):atD ds (k:Int)=ds[k]?:=by
 unfold atD L2.atI L2.ixN
 rw[if_pos (YS k)]
 by_cases h:k < ds.length
 ·rw[if_pos (by omega)];simp
 ·rw[if_neg (by omega)];simp;omega
theorem Eb (ds:List D):atD ds 0=ds[0]?:=bY 0 ds
theorem Eo (ds:List D):atD ds 1=ds[1]?:=bY 1 ds
theorem Ea (ds:List D):atD ds 2=ds[2]?:=bY 2 ds
theorem EG (ds:List D):atD ds 3=ds[3]?:=bY 3 ds
theorem EL (ds:List D):atD ds 4=ds[4]?:=bY 4 ds
theorem ER (ds:List D):atD ds 5=ds[5]?:=bY 5 ds
theorem xN (n k:Nat):L2.ixN n (k:Int)=if k < n then some k else none:=by
 unfold L2.ixN
 rw[if_pos (YS k)]
 by_cases h:k < n
 ·rw[if_pos (by omega),if_pos h];simp
 ·rw[if_neg (by omega),if_neg h]
theorem Eh (n:Nat):L2.ixN n 0=if 0 < n then some 0 else none:=xN n 0
theorem Ep (n:Nat):L2.ixN n 1=if 1 < n then some 1 else none:=xN n 1
theorem EC (n:Nat):L2.ixN n 2=if 2 < n then some 2 else none:=xN n 2
theorem i8:bu "int" "int" = true:=by decide
theorem ja:bu "int" "bool" = false:=by decide
theorem jg:bu "bool" "bool" = true:=by decide
theorem iE:bu "bool" "int" = true:=by decide
theorem iK:bu "tuple" "tuple" = true:=by decide
theorem iY:bu "int" "tuple" = false:=by decide
theorem jc:bu "bool" "tuple" = false:=by decide
theorem fm0 {a n:Int}(h:0 < n):0<=a.fmod n:=Int.fmod_nonneg_of_pos a h
theorem fm1 {a n:Int}(h:0 < n):a.fmod n < n:=Int.fmod_lt_of_pos a h
theorem IG (A B:Prop):kIf true A B=A:=rfl
theorem HP (A B:Prop):kIf false A B=B:=rfl
theorem Jc (p:Prop) [Decidable p] (A B:Prop):kIf (decide p) A B=if p then A else B:=by by_cases h:p<;>simp[h,kIf]
theorem HH (c:Bool)(A B:Prop):kIf (!c) A B=kIf c B A:=by cases c<;>rfl
theorem Hh (c:Bool)(f):kB (.bl c) f=f c:=rfl
theorem CN (c:Int)(f):kI (.int c) f=f c:=rfl
theorem qP (c:D)(f):kO (some c) f=f c:=rfl
theorem Cd (c:List D)(f):kS (.tup c) f=f c:=rfl
theorem J1 (c:List D)(f):kS (.ls c) f=f c:=rfl
theorem CC (a b:D)(f):k2 [a,b] f=f a b:=rfl
theorem xt (c:Nat)(f):kN (some c) f=f c:=rfl
theorem DZ (μ:Mu)(a:Addr)(ds:List D)(f):kL (up μ a (.lst ds)) a f=f ds:=by unfold kL;rw[bh]
theorem NX {μ:Mu}{a:Addr}{ds:List D}(h:μ a=some (.lst ds))(f):kL μ a f=f ds:=by unfold kL;rw[h]
theorem tN (a:Addr)(n:Int)(y:D)(μ:Mu)(f):Mv (.obj a) (.int n) y μ f=kL μ a λds=>kN (L2.ixN ds.length n) λj=>f (up μ a (.lst (ds.set j y))):=rfl
theorem C4 (i j:Int)(μ Q):Bw (.int i) (.int j) μ Q=Q (.int (i - j)) μ:=rfl
theorem DA (i j:Int)(μ Q):iN (.int i) (.int j) μ Q=(MulOk i j/\Q (.int (i*j)) μ):=rfl
theorem CW (i j:Int)(μ Q):kW (.int i) (.int j) μ Q=(jW j/\Q (.int (i.fdiv j)) μ):=rfl
theorem Dv (i j:Int)(μ Q):jk (.int i) (.int j) μ Q=(j≠0/\Q (.int (i.fmod j)) μ):=rfl
theorem DE (i j:Int)(μ Q):Cw (.int i) (.int j) μ Q=(sP i j/\Q (.int (i ^ j.toNat)) μ):=rfl
theorem Cr (i:Int)(μ Q):TU (.int i) μ Q=Q (.int (-i)) μ:=rfl
theorem Jz (i j:Int)(μ Q):rLt (.int i) (.int j) μ Q=Q (.bl (decide (i < j))) μ:=rfl
theorem Kf (i j:Int)(μ Q):rLe (.int i) (.int j) μ Q=Q (.bl (decide (i<=j))) μ:=rfl
theorem Ie (i j:Int)(μ Q):rGt (.int i) (.int j) μ Q=Q (.bl (decide (j < i))) μ:=rfl
theorem Kg (i j:Int)(μ Q):rGe (.int i) (.int j) μ Q=Q (.bl (decide (j<=i))) μ:=rfl
theorem Ky (x y:D)(μ Q):L3.rEq x y μ Q=((okD 40 x=true/\okD 40 y=true)/\Q (.bl (eqD x y)) μ):=rfl
theorem Ik (x y:D)(μ Q):L3.rNe x y μ Q=((okD 40 x=true/\okD 40 y=true)/\Q (.bl (!eqD x y)) μ):=rfl
theorem mO (ds:List D)(i:Int)(μ Q):L3.rIx (.tup ds) (.int i) μ Q=kO (atD ds i) λd=>Q d μ:=rfl
theorem Ek (ds:List D)(i:Int)(μ Q):L3.rIx (.ls ds) (.int i) μ Q=kO (atD ds i) λd=>Q d μ:=rfl
theorem Iu (a:Addr)(i:Int)(μ Q):L3.rIx (.obj a) (.int i) μ Q=kL μ a λds=>kO (atD ds i) λd=>Q d μ:=rfl
theorem Co (c:String)(i:Int)(μ Q):gm c (.int i) μ Q=Q (.bl (bu "int" c)) μ:=rfl
theorem C6 (c:String)(i:Bool)(μ Q):gm c (.bl i) μ Q=Q (.bl (bu "bool" c)) μ:=rfl
theorem C9 (c:String)(i:List D)(μ Q):gm c (.tup i) μ Q=Q (.bl (bu "tuple" c)) μ:=rfl
theorem CO (i:Int)(μ Q):xJ [.int i] μ Q=Q (.int (if i < 0 then -i else i)) μ:=rfl
theorem Cj (i j:Int)(μ Q):S6 [.int i,.int j] μ Q=Q (.int (if j > i then j else i)) μ:=rfl
theorem BW (i j:Int)(μ Q):Rr [.int i,.int j] μ Q=Q (.int (if j < i then j else i)) μ:=rfl
theorem DS (i:Int)(μ Q):Gu [.int i] μ Q=Q (.int i) μ:=rfl
theorem BS (i:Bool)(μ Q):Gu [.bl i] μ Q=Q (.int (if i then 1 else 0)) μ:=rfl
theorem CS (i:List D)(μ Q):cI [.tup i] μ Q=Q (.int i.length) μ:=rfl
theorem Cq (i:List D)(μ Q):cI [.ls i] μ Q=Q (.int i.length) μ:=rfl
local macro_rules | `(tactic| walk_at "rd")=>zzS "L3.ah L3.TC L3.aq L3.TUn L3.dD L3.Am L3.mS L3.TB L3.xw L3.TOr L3.bL L3.oo L3.gu L3.ar L3.af L3.bw L3.fb L3.mh L3.ao L3.aU L3.aD L3.C1 L3.GY L3.fA L3.aK L3.J9 L3.bp L3.ax L3.aZ L3.Di L3.eT L3.oN L3.iI L3.fk L3.IG L3.HP L3.Jc L3.HH L3.Hh L3.CN L3.qP L3.Cd L3.J1 L3.CC L3.xt L3.DZ L3.tN L3.wQ L3.yj L3.xP L3.xl L3.mH L3.ma L3.uS L3.rT L3.tM L3.rz L3.sM L3.tZ L3.sE L3.ue L3.tf L3.rg L3.TSl L3.ONo L3.mP L3.Ia L3.JE L3.HB L3.HD L3.G2 L3.IH L3.Dx L3.Cn L3.Hw L3.Hc L3.Ko L3.sH L3.uq L3.tP L3.Dg L3.Cc L3.CY L3.C4 L3.DA L3.CW L3.Dv L3.DE L3.Cr L3.Jz L3.Kf L3.Ie L3.Kg L3.Ky L3.Ik L3.mO L3.Ek L3.Iu L3.Co L3.C6 L3.C9 L3.CO L3.Cj L3.BW L3.DS L3.BS L3.CS L3.Cq L3.lk L3.ini zcp VQ Vb zbq zcq WD WN za0 zau Za L3.Eb L3.Eo L3.Ea L3.EG L3.EL L3.ER L3.Eh L3.Ep L3.EC XG Wj L3.bh ZF Zi if_true if_false true_and and_true zav Z2 Z3 Zj Yh ZK decide_eq_true_eq W9 ite_false ite_true ne_eq not_false_eq_true ZL zaw zax zay zaz zaA za1 L3.okD L3.ck L3.eqD L3.hX zaB Zb U7 L3.i8 L3.ja L3.jg L3.iE L3.iK L3.iY L3.jc"
local macro_rules | `(tactic| walk_at "ok")=>`(tactic| (simp only[L3.jW,L3.MulOk,L3.S64,L3.bE,L3.sP] at *;omega))
def Box (μ:Mu)(b:Addr):Prop:=∃ g s c:Int,μ b=some (.lst [.int g,.int s,.int c])/\0<=s/\s < 2147483647
structure eE (b:Addr) (μ μ':Mu):Prop where
 box:Box μ' b
 oth:∀ a,a≠b->μ' a=μ a
theorem eE.trans {b:Addr}{μ μ1 μ2:Mu}(x:eE b μ μ1)(y:eE b μ1 μ2):eE b μ μ2:=⟨y.box,λa h=>(y.oth a h).trans (x.oth a h)⟩
theorem Br (x y:Int):Vx y (x.fmod y)=Vx x y:=by
 rw[Int.fmod_def,Int.gcd_sub_mul_left_right,zcd]
theorem GD (a:Int):(if a < 0 then -a else a)=(a.natAbs:Int):=by
 split<;>omega
def mz (i:Nat):ST->Mu->Nat:=λρ _=>match lk ρ i with
 | some (.int z)=>z.toNat
 | _=>0
structure Fr (p q:Int):Prop where
 q0:0 < q
 q1:q < 100000000000
 p0:-100000000000 < p
 p1:p < 100000000000
 g:Vx p q=1
theorem gk {a b:Int}(h:0 < b):a.fdiv b=a / b:=Int.fdiv_eq_ediv_of_nonneg a (Int.le_of_lt h)
theorem GQ {ns:List Int}{k:Int}(h0:0<=k)(h1:k < (ns.length:Int)):∃ z,atD (ns.map D.int) k=some (.int z):=by
 rcases Wl h0 with ⟨j,rfl⟩
 rw[bY]
 have hj:j < ns.length:=by omega
 exact ⟨ns[j],by simp[hj]⟩
theorem B0 {lo:Int}{n:Nat}{d:D}(h:d∈dQ lo n):∃ k:Int,d=.int k/\lo<=k/\k < lo+n:=by
 unfold dQ at h
 rcases U3.mp h with ⟨i,hi,rfl⟩
 have:=W2.mp hi
 exact ⟨_,rfl,by omega,by omega⟩
def hC:FSp:=λds μ Q=>kcL ds λxs ds=>kcN ds ((∃ ns:List Int,xs=ns.map .int/\ns.length<=63)/\∀ μ',Q (.bl true) μ')
theorem yy:∀ ds μ Q,hC ds μ Q->ds.length=1:=λ_ _ _ h=>lcL h λ_ _ h=>by rw[(ecN h).1];rfl
theorem oK (ns:List Int)(h:ns.length<=63)(μ:Mu):hC [.ls (ns.map .int)] μ (λd _=>d=.bl true):=⟨⟨ns,rfl,h⟩,λ_=>rfl⟩
local macro_rules | `(tactic| walk_at "rd")=>zzS "L3.ah L3.TC L3.aq L3.TUn L3.dD L3.Am L3.mS L3.TB L3.xw L3.TOr L3.bL L3.oo L3.gu L3.ar L3.af L3.bw L3.fb L3.mh L3.ao L3.aU L3.aD L3.C1 L3.GY L3.fA L3.aK L3.J9 L3.bp L3.ax L3.aZ L3.Di L3.eT L3.oN L3.iI L3.fk L3.cp L3.ka L3.ml L3.fe L3.Ry L3.ILs L3.IG L3.HP L3.Jc L3.HH L3.Hh L3.CN L3.qP L3.Cd L3.J1 L3.CC L3.xt L3.DZ L3.tN L3.wQ L3.yj L3.xP L3.xl L3.mH L3.ma L3.uS L3.rT L3.tM L3.rz L3.sM L3.tZ L3.sE L3.ue L3.tf L3.rg L3.TSl L3.ONo L3.mP L3.Ia L3.JE L3.HB L3.HD L3.G2 L3.IH L3.Dx L3.Cn L3.Hw L3.Hc L3.Ko L3.sH L3.uq L3.tP L3.Dg L3.Cc L3.CY L3.C4 L3.DA L3.CW L3.Dv L3.DE L3.Cr L3.Jz L3.Kf L3.Ie L3.Kg L3.Ky L3.Ik L3.mO L3.Ek L3.Iu L3.Co L3.C6 L3.C9 L3.CO L3.Cj L3.BW L3.DS L3.BS L3.CS L3.Cq L3.lk L3.ini zcp VQ Vb zbq zcq WD WN za0 zau Za L3.Eb L3.Eo L3.Ea L3.EG L3.EL L3.ER L3.Eh L3.Ep L3.EC XG Wj L3.bh L3.lF ZF Zi if_true if_false true_and and_true zav Z2 Z3 Zj Yh ZK decide_eq_true_eq W9 ite_false ite_true ne_eq not_false_eq_true ZL zaw zax zay zaz zaA za1 L3.okD L3.ck L3.eqD L3.hX zaB Zb U7 L3.i8 L3.ja L3.jg L3.iE L3.iK L3.iY L3.jc"
structure IsPart (a b p q:Int):Prop where
 q0:0 < q
 g:Vx p q=1
 e:p*b=a*q
 pa:p.natAbs<=a.natAbs
 qb:q.natAbs<=b.natAbs
def fR:FSp:=λds μ Q=>kcI ds λa ds=>kcI ds λb ds=>kcN ds (Q (.int (Vx a b)) μ)
theorem uH:∀ ds μ Q,fR ds μ Q->ds.length=2:=λ_ _ _ h=>lcI h λ_ _ h=>lcI h λ_ _ h=>by rw[(ecN h).1];rfl
def pf:STr:=aD (aZ (ao xJ (af (ah 0) (ar))) (ax 2)) (aD (aZ (ao xJ (af (ah 1) (ar))) (ax 3)) (aD (Cv (TB (aq rGt (ah 3) (TC (.int 0)))) (aD (aZ (aq jk (ah 2) (ah 3)) (ax 4)) (aD (aZ (ah 3) (ax 2)) (aZ (ah 4) (ax 3))))) (aK (ah 2))))
theorem xh:∀ ds μ Q,fR ds μ Q->pf { nx:=λ_ μ'=>RT Q .non μ',rt:=RT Q } (ini 5 ds) μ:=by
 intro ds μ Q k
 replace k:=ecI k
 obtain ⟨a,ds,rfl,k⟩:=k
 replace k:=ecI k
 obtain ⟨b,ds,rfl,k⟩:=k
 replace k:=ecN k
 obtain ⟨rfl,k⟩:=k
 unfold pf
 walk_at "rd"
 refine ⟨λρ μ'=>μ'=μ/\∃ (x y:Int) (z:Option D),ρ=[some (.int a),some (.int b),some (.int x),some (.int y),z]/\0<=x/\0<=y/\Vx x y=Vx a b,mz 3,⟨rfl,_,_,_,rfl,?_,?_,?_⟩,?_⟩
 ·split<;>omega
 ·split<;>omega
 ·rw[GD,GD];unfold Vx;rw[zaL,zaL]
 ·rintro ρ _ ⟨rfl,x,y,z,rfl,x0,y0,e⟩
  walk_at "rd"
  split
  ·rename_i hy
   refine ⟨by omega,⟨_,_,_,rfl,y0,fm0 hy,?_⟩,?_⟩
   ·rw[Br];exact e
   ·have:=fm1 (a:=x) hy
    have:=fm0 (a:=x) hy
    simp only[mz,lk]
    omega
  ·rename_i hy
   have hy0:y=0:=by omega
   subst hy0
   rw[zaM] at e
   have hx:x=(Vx a b:Int):=by omega
   subst hx
   exact ⟨_,.refl _,k⟩
structure FrB (lo hi p q:Int):Prop where
 q0:0 < q
 q1:q<=10000002
 g:Vx p q=1
 ge:lo*q<=p
 le:p<=hi*q
structure FrA (lo hi p q:Int):Prop extends FrB lo hi p q where
 ab:lo*q < p
structure FrL (hi p q:Int):Prop extends FrB 0 hi p q where
 ab:0 < p
 be:p < hi*q
theorem ow {a b:Int}(b0:0 < b):∃ g p q:Int,0 < g/\a=g*p/\b=g*q/\a.fdiv (Vx a b)=p/\b.fdiv (Vx a b)=q/\0 < q/\q<=b/\Vx p q=1:=by
 have gp:0 < Vx a b:=Yr a (by omega)
 have gz:0 < (Vx a b:Int):=by omega
 obtain ⟨c,hc⟩:=Int.gcd_dvd_left a b
 obtain ⟨d,hd⟩:=Int.gcd_dvd_right a b
 have g1:=Int.gcd_ediv_gcd_ediv_gcd gp
 have e1:a / (Vx a b:Int)=c:=YB (by omega) hc
 have e2:b / (Vx a b:Int)=d:=YB (by omega) hd
 rw[e1,e2] at g1
 refine ⟨_,c,d,gz,hc,hd,by rw[gk gz];exact e1,by rw[gk gz];exact e2,?_,?_,g1⟩
 all_goals generalize (Vx a b:Int)=g at *
 ·rcases za2 d 0 with h | h | h
  ·have:=YV gz h;omega
  ·subst h;omega
  ·exact h
 ·have d0:0 < d:=by
   rcases za2 d 0 with h | h | h
   ·have:=YV gz h;omega
   ·subst h;omega
   ·exact h
  have h:=Vw (show (1:Int)<=g by omega) (show (0:Int)<=d by omega)
  omega
theorem hE:(OF "still" = OF "step")=False:=eq_false (by decide +kernel)
theorem gh:(OF "still" = OF "swell")=False:=eq_false (by decide +kernel)
theorem gT:(OF "still" = OF "heed")=False:=eq_false (by decide +kernel)
theorem g9:(OF "still" = OF "calm")=False:=eq_false (by decide +kernel)
theorem u0:(OF "step" = OF "still")=False:=eq_false (by decide +kernel)
theorem e6:(OF "step" = OF "swell")=False:=eq_false (by decide +kernel)
theorem d7:(OF "step" = OF "heed")=False:=eq_false (by decide +kernel)
theorem iU:(OF "step" = OF "calm")=False:=eq_false (by decide +kernel)
theorem rX:(OF "swell" = OF "still")=False:=eq_false (by decide +kernel)
theorem uF:(OF "swell" = OF "step")=False:=eq_false (by decide +kernel)
theorem dq:(OF "swell" = OF "heed")=False:=eq_false (by decide +kernel)
theorem g6:(OF "swell" = OF "calm")=False:=eq_false (by decide +kernel)
theorem vq:(OF "heed" = OF "still")=False:=eq_false (by decide +kernel)
theorem xy:(OF "heed" = OF "step")=False:=eq_false (by decide +kernel)
theorem lW:(OF "heed" = OF "swell")=False:=eq_false (by decide +kernel)
theorem jj:(OF "heed" = OF "calm")=False:=eq_false (by decide +kernel)
theorem uv:(OF "calm" = OF "still")=False:=eq_false (by decide +kernel)
theorem yt:(OF "calm" = OF "step")=False:=eq_false (by decide +kernel)
theorem lP:(OF "calm" = OF "swell")=False:=eq_false (by decide +kernel)
theorem xO:(OF "calm" = OF "heed")=False:=eq_false (by decide +kernel)
theorem oE:UL (OF "still")=true:=by decide +kernel
theorem rh:UL (OF "step")=true:=by decide +kernel
theorem nY:UL (OF "swell")=true:=by decide +kernel
theorem tI:UL (OF "heed")=true:=by decide +kernel
theorem sS:UL (OF "calm")=true:=by decide +kernel
abbrev fr (p q:Int):D:=.tup [.int p,.int q]
inductive p9:Str->D->Prop
 | iw {p q:Int} (w:FrB 1 60 p q):p9 (OF "still") (.tup [.str "still", fr p q])
 | calm {p q r s x y l h:Int} (w:FrB 1 60 p q) (t:FrB 1 60 r s) (wt:p*s<=r*q) (u:FrA 0 60 x y) (l0:0<=l) (lh:l<=h) (h1:h<=60):p9 (OF "calm") (.tup [.str "calm", fr p q,fr x y,.int l,.int h,fr r s])
 | yL {p q r s x y a b:Int} (w:FrB 1 60 p q) (t:FrB 1 60 r s) (wt:p*s<=r*q) (u:FrA 0 60 x y) (g:FrA 0 1 a b):p9 (OF "heed") (.tup [.str "heed", fr p q,fr x y,fr a b,fr r s])
 | step {p q r s x y a b:Int} (w:FrB 1 60 p q) (t:FrB 1 60 r s) (wt:p*s<=r*q) (u:FrA 0 60 x y) (g:FrL 1 a b):p9 (OF "step") (.tup [.str "step", fr p q,fr x y,fr a b,fr r s])
 | jn {p q r s x y a b:Int} (w:FrB 1 60 p q) (t:FrB 1 60 r s) (wt:p*s<=r*q) (u:FrA 1 60 x y) (g:FrL 1 a b):p9 (OF "swell") (.tup [.str "swell", fr p q,fr x y,fr a b,fr r s])
def b8:List Str:=[OF "still", OF "step", OF "swell", OF "heed", OF "calm"]
section
open PySem PySem.Spec PyProof.Rows L2
def GN (x:D)(f:Str->Prop):Prop:=match x with
 | .str s=>f s
 | _=>False
def bx (kvs:List (Str×D))(s:Str):Option D:=(kvs.find? λkv=>decide (kv.1=s)).map (·.2)
def nq (K:UB):List WC->List (Str×D)->Prop
 | [],[]=>True
 | e::es,(x,d)::r=>(∃ t,e.key=.str x t)/\(∃ v,RelV v e.val/\∀ H,Dp K H v d)/\nq K es r
 | _,_=>False
theorem Ay (s x:Str)(t:Tok):VH s (.str x t)=decide (x=s):=by
 by_cases h:x=s
 ·subst h;simp[VH]
 ·rw[decide_eq_false h];simp[VH];first | exact h | exact λz=>h z.symm
theorem nq.find {K:UB}(s:Str):∀ {es:List WC} {kvs:List (Str×D)},nq K es kvs->
  match bx kvs s with
  | none=>(es.find? λe=>VH s e.key)=none
  | some d=>∃ e v,(es.find? λe=>VH s e.key)=some e/\RelV v e.val/\∀ H,Dp K H v d
 | [],[],_=>rfl
 | e::es,(x,d)::r,h=>by
  obtain ⟨⟨t,ht⟩,⟨v,rv,pv⟩,hr⟩:=h
  have ih:=nq.find s hr
  unfold bx at ih ⊢
  rw[Vp,Vp,ht,Ay]
  by_cases hx:x=s
  ·simp only[decide_eq_true hx,Option.map_some]
   exact ⟨e,v,rfl,rv,pv⟩
  ·simp only[decide_eq_false hx]
   exact ih
 | [],_::_,h=>UG h
 | _::_,[],h=>UG h
structure GT (P:zbg) (K:UB) (mg:Str->Option UC) (x:Str) (kvs:List (Str×D)):Prop where
 ex:∃ (a:Addr) (es:Array WC) (n:Nat),mg x=some (.ref a)/\K.lookup a=some ⟨.type "dict", none,.dict es n,#[]⟩/\Ys P es.toList/\(a == Zr)=false/\nq K es.toList kvs
section
variable {X:Cx} {a b c e:U5} {Ta Tb Te:ETr} {pos gpos:Pos} {x:Str} {kvs:List (Str×D)}
theorem HC {K:UB}{es:Array WC}{s:Str}(h:nq K es.toList kvs):match bx kvs s with
  | none=>zaN VH es s=none
  | some d=>∃ u v,zaN VH es s=some u/\RelV v u/\∀ H,Dp K H v d:=by
 have q:=h.find s
 have e:zaN VH es s=(es.toList.find? λe=>VH s e.key).map (·.val):=by
  unfold zaN;rw[← Array.find?_toList]
 rw[e]
 split at q
 ·rw[q];rfl
 ·rename_i d hn
  obtain ⟨e,v,h1,h2,h3⟩:=q
  exact ⟨_,v,by rw[h1];rfl,h2,h3⟩
def Qd (p:Addr)(es:Array WC):L2.R2:=λx y H Q=>∃ s u v,x=.ref p/\y=.str s/\zaN VH es s=some u/\RelV v u/\Q v H
theorem Od {p:Addr}{es:Array WC}{n:Nat}(hl:X.K.lookup p=some ⟨.type "dict", none,.dict es n,#[]⟩)(hk:Ys X.w.params es.toList):IxR X (Qd p es):=by
 intro value slice pins s σ H x y v u Q I rx ry h hs
 obtain ⟨z,u',v',rfl,rfl,hf,rv,q⟩:=h
 cases (show v=Vs p from rx)
 obtain ⟨t,rfl⟩:=(show ∃ t,u=XB z t from ry)
 have hm:=zbw (prog:=X.prog) I.kIn hl hk
 exact tail_any hm.typeIs slot_dict_getitem.lookup (wpAny_getItem_of (strKind_is X.prog X.w z t) hm hf ⟨v',H,I.tok _,rv,q⟩) hs
def tX (kvs:List (Str×D))(Te:ETr):ETr:=λρ μ Q=>Te ρ μ λx μ1=>GN x λs=>kO (bx kvs s) λd=>Q d μ1
theorem tK (hg:Gl X x)(h:GT X.w.params X.K X.mg x kvs)(hb:LE X b Tb)(hs:qQ b:=by intro _ _;rfl)(hd:(x == ("__debug__" : Str))=false:=by decide):LE X (.Subscript (.Name x gpos) b pos) (tX kvs Tb):=by
 obtain ⟨p,es,n,hm,hl,hk,hn,hr⟩:=h.ex
 obtain ⟨tb,pb,sb⟩:=hb.ex
 refine ⟨_,Ij (Od hl hk) (xf hg hm (v:=.ref p) rfl hd) pb hs,λσ H ρ μ Q Q' rl hh k=>sb σ H ρ μ _ _ rl hh λy H2 dy μ2 t2 m2 p2 h2=>?_⟩
 cases p2 with
 | str s=>
  have q:=HC (s:=s) hr
  obtain ⟨d,ed,h3⟩:=yp (show kO (bx kvs s) λd=>Q d μ2 from h2)
  rw[ed] at q
  obtain ⟨u,v,h4,h5,h6⟩:=q
  exact ⟨s,u,v,rfl,rfl,h4,h5,k v H2 d μ2 t2 m2 (h6 H2) h3⟩
 | _=>exact UG h2
def IF (neg:Bool)(p:Addr)(es:Array WC):L2.R2:=λx y H Q=>∃ s,y=.ref p/\x=.str s/\Q (.bl (if neg then !(zaN VH es s).isSome else (zaN VH es s).isSome)) H
theorem zP {p:Addr}{es:Array WC}{n:Nat}(hl:X.K.lookup p=some ⟨.type "dict", none,.dict es n,#[]⟩)(hk:Ys X.w.params es.toList)(hn:(p == Zr)=false):OpR X (VG .NotIn) (IF true p es):=by
 intro pins s σ H x y v u Q I rx ry h
 obtain ⟨z,rfl,rfl,q⟩:=h
 cases (show u=Vs p from ry)
 obtain ⟨t,rfl⟩:=(show ∃ t,v=XB z t from rx)
 exact wpAny_notIn_of (strKind_is X.prog X.w z t) hn (zbw (prog:=X.prog) I.kIn hl hk) ⟨.bl _,H,I.tok _,rfl,q⟩
def sX (neg:Bool)(kvs:List (Str×D))(Te:ETr):ETr:=λρ μ Q=>Te ρ μ λx μ1=>GN x λs=>Q (.bl (if neg then !(bx kvs s).isSome else (bx kvs s).isSome)) μ1
theorem HV {K:UB}{es:Array WC}{s:Str}(h:nq K es.toList kvs):(zaN VH es s).isSome=(bx kvs s).isSome:=by
 have q:=HC (s:=s) h
 cases e:bx kvs s with
 | none=>rw[e] at q;simp only at q;rw[q];rfl
 | some d=>rw[e] at q;obtain ⟨u,v,h1,_⟩:=q;rw[h1];rfl
theorem Gs {K:UB}{p:Addr}{es:Array WC}{ta:TE}{neg:Bool}(h:nq K es.toList kvs)(sa:Sim K ta Ta):Sim K (tOp (IF neg p es) ta (tC (.ref p))) (sX neg kvs Ta):=λσ H ρ μ Q Q' rl hh k=>
 sa σ H ρ μ _ _ rl hh λy H2 dy μ2 t2 m2 p2 h2=>by
  cases p2 with
  | str s=>exact ⟨s,rfl,rfl,k _ H2 _ μ2 t2 m2 (.bl _) (by rw[HV h];exact h2)⟩
  | _=>exact UG h2
theorem pX (hg:Gl X x)(h:GT X.w.params X.K X.mg x kvs)(ha:LE X a Ta)(hm':Wx .NotIn (.Name x gpos)=false:=by rfl)(hd:(x == ("__debug__" : Str))=false:=by decide):LT X (.Compare a [.NotIn] [.Name x gpos] pos) (TB (sX true kvs Ta)):=by
 obtain ⟨p,es,n,hm,hl,hk,hn,hr⟩:=h.ex
 obtain ⟨ta,pa,sa⟩:=ha.ex
 exact ⟨_,Eg (zP hl hk hn) pa (xf hg hm (v:=.ref p) rfl hd) hm',BV (Gs hr sa)⟩
end
mutual
def ET (K:UB):Nat->UC->D->Bool
 | _,.none,.non=>true
 | _,.bool b,.bl c=>b == c
 | _,.int i _,.int j=>decide (i=j)
 | _,.str x _,.str y=>decide (x=y)
 | n+1,.ref a,.tup ds=>match K.lookup a with
  | some ⟨.type "tuple", none,.seq its _,_⟩=>decide (its.size<=sizeLine)&&yo K n its.toList ds
  | _=>false
 | _,_,_=>false
def yo (K:UB):Nat->List UC->List D->Bool
 | _,[],[]=>true
 | n,u::us,d::ds=>ET K n u d&&yo K n us ds
 | _,_,_=>false
end
mutual
theorem Af {K:UB}:∀ {n:Nat} {u:UC} {d:D},ET K n u d=true->∃ v,RelV v u/\∀ H,Dp K H v d:=by
 intro n u d h
 unfold ET at h
 split at h
 ·exact ⟨.non,rfl,λ_=>.non⟩
 ·obtain rfl:=beq_iff_eq.mp h;exact ⟨.bl _,rfl,λ_=>.bl _⟩
 ·obtain rfl:=of_decide_eq_true h;exact ⟨.int _,⟨_,rfl⟩,λ_=>.int _⟩
 ·obtain rfl:=of_decide_eq_true h;exact ⟨.str _,⟨_,rfl⟩,λ_=>.str _⟩
 ·split at h
  ·rename_i hl
   simp only[UM,decide_eq_true_eq] at h
   obtain ⟨vs,r,p⟩:=vN h.2
   exact ⟨.ref _,rfl,λH=>.tup (.inr ⟨_,_,_,hl,rfl,rfl,rfl,h.1,r⟩) (p H)⟩
  ·cases h
 ·cases h
theorem vN {K:UB}:∀ {n:Nat} {us:List UC} {ds:List D},yo K n us ds=true->∃ vs,Vals vs us/\∀ H,DpL K H vs ds:=by
 intro n us ds h
 unfold yo at h
 split at h
 ·exact ⟨[],.nil,λ_=>.nil⟩
 ·simp only[UM] at h
  obtain ⟨v,r,p⟩:=Af h.1
  obtain ⟨vs,rs,ps⟩:=vN h.2
  exact ⟨v::vs,.cons r rs,λH=>.cons (p H) (ps H)⟩
 ·cases h
end
def vS (K:UB):List WC->List (Str×D)->Bool
 | [],[]=>true
 | e::es,(x,d)::r=>(match e.key with
  | .str y _=>decide (y=x)
  | _=>false)&&ET K 9 e.val d&&vS K es r
 | _,_=>false
theorem BB {K:UB}:∀ {es:List WC} {kvs:List (Str×D)},vS K es kvs=true->nq K es kvs
 | [],[],_=>Xy
 | e::es,(x,d)::r,h=>by
  unfold vS at h
  simp only[UM] at h
  obtain ⟨⟨h1,h2⟩,h3⟩:=h
  refine ⟨?_,Af h2,BB h3⟩
  split at h1
  ·rename_i y t hk
   obtain rfl:=of_decide_eq_true h1
   exact ⟨t,hk⟩
  ·cases h1
 | [],_::_,h=>by simp[vS] at h
 | _::_,[],h=>by simp[vS] at h
theorem NZ {K:UB}{w:Va}{h:Heap}{mg:Str->Option UC}{x:Str}{p:Addr}{es:Array WC}{n:Nat}{kvs:List (Str×D)}(X:K.In h)(G:h.Ns VM mg)(a:ZD K VM x=some (some (.ref p)))
  (l:K.lookup p=some ⟨.type "dict", none,.dict es n,#[]⟩) (hk:Ys w.params es.toList) (hn:(p == Zr)=false) (r:vS K es.toList kvs=true):GT w.params K mg x kvs:=⟨p,es,n,Y8 X G a,l,hk,hn,BB r⟩
section
variable {X:Cx} {a b:U5} {Ta Tb:ETr} {pos:Pos}
end
end
section
open PySem PySem.Spec PyProof.Rows L2
def wO {κ:Type} [DecidableEq κ] (kvs:List (κ×D))(k:κ):Option D:=(kvs.find? λkv=>decide (kv.1=k)).map (·.2)
def putD {κ:Type} [DecidableEq κ] (kvs:List (κ×D))(k:κ)(v:D):List (κ×D):=
 if (kvs.any λkv=>decide (kv.1=k))=true then kvs.map (λkv=>if kv.1=k then (kv.1,v) else kv) else kvs++[(k,v)]
theorem DpK.nil {κ:Type}{K:UB}{H:Hp}:DpK (κ:=κ) K H [] []:=⟨rfl,.nil⟩
theorem DpK.cons {κ:Type}{K:UB}{H:Hp}{k:κ}{v:V}{d:D}{xs:List (κ×V)}{kvs:List (κ×D)}(h:Dp K H v d)(r:DpK K H xs kvs):DpK K H ((k,v)::xs) ((k,d)::kvs):=
 ⟨by simp[r.1],.cons h r.2⟩
theorem DpK.ind {κ:Type}{K:UB}{H:Hp}{P:List (κ×V)->List (κ×D)->Prop}(h0:P [] [])(h1:∀ k v d xs kvs,Dp K H v d->DpK K H xs kvs->P xs kvs->P ((k,v)::xs) ((k,d)::kvs)) :
  ∀ {xs:List (κ×V)} {kvs:List (κ×D)},DpK K H xs kvs->P xs kvs
 | [],[],_=>h0
 | [],_::_,h=>by cases h.1
 | _::_,[],h=>by cases h.1
 | (k,v)::xs,(k',d)::kvs,h=>by
  obtain ⟨h2,h3⟩:=h
  simp only[Vt,Xc] at h2
  obtain ⟨rfl,h2⟩:=h2
  cases h3 with
  | cons p l=>exact h1 k v d xs kvs p ⟨h2,l⟩ (DpK.ind h0 h1 ⟨h2,l⟩)
theorem DpK.any {κ:Type} [DecidableEq κ] {K:UB}{H:Hp}{xs:List (κ×V)}{kvs:List (κ×D)}(h:DpK K H xs kvs)(k:κ):(xs.any λkv=>decide (kv.1=k))=kvs.any λkv=>decide (kv.1=k):=by
 refine DpK.ind (P:=λxs kvs=>(xs.any λkv=>decide (kv.1=k))=kvs.any λkv=>decide (kv.1=k)) rfl (λj v d xs kvs p _ ih=>?_) h
 rw[Yd,Yd,ih]
theorem DpK.length {κ:Type}{K:UB}{H:Hp}{xs:List (κ×V)}{kvs:List (κ×D)}(h:DpK K H xs kvs):xs.length=kvs.length:=by
 have:=h.2.length
 simpa using this
theorem JP {K:UB}{H:Hp}{x:V}{dx:D}{f:Addr->Prop}(p:Dp K H x dx)(h:kObj dx f):∃ a,x=.ref a/\f a:=by
 cases p with
 | obj a=>exact ⟨a,rfl,h⟩
 | _=>exact UG h
section
variable {X:Cx} {o i a b c e value:U5} {To Ti Ta Tb Te:ETr} {pos tpos:Pos}
theorem DpK.zip {K:UB}{H:Hp}:∀ {ks:List Key} {vs:List V} {ds:List D},DpL K H vs ds->DpK K H (ks.zip vs) (ks.zip ds)
 | [],_,_,_=>by simp;exact .nil
 | _::_,_,_,.nil=>by simp;exact .nil
 | k::ks,_,_,.cons p l=>.cons p (DpK.zip l)
end
end
section
open PySem PySem.Spec PyProof.Rows L2
inductive iJ {prog:UT} {w:Va} {κ:Type} [DecidableEq κ] (knd:zag prog w κ) (h:Heap):List UC->List (κ×UC)->Prop
 | nil:iJ knd h [] []
 | cons {a:Addr} {u v:UC} {k:κ} {us:List UC} {r:List (κ×UC)}:IsTup h a #[u,v]->knd.is k u=true->iJ knd h us r->iJ knd h (.ref a::us) ((k,v)::r)
section
variable {prog:UT} {w:Va} {κ:Type} [DecidableEq κ] {knd:zag prog w κ}
theorem iJ.keeps {h h':Heap}(kp:∀ b o,h.get? b=some o->o.cls=.type "tuple" -> h'.get? b=some o):∀ {us:List UC} {r:List (κ×UC)},iJ knd h us r->iJ knd h' us r
 | _,_,.nil=>.nil
 | _,_,.cons t k r=>.cons (by obtain ⟨o,e,c,n,d⟩:=t;exact ⟨o,kp _ o e c,c,n,d⟩) k (r.keeps kp)
end
end
section
open PySem PySem.Spec PyProof.Rows L2
section
variable {prog:UT} {w:Va} {κ:Type} [DecidableEq κ] {knd:zag prog w κ}
end
def dK:Key->D
 | .inl i=>.int i
 | .inr s=>.str s
def Uq (kv:Key×D):D:=.tup [dK kv.1,kv.2]
inductive oJ (K:UB) (H:Hp):List V->List (Key×V)->Prop
 | nil:oJ K H [] []
 | cons {a:Addr} {k:Key} {v:V} {ys:List V} {r:List (Key×V)}:SqT K H a [kV k,v]->oJ K H ys r->oJ K H (.ref a::ys) ((k,v)::r)
theorem oJ.at {X:Cx}{pins:List (Addr×Obj)}{σ:L2.St}{H:Hp}{s:UE}(I:Inv X pins σ H s):∀ {ys:List V} {kvs:List (Key×V)} {us:List UC},oJ X.K H ys kvs->Vals ys us->∃ r,iJ (eV X.prog X.w) s.heap us r/\KV kvs r
 | _,_,_,.nil,.nil=>⟨[],.nil,.nil⟩
 | _,_,_,@oJ.cons _ _ a k v ys r sq h,.cons ru rs=>by
  cases (show _=Vs a from ru)
  obtain ⟨r,p,q⟩:=h.at I rs
  obtain ⟨its,vs,it,_⟩:=I.tuple sq
  cases vs with | @cons _ u1 _ _ r1 vs=>cases vs with | @cons _ u2 _ _ r2 vs=>
  cases vs
  exact ⟨(k,u2)::r,.cons it (NQ r1) p,.cons ⟨rfl,r2⟩ q⟩
end
section
open PySem PySem.Spec PyProof.Rows L2
section
variable {X:Cx} {o i a b c e value:U5} {To Ti Ta Tb Te:ETr} {pos tpos apos cpos:Pos}
end
noncomputable def sY (h:Heap) (dx:PyData) (y:UC):Bool:=@decide (∃ d as,Reads h y d as/\zbN d=true/\WY d dx=true) (XH _)
theorem Lx {h:Heap}{dx d:PyData}{y:UC}{as:List Addr}(r:Reads h y d as)(hd:d.canLay0=true):sY h dx y=WY d dx:=by
 unfold sY
 cases e:WY d dx with
 | true=>exact @decide_eq_true _ (XH _) ⟨d,as,r,hd,e⟩
 | false=>
  refine @decide_eq_false _ (XH _) ?_
  rintro ⟨d',as',r',hd',e'⟩
  cases SeqAt.Reads.unique _ _ _ _ _ hd r r'
  rw[e] at e';cases e'
theorem EW {n:Nat}:∀ {ds:List D} {d:D},ck n ds=true->d∈ds->okD n d=true
 | x::r,d,h,hm=>by
  have h':okD n x=true/\ck n r=true:=by simpa[ck] using h
  rcases UQ.mp hm with rfl | hm
  ·exact h'.1
  ·exact EW h'.2 hm
section
variable {X:Cx} {pins:List (Addr×Obj)} {σ:L2.St} {H:Hp} {s:UE}
theorem item_at (I:Inv X pins σ H s){vs:List V}{ds:List D}{us:List UC}(l:DpL X.K H vs ds)(r:Vals vs us)(ok:ck 38 ds=true){dy:D}{y:UC}{bs:List Addr}(oy:okD 38 dy=true)(ry:Reads s.heap y (toP dy) bs)(hu:X.A.units+64 < cLine)
  {m:Nat} {u:UC} (hm:us[m]? = some u):∃ d,ds[m]? = some d/\sY s.heap (toP dy) u=eqD d dy/\zbV X.A.in1 s u y (sY s.heap (toP dy) u):=by
 have hlt:m < vs.length:=by rw[r.length];exact (VJ.mp hm).1
 obtain ⟨u',e1,rv⟩:=r.get (Vf hlt)
 rw[hm] at e1;cases e1
 obtain ⟨d,ed,pd⟩:=l.get' (Vf hlt)
 have od:=EW ok (Yg ed)
 obtain ⟨as,ra⟩:=eo I pd od rv
 obtain ⟨l1,d1⟩:=iL 38 d od
 obtain ⟨l2,d2⟩:=iL 38 dy oy
 have e:=Lx (dx:=toP dy) ra l1
 refine ⟨d,ed,by rw[e,qV 38 38 d dy od oy],?_⟩
 rw[e]
 exact SeqAt.eqAt_reads _ _ _ s _ _ _ _ ra ry l1 l2 (by have:=Yn (toP d).depth (toP dy).depth;rw[Around.in1_units];omega)
end
def Fs (ds:List D)(x:D):Option Nat:=ds.findIdx? λy=>eqD y x
theorem HA {X:Cx}(hu:X.A.units+64 < cLine):MtM X "list.index" (λx vs H Q=>∃ p xs y ds dy,∃ j:Nat,x=.ref p/\vs=[y]/\SqL X.K H p xs/\DpL X.K H xs ds/\Dp X.K H y dy/\ck 38 ds=true/\okD 38 dy=true/\Fs ds dy=some j/\j < 1000000/\Q (.int j) H):=by
 intro pins s σ H x vs v us Q I rx rv h
 obtain ⟨p,xs,y,ds,dy,j,rfl,rfl,sq,l,py,ok,oy,hj,hj2,q⟩:=h
 cases (show v=Vs p from rx)
 obtain ⟨u,rfl,ru⟩:=rv.one
 obtain ⟨its,r,⟨o,n,e,c,hd,hdat⟩,_⟩:=I.list sq
 obtain ⟨bs,rb⟩:=eo I py oy ru
 have he:s.heap.get? p=some ⟨.type "list", none,.seq its.toArray n,o.slots⟩:=by
  rw[e];obtain ⟨c',dd,dt,sl⟩:=o;simp only at c hd hdat;subst c hd hdat;rfl
 unfold Fs at hj
 rw[List.findIdx?_eq_some_iff_getElem] at hj
 obtain ⟨h1,h2,h3⟩:=hj
 have hl:ds.length=its.length:=by rw[← l.length,r.length]
 have at':∀ m (hm:m < its.toArray.size),∃ d,ds[m]? = some d/\sY s.heap (toP dy) its.toArray[m]=eqD d dy/\zbV X.A.in1 s its.toArray[m] u (sY s.heap (toP dy) its.toArray[m]):=λm hm=>
  item_at I l r ok oy rb hu (by simp at hm ⊢)
 refine Zz F.slot_list_index ⟨_,he,rfl⟩ F.entry_list_index (F.args_list_index_2 _ _) (SeqAt.list_indexAt p its.toArray n none o.slots u (sY s.heap (toP dy)) j (by simp;omega) (by omega) ?_ ?_) ⟨he,λw hw=>?_,?_⟩
 ·obtain ⟨d,e1,e2,_⟩:=at' j (by simp;omega)
  rw[e2]
  rw[Vf h1] at e1;cases e1
  exact h2
 ·intro m hm hlt
  obtain ⟨d,e1,e2,_⟩:=at' m hm
  rw[e2]
  have hm':m < ds.length:=by simp at hm;omega
  rw[Vf hm'] at e1;cases e1
  have:=h3 m hlt
  simpa using this
 ·obtain ⟨m,hm,rfl⟩:=ZQ.mp hw
  obtain ⟨d,_,_,e3⟩:=at' m hm
  exact e3
 ·exact ⟨.int j,H,I.tok _,⟨_,rfl⟩,q⟩
section
variable {X:Cx} {o i a b c e value:U5} {To Ti Ta Tb Te:ETr} {pos tpos apos cpos:Pos}
def Fu (μ:Mu)(x:D)(f:List D->Prop):Prop:=match x with
 | .ls ds=>f ds
 | .obj a=>kL μ a f
 | _=>False
theorem An {K:UB}{H:Hp}{μ:Mu}{x:V}{dx:D}{f:List D->Prop}(m:cH K H μ)(p:Dp K H x dx)(h:Fu μ dx f):∃ q xs ds,x=.ref q/\SqL K H q xs/\DpL K H xs ds/\f ds:=by
 cases p with
 | ls sq l=>exact ⟨_,_,_,rfl,sq.sq,l,h⟩
 | obj q=>
  obtain ⟨ds,e0,h⟩:=cJ h
  obtain ⟨xs,ex,l⟩:=m q _ e0
  exact ⟨q,xs,ds,rfl,SqL.of ex,l,h⟩
 | _=>exact UG h
def Dr (To Ti:ETr):ETr:=λρ μ Q=>To ρ μ λx μ1=>Fu μ1 x λ_=>Ti ρ μ1 λy μ2=>Fu μ2 x λds=>(ck 38 ds=true/\okD 38 y=true)/\kN (Fs ds y) λj=>j < 1000000/\Q (.int j) μ2
theorem Hf (hu:X.A.units+64 < cLine)(ho:LE X o To)(hi:LE X i Ti)
  (hbase:WX o "index" X.env (VI o X.env)=VI o X.env:=by rfl)
  (hfew:((Vr cpos (UI [i] X.env)).all (λx=>!x.1)&&(YN cpos (Xl [] X.env)).all (λx=>x.1.isSome)
   && decide (([i]:List U5).length+([]:List WZ).length+(if ([]:List WZ).isEmpty then 0 else 1) < 30))=true:=by rfl)
  (hline:(apos.endLine == cpos.line)=true:=by rfl) (hs:UI [i] X.env=(false,VI i X.env)::UI [] X.env:=by rfl) (hplain:(Vr cpos (UI [] X.env)).any (·.1)=false:=by rfl) :
  LE X (.Call (.Attribute o "index" apos) [i] [] cpos) (Dr To Ti):=by
 obtain ⟨to,po,so⟩:=ho.ex
 obtain ⟨ti,pi,si⟩:=hi.ex
 refine ⟨_,Iz XF PySem.F.slot_list_index PySem.F.type_list_index (HA hu) po (cG pi gf hs) hbase hfew hline hs hplain,λσ H ρ μ Q Q' rl h k=>so σ H ρ μ _ _ rl h λx H1 dx μ1 t1 m1 p1 h1=>?_⟩
 obtain ⟨q,xs0,ds0,rfl,sq0,l0,h1⟩:=An m1 p1 h1
 refine ⟨.inl ⟨rfl,_,sq0⟩,si σ H1 ρ μ1 _ _ (rl.go t1 m1) h1 λy H2 dy μ2 t2 m2 p2 h2=>?_⟩
 obtain ⟨q',xs,ds,eq,sq,l,h2⟩:=An m2 (p1.mono t2) h2
 cases eq
 obtain ⟨⟨o1,o2⟩,h2⟩:=h2
 obtain ⟨j,ej,hj,h2⟩:=Dh h2
 exact ⟨q,xs,y,ds,dy,j,rfl,rfl,sq,l,p2,o1,o2,ej,hj,k _ H2 _ μ2 (t1.trans t2) m2 (.int _) h2⟩
def inG (x:D)(ds:List D):Bool:=ds.any λy=>eqD y x
def IC (K:UB)(neg:Bool):L2.R2:=λx y H Q=>∃ p xs ds dx,y=.ref p/\(SqL K H p xs∨SqT K H p xs)/\DpL K H xs ds/\Dp K H x dx/\ck 38 ds=true/\okD 38 dx=true/\Q (.bl (if neg then !inG dx ds else inG dx ds)) H
theorem yR {pins:List (Addr×Obj)}{σ:L2.St}{H:Hp}{s:UE}(I:Inv X pins σ H s)(hu:X.A.units+64 < cLine){vs:List V}{ds:List D}{us:List UC}(l:DpL X.K H vs ds)(r:Vals vs us)(ok:ck 38 ds=true){dy:D}{y:UC}{bs:List Addr}(oy:okD 38 dy=true)(ry:Reads s.heap y (toP dy) bs) :
  (∀ w,w∈us.toArray->zbV X.A.in1 s w y (sY s.heap (toP dy) w))/\us.toArray.any (sY s.heap (toP dy))=inG dy ds:=by
 have hl:ds.length=us.length:=by rw[← l.length,r.length]
 constructor
 ·intro w hw
  obtain ⟨m,hm,rfl⟩:=ZQ.mp hw
  obtain ⟨d,_,_,e3⟩:=item_at I l r ok oy ry hu (m:=m) (u:=us.toArray[m]) (by simp at hm ⊢)
  exact e3
 ·unfold inG
  rw[show us.toArray.any (sY s.heap (toP dy))=us.any (sY s.heap (toP dy)) by simp]
  rw[zbx,X9,X9]
  constructor
  ·rintro ⟨w,hw,e⟩
   obtain ⟨m,hm,rfl⟩:=Z4.mp hw
   obtain ⟨d,e1,e2,_⟩:=item_at I l r ok oy ry hu (m:=m) (u:=us[m]) (by simp)
   exact ⟨d,Yg e1,by rw[← e2];exact e⟩
  ·rintro ⟨d,hd,e⟩
   obtain ⟨m,hm,rfl⟩:=Z4.mp hd
   obtain ⟨d',e1,e2,_⟩:=item_at I l r ok oy ry hu (m:=m) (u:=us[m]'(by omega)) (by simp)
   rw[Vf hm] at e1;cases e1
   exact ⟨us[m]'(by omega),Zk _,by rw[e2];exact e⟩
theorem Po (hu:X.A.units+64 < cLine):OpR X (VG .In) (IC X.K false):=by
 intro pins s σ H x y v u Q I rx ry h
 obtain ⟨p,xs,ds,dx,rfl,hq,l,px,o1,o2,q⟩:=h
 cases (show u=Vs p from ry)
 obtain ⟨bs,rb⟩:=eo I px o2 rx
 rcases hq with hq | hq
 ·obtain ⟨its,r,pl,hz⟩:=I.list hq
  obtain ⟨h1,h2⟩:=yR I hu l r o1 o2 rb
  exact SeqAt.in_listAt _ pl.isList h1 ⟨.bl _,H,I,rfl,by rw[h2];exact q⟩
 ·obtain ⟨its,r,pl,hz⟩:=I.tuple hq
  obtain ⟨h1,h2⟩:=yR I hu l r o1 o2 rb
  exact SeqAt.in_tupleAt _ pl h1 ⟨.bl _,H,I,rfl,by rw[h2];exact q⟩
theorem FI (hu:X.A.units+64 < cLine):OpR X (VG .NotIn) (IC X.K true):=by
 intro pins s σ H x y v u Q I rx ry h
 obtain ⟨p,xs,ds,dx,rfl,hq,l,px,o1,o2,q⟩:=h
 cases (show u=Vs p from ry)
 obtain ⟨bs,rb⟩:=eo I px o2 rx
 rcases hq with hq | hq
 ·obtain ⟨its,r,pl,hz⟩:=I.list hq
  obtain ⟨h1,h2⟩:=yR I hu l r o1 o2 rb
  exact SeqAt.notIn_listAt _ pl.isList h1 ⟨.bl _,H,I,rfl,by rw[h2];exact q⟩
 ·obtain ⟨its,r,pl,hz⟩:=I.tuple hq
  obtain ⟨h1,h2⟩:=yR I hu l r o1 o2 rb
  exact SeqAt.notIn_tupleAt _ pl h1 ⟨.bl _,H,I,rfl,by rw[h2];exact q⟩
def Ji (μ:Mu)(x:D)(f:List D->Prop):Prop:=match x with
 | .tup ds=>f ds
 | .ls ds=>f ds
 | .obj a=>kL μ a f
 | _=>False
def CT (neg:Bool):DR2:=λx y μ Q=>Ji μ y λds=>(ck 38 ds=true/\okD 38 x=true)/\Q (.bl (if neg then !inG x ds else inG x ds)) μ
theorem EH {K:UB}(neg:Bool):dh K (IC K neg) (CT neg):=λH μ x y dx dy Q Q' m px py h k=>by
 cases py with
 | tup sq l=>exact ⟨_,_,_,dx,rfl,.inr sq,l,px,h.1.1,h.1.2,k _ H _ μ (.refl H) m (.bl _) h.2⟩
 | ls sq l=>exact ⟨_,_,_,dx,rfl,.inl sq.sq,l,px,h.1.1,h.1.2,k _ H _ μ (.refl H) m (.bl _) h.2⟩
 | obj q=>
  obtain ⟨ds,e0,h⟩:=cJ (show kL μ q _ from h)
  obtain ⟨xs,ex,l⟩:=m q _ e0
  exact ⟨_,_,_,dx,rfl,.inl (SqL.of ex),l,px,h.1.1,h.1.2,k _ H _ μ (.refl H) m (.bl _) h.2⟩
 | _=>exact UG h
theorem Pg (hu:X.A.units+64 < cLine)(ha:LE X a Ta)(hb:LE X b Tb)(hm:Wx .In b=false:=by rfl):LE X (.Compare a [.In] [b] pos) (aq (CT false) Ta Tb):=gD (Po hu) (EH false) ha hb hm
theorem Fv (hu:X.A.units+64 < cLine)(ha:LE X a Ta)(hb:LE X b Tb)(hm:Wx .NotIn b=false:=by rfl):LT X (.Compare a [.NotIn] [b] pos) (TB (aq (CT true) Ta Tb)):=jm (FI hu) (EH true) ha hb hm
end
end
section
open PySem PySem.Spec PyProof.Rows L2
def Oa (K:UB)(n:Nat)(t:TGs)(is:List Nat):Prop:=∀ σ H ρ μ vs ds (k:ST->Mu->Prop) (k':L2.St->Hp->Prop),Rl K σ H ρ μ->DpL K H vs ds->ds.length=is.length->k (iP ρ is ds) μ->Nm K n σ H k k'->t vs σ H k'
structure Lg (X:Cx) (n:Nat) (es:List U5) (is:List Nat):Prop where
 ex:∃ t,PGs X es t/\Oa X.K n t is
section
variable {X:Cx} {e tg:U5} {es:List U5} {is:List Nat} {pos:Pos} {x:Str} {n:Nat}
theorem HX:Lg X n [] []:=⟨_,D6,λσ H ρ μ vs ds k k' rl l hl h q=>by
 cases ds with
 | nil=>cases l;exact ⟨rfl,q _ _ _ _ (.refl H) rl ⟨rfl,λ_ _=>rfl⟩ h⟩
 | cons=>cases hl⟩
theorem wz (i:Nat)(hN:X.N.Nodup)(h2:Lg X n es is)(hin:i < n:=by decide)(hi:X.N[i]? = some x:=by rfl)(hx:Loc X.env.scope x:=by first | exact ZC rfl | exact YQ rfl)(hf:X.fn x=true∨X.env.scope.names.lookup x=some .local:=by first | exact .inr rfl | exact .inl rfl | assumption)
  (hs:(V1 (.Name x pos::es) X.env).map (·.2)=YH (.Name x pos) X.env::(V1 es X.env).map (·.2):=by rfl):Lg X n (.Name x pos::es) (i::is):=by
 obtain ⟨t,pt,st⟩:=h2.ex
 refine ⟨_,Aq (nG hN hi hx hf) pt hs,λσ H ρ μ vs ds k k' rl l hl h q=>?_⟩
 cases l with
 | nil=>cases hl
 | @cons v d vs ds p l=>
  refine ⟨v,vs,rfl,st _ H _ μ vs ds k k' (rl.set p i) l (by simpa using hl) h λσ' H' ρ' μ' t' r' hk kk=>q σ' H' ρ' μ' t' r' ⟨?_,λj hj=>?_⟩ kk⟩
  ·rw[hk.1];simp
  ·rw[hk.2 j hj,WQ (by omega)]
theorem MA {k:Nat}(hc:X.calm=true)(h:Lg X n es is)(hn:(V1 es X.env).length=is.length:=by rfl)(hst:(V1 es X.env).findIdx? (·.1)=none:=by rfl):LGc X n (.Tuple es k pos) (jJ is):=by
 obtain ⟨t,pt,st⟩:=h.ex
 refine ⟨λpins s σ H v u k' I r ⟨ρ,μ,d,k,rl,p,h,post⟩=>G7 hc pt hn hst pins s σ H v u k' I r ?_⟩
 cases p with
 | @tup a xs ds sq l=>exact ⟨a,xs,rfl,sq,by rw[l.length];exact h.1,st σ H ρ μ xs ds k k' rl l h.1 h.2 post⟩
 | _=>exact UG h
end
section
variable {X:Cx} {o i a b c e value:U5} {To Ti Ta Tb Te:ETr} {pos tpos apos cpos:Pos}
theorem Fi (l:Addr)(its:Array UC)(n:Nat)(q:Addr)(its2:Array UC)(n2:Nat)(sl:Array (Option UC))(h0:¬ (!its.isEmpty&&VY (its.size+its2.size))=true)(h1:its.size<=sizeLine)(h2:its.size+its2.size<=sizeLine+1) :
  Meets (W0.«list.extend» ⟨[.ref l,.ref q],[]⟩) (λ_ R s=>s.heap.get? l=some { cls:=.type "list", dict:=none,data:=.seq its n,slots:=#[] }/\s.heap.get? q=some { cls:=.type "list", dict:=none,data:=.seq its2 n2,slots:=sl }/\
   R (.ok (.ret VO)) { s with heap:=s.heap.update l (WG λx=>x++its2) }):=
 .of_wp λprog w A R s h=>by
  obtain ⟨hp,g,d,tk,os⟩:=s
  obtain ⟨hl,hb,h⟩:=h
  have z1:=ZG
  have z2:=Ya
  have z3:=Yt
  have z4:=Yi
  have z5:=Yj
  have hz':(its++its2).size<=sizeLine+1:=by rw[Y1];omega
  wp_walk using (wpAny_updateSeq hl rfl (hz:=h1) (_hz':=hz')),Yu hl,Yu hb
  exact ⟨_,rfl,h⟩
def So (K:UB):V->List V->Hp->VK->Prop:=λx vs H Q=>∃ l b xs zs,x=.ref l/\vs=[.ref b]/\H l=some (.lst xs)/\SqL K H b zs/\xs.length+zs.length<=sizeLine/\Q .non (L2.upd H l (.lst (xs++zs)))
theorem QA:MtM X "list.extend" (So X.K):=by
 intro pins s σ H x vs v us Q I rx rv h
 obtain ⟨l,q,xs,zs,rfl,rfl,hH,hB,hz,qq⟩:=h
 cases (show v=Vs l from rx)
 obtain ⟨u,rfl,ru⟩:=rv.one
 cases (show u=Vs q from ru)
 obtain ⟨z,its,n,r,hl,e⟩:=I.MD hH
 obtain ⟨its2,r2,⟨o,n2,e2,c2,d2,dat2⟩,_⟩:=I.list hB
 have e2':s.heap.get? q=some ⟨.type "list", none,.seq its2.toArray n2,o.slots⟩:=by
  rw[e2];obtain ⟨c',dd,dt,sl⟩:=o;simp only at c2 d2 dat2;subst c2 d2 dat2;rfl
 have hl2:=r2.length
 have hs2:its.toArray.size+its2.toArray.size<=sizeLine:=by rw[UR,UR];omega
 have Hi:¬ (!its.toArray.isEmpty&&VY (its.toArray.size+its2.toArray.size))=true:=by
  rw[zG hs2,WJ];decide
 refine Zz zaO ⟨_,e,rfl⟩ zak (Z5 _ _) (Fi l its.toArray n q its2.toArray n2 o.slots Hi (by omega) (by omega)) ⟨e,e2',?_⟩
 refine ⟨.non,_,I.Pd (its':=its++its2) hH e (by simp) (r.append r2) ?_,rfl,qq⟩
 rw[UY];omega
end
section
variable {P:UT} {w:Va} {K:UB} {mg:Str->Option UC} {base:Heap}
theorem Ro {k:Nat}{f:Addr}{fd:US}{ps:List Str}{x qual:Str}{st:Stmt}{N:List Str}(F:Fun K x qual st f fd)(S:aE N ps (aw st)):jK P w K mg base CX0 (k+1) f fd ps (lift K λ_ _ _=>False):=by
 refine F.ok S (λvs H Q E h=>?_) (λcdv A outer s H vs Q E hroom h=>?_)
 ·obtain ⟨ds,μ,QQ,l,m,h1,k⟩:=h;exact h1.elim
 ·obtain ⟨ds,μ,QQ,l,m,h1,k⟩:=h;exact h1.elim
end
end
section
open PySem PySem.Spec PyProof.Rows L2
section
variable {X:Cx} {tg a ea eb:U5} {Ta:ETr} {es:List U5} {ek:Nat} {ep p pos:Pos}
def Ug (K:UB)(tl:TE):TI:=λσ H R=>tl σ H λx H1=>∃ q,x=.ref q/\(((∃ xs,SqL K H1 q xs)/\R (Itl K q) H1)∨((∃ xs,SqT K H1 q xs)/\R (Itt K q) H1))
theorem Qe {tl:TE}(hl:PE X a tl):PI X tg a (Ug X.K tl):=by
 intro pins s σ H R I h
 refine thn (hl pins s σ H _ I h) λv s1 ⟨x,H1,I1,r1,q,ex,qq⟩=>?_
 subst ex
 cases (show v=Vs q from r1)
 have fp:∀ b∈[s1.heap.objs.size],_:=λb hb=>by
  have e:b=s1.heap.objs.size:=by simpa using hb
  subst e
  exact I1.Io (U0 _) (I1.hok.fresh (U0 _))
 rcases qq with ⟨⟨xs,sq⟩,qq⟩ | ⟨⟨xs,sq⟩,qq⟩
 ·obtain ⟨its,rv,pl,hz⟩:=I1.list sq
  exact XT pl.isList ⟨s1.heap.objs.size,[s1.heap.objs.size],_,_,H1,rfl,I1.kept (t':=s1.toks) (λb o e=>UD _ e),E8 q _,⟨_,UP _ rfl,rfl,rfl⟩,fp,qq⟩
 ·obtain ⟨its,rv,pl,hz⟩:=I1.tuple sq
  exact zaK (show s1.heap.IsTuple q its.toArray from pl) ⟨s1.heap.objs.size,[s1.heap.objs.size],_,_,H1,rfl,I1.kept (t':=s1.toks) (λb o e=>UD _ e),BU q _,⟨_,UP _ rfl,rfl,rfl⟩,fp,qq⟩
theorem cw (ha:LE X a Ta):LI X tg a (fk Ta):=by
 obtain ⟨ta,pa,sa⟩:=ha.ex
 refine ⟨_,Qe pa,λσ H ρ μ Q R rl h k=>sa σ H ρ μ _ _ rl h λx H1 d μ1 t1 m1 p1 h1=>?_⟩
 cases p1 with
 | @tup p xs ds q l=>exact ⟨p,rfl,.inr ⟨⟨xs,q⟩,k _ H1 ds μ1 t1 m1 (IM q l) h1⟩⟩
 | @ls p xs ds q l=>exact ⟨p,rfl,.inl ⟨⟨xs,q.sq⟩,k _ H1 ds μ1 t1 m1 (Ly q l) h1⟩⟩
 | _=>exact UG h1
def Ra (K:UB)(t:TA):TI:=λσ H R=>t σ H λvs H1=>∃ (ta tb:Bool) (a b:Addr),vs=[.ref a,.ref b]/\(∃ xs,Sq ta K H1 a xs)/\(∃ ys,Sq tb K H1 b ys)/\R (Itz ta tb K a b) H1
theorem LU {t:TA}(hg:Gl X "zip")(hm:X.mg "zip" = none)(ha:PA X [ea,eb] t)(hs:UI [ea,eb] X.env=[(false,VI ea X.env),(false,VI eb X.env)]:=by rfl)(hs2:UI [eb] X.env=[(false,VI eb X.env)]:=by rfl) :
  PI X (.Tuple es ek ep) (.Call (.Name "zip" p) [ea,eb] [] pos) (Ra X.K t):=by
 intro pins s σ H R I h
 refine Call_ (je I hg hm boot_zip (V3 (thn (ha pos pins s σ H _ I h) λus s1 ⟨vs,H1,I1,r1,ta,tb,a,b,e,⟨xs,qa⟩,⟨ys,qb⟩,q⟩=>?_) (by rw[hs,hs2]) (by rw[hs2];rfl)))
 subst e
 cases r1 with | cons r rr=>cases rr with | cons r' rr=>
 cases rr
 cases (show _=Vs a from r)
 cases (show _=Vs b from r')
 obtain ⟨ia,ra,sa⟩:=Inv.sq I1 qa
 obtain ⟨ib,rb,sb⟩:=Inv.sq I1 qb
 have alt:a < s1.heap.objs.size:=by cases ta<;>(obtain ⟨o,e,_⟩:=sa;exact UO e)
 have blt:b < s1.heap.objs.size:=by cases tb<;>(obtain ⟨o,e,_⟩:=sb;exact UO e)
 refine Gf sa sb λg S kp=>zbl S.zz ⟨s1.heap.objs.size+4,[s1.heap.objs.size+4,s1.heap.objs.size+2,s1.heap.objs.size+3,s1.heap.objs.size,s1.heap.objs.size+1],_,_,H1,rfl,I1.kept (t':=s1.toks) kp,Kb (Rb _ _ _ alt blt),S,λc hc=>?_,q⟩
 exact I1.Io (Nn _ _ hc) (I1.hok.fresh (Nn _ _ hc))
def Em (t:ATr):ATr:=λρ μ Q=>t ρ μ λvs μ1=>k2 vs λx y=>kS x λds=>kS y λes=>Q (YC (λd e=>.tup [d,e]) ds es) μ1
theorem GR {K:UB}{H:Hp}{v:V}{x:D}{f:List D->Prop}(p:Dp K H v x)(h:kS x f):∃ (tp:Bool) (a:Addr) (xs:List V) (ds:List D),v=.ref a/\SqX tp K H a xs/\DpL K H xs ds/\kQ tp x f:=by
 cases p with
 | @tup a xs ds q l=>exact ⟨true,a,xs,ds,rfl,q,l,h⟩
 | @ls a xs ds q l=>exact ⟨false,a,xs,ds,rfl,q,l,h⟩
 | _=>exact UG h
theorem EM {At:ATr}(hg:Gl X "zip")(hm:X.mg "zip" = none)(ha:LA X [ea,eb] At)
  (hs:UI [ea,eb] X.env=[(false,VI ea X.env),(false,VI eb X.env)]:=by rfl) (hs2:UI [eb] X.env=[(false,VI eb X.env)]:=by rfl) :
  LI X (.Tuple es ek ep) (.Call (.Name "zip" p) [ea,eb] [] pos) (Em At):=by
 obtain ⟨t,pt,st⟩:=ha.ex
 refine ⟨_,LU hg hm pt hs hs2,λσ H ρ μ Q R rl h k=>st σ H ρ μ _ _ rl h λvs H1 ds μ1 t1 m1 p1 h1=>?_⟩
 unfold L3.k2 at h1
 split at h1
 case h_2=>exact UG h1
 cases p1 with | cons pa p2=>cases p2 with | cons pb p3=>
 cases p3
 obtain ⟨ta,a,xs,dx,rfl,qa,la,h2⟩:=GR pa h1
 obtain ⟨a',xs',dx',ea',qa',la',h2⟩:=Ht pa h2
 cases ea'
 obtain ⟨tb,b,ys,dy,rfl,qb,lb,h3⟩:=GR pb h2
 obtain ⟨b',ys',dy',eb',qb',lb',h3⟩:=Ht pb h3
 cases eb'
 refine ⟨ta,tb,a,b,rfl,⟨xs',qa'.sq⟩,⟨ys',qb'.sq⟩,k _ H1 _ μ1 t1 m1 ⟨λi H' tk hi=>?_,λi H' v H'' tk hi yv=>?_,λi H' tk hi=>?_⟩ h3⟩
 ·have l1:=la'.length
  have l2:=lb'.length
  rw[zal] at hi
  exact ⟨xs',ys',xs'[i],ys'[i],tk.sq qa',tk.sq qb',by simp[show i < xs'.length by omega],by simp[show i < ys'.length by omega]⟩
 ·obtain ⟨x,y,q,fx,fy,rfl,fr,rfl⟩:=yv
  obtain ⟨d,ed,pd⟩:=la'.get' (fx _ (tk.sq qa'))
  obtain ⟨e,ee,pe⟩:=lb'.get' (fy _ (tk.sq qb'))
  have tn:Tk H' (L2.upd H' q (.tup [x,y])):=.new fr
  exact ⟨tn,⟨.tup [d,e],by simp[List.getElem?_zipWith,ed,ee],.tup (SqT.of bc) (.cons ((pd.mono tk).mono tn) (.cons ((pe.mono tk).mono tn) .nil))⟩,λμ' m'=>fj m' fr⟩
 ·have l1:=la'.length
  have l2:=lb'.length
  rw[zal] at hi
  exact ⟨xs',ys',tk.sq qa',tk.sq qb',by omega⟩
variable {i o:U5} {Ti To:ETr}
end
end
section
open PySem PySem.Spec PyProof.Rows L2
def ltS (x y:Str):Bool:=decide (x.cps.toList < y.cps.toList)
theorem gJ:∀ {us:List UC} {ss:List Str},XW us ss->Vals (ss.map V.str) us
 | _,_,.nil=>.nil
 | _,_,.cons n t h=>.cons ⟨t,rfl⟩ (gJ h)
theorem yC:∀ {us:List UC} {ss:List Str},Vals (ss.map V.str) us->XW us ss
 | _,[],h=>by cases h;exact .nil
 | _,s::r,h=>by
  cases h with
  | cons q h=>obtain ⟨t,rfl⟩:=(show ∃ t,_=XB s t from q);exact .cons s t (yC h)
def N8 (K:UB):List V->Hp->VK->Prop:=λxs H Q=>∃ (p:Addr) (ss:List Str),xs=[.ref p]/\SqL K H p (ss.map V.str)/\ss.length < 64/\∀ ss':List Str,ss'.Perm ss->ss'.Pairwise (λa b=>ltS b a=false)->∀ z,H z=none->Q (.ref z) (L2.upd H z (.lst (ss'.map V.str)))
theorem Gw:∀ (p:Str) (l:List Str),risingS p l=true->(p::l).Pairwise (λa b=>ltS b a=false):=by
 have tr:∀ a b c:Str,ltS b a=false->ltS c b=false->ltS c a=false:=by
  intro a b c h1 h2
  unfold ltS at *
  rw[decide_eq_false_iff_not,zcr] at *
  exact List.le_trans h1 h2
 intro p l
 induction l generalizing p with
 | nil=>intro _;exact List.pairwise_singleton _ _
 | cons x r ih=>
  intro h
  have h':ltCps x.cps.toList p.cps.toList=false/\risingS x r=true:=by
   have:(!ltCps x.cps.toList p.cps.toList&&risingS x r)=true:=h
   simpa using this
  have hx:=ih x h'.2
  have hpx:ltS x p=false:=by unfold ltS;rw[← ltCps_eq];exact h'.1
  refine zaP.mpr ⟨λy hy=>?_,hx⟩
  rcases UQ.mp hy with rfl | hy
  ·exact hpx
  ·exact tr p x y hpx ((zaP.mp hx).1 y hy)
theorem wL:∀ (l:List Str),sortedS l=true->l.Pairwise (λa b=>ltS b a=false)
 | [],_=>.nil
 | p::l,h=>Gw p l h
theorem Dw {X:Cx}:cj X (.builtin "sorted") (N8 X.K):=λpins s σ H xs us Q I rx ⟨p,ss,e1,sq,hl,q⟩=>by
 subst e1
 obtain ⟨u,rfl,ru⟩:=vals1 rx
 cases (show u=Vs p from ru)
 obtain ⟨its,rv,pl,hz⟩:=I.list sq
 have hi:XW its ss:=yC rv
 have hlen:its.length < 64:=by have:=rv.length;simp at this;omega
 refine sorted_strs pl.isList hi hlen λout ss' a1 a2 a3=>?_
 obtain ⟨n,en⟩:=sortedAll_at s.heap its out
 refine ⟨.ref _,_,I.laid (t':=s.toks) (o:=.lst (ss'.map V.str)) (λb o e=>sortedAll_old e) (Nat.le_succ _) ?_,rfl,q ss' a2 (wL _ a3) _ (I.hok.fresh (Nat.le_succ _))⟩
 have z1:ss'.length=ss.length:=a2.length_eq
 exact ⟨by rw[UJ,z1];exact Zs (U4 hl (by decide)),out.toList,n,gJ a1,by simpa[Xz] using en⟩
def De:FSp:=λds μ Q=>match ds with
 | [.ls xs]=>∃ ss:List Str,(xs=ss.map .str/\ss.length < 64)/\∀ ss':List Str,ss'.Perm ss->ss'.Pairwise (λa b=>ltS b a=false)->Q (.ls (ss'.map .str)) μ
 | _=>False
theorem DpL.strs {K:UB}{H:Hp}:∀ ss:List Str,DpL K H (ss.map V.str) (ss.map D.str)
 | []=>.nil
 | s::r=>.cons (.str s) (DpL.strs r)
theorem DpL.gJ {K:UB}{H:Hp}:∀ {xs:List V} {ss:List Str},DpL K H xs (ss.map .str)->xs=ss.map V.str
 | _,[],.nil=>rfl
 | _,s::r,.cons h l=>by cases h;rw[DpL.gJ l];rfl
section
variable {X:Cx} {e a b:U5} {x:Str} {p pos:Pos} {At:ATr} {Ta Tb:ETr}
theorem IW (hg:Gl X x)(hm:X.mg x=none)(hv:Vm x=some (.builtin "sorted"))(ha:LA X [e] At)(hn:x ≠ "__name__" := by decide)(hdb:(x == ("__debug__" : Str))=false:=by decide)
  (h1:UI [e] X.env=(false,VI e X.env)::UI [] X.env:=by rfl) (h2:(Vr pos (UI [] X.env)).any (·.1)=false:=by rfl):LE X (.Call (.Name x p) [e] [] pos) (ao De At):=by
 obtain ⟨ta,pa,sa⟩:=ha.ex
 refine ⟨_,mf (nM Dw hg hm hv pa hn hdb h1 h2),λσ H ρ μ Q Q' rl h k=>sa σ H ρ μ _ _ rl h λxs H1 ds μ1 t1 m1 p1 h1=>?_⟩
 unfold De at h1
 split at h1
 ·obtain ⟨ss,⟨rfl,hl⟩,h2⟩:=h1
  cases p1 with | cons p1 p2=>
  cases p2
  cases p1 with
  | @ls a ys _ q l=>
   cases DpL.gJ l
   refine ⟨a,ss,rfl,q.sq,hl,λss' a2 a3 z hz=>⟨z,_,rfl,bc,λo=>?_⟩⟩
   have e:L2.upd (L2.upd H1 z (.lst (ss'.map V.str))) z (.frz o (.lst (ss'.map V.str)))=L2.upd H1 z (.frz o (.lst (ss'.map V.str))):=xu
   rw[e]
   exact k _ _ _ μ1 (t1.trans (.new hz)) (fj m1 hz) (.ls (.inl ⟨o,bc⟩) (.strs ss')) (h2 ss' a2 a3)
 ·exact UG h1
end
end
section
open PySem PySem.Spec PyProof.Rows L2
end
section
open PySem PySem.Spec PyProof.Rows L2
section
variable {prog:UT} {w:Va} {A:U9} {E:UC->UE->Prop} {s:UE}
end
section
variable {X:Cx} {ea eb:U5} {Ta Tb:ETr} {p p2 pos rpos:Pos}
end
end
section
open PySem PySem.Spec PyProof.Rows L2
section
variable {prog:UT} {w:Va} {A:U9} {E:UC->UE->Prop} {s:UE}
theorem sortedHeap_at {g:Heap}{vs:List UC}{out:Array UC}{k:Nat}(e:(g.push (Xz "list" vs.toArray k)).get? g.objs.size=some (Xz "list" vs.toArray k)):(∃ n,(zbW (g.push (Xz "list" vs.toArray k)) g.objs.size vs out).get? g.objs.size=some (Xz "list" out n))/\∀ b o,g.get? b=some o->(zbW (g.push (Xz "list" vs.toArray k)) g.objs.size vs out).get? b=some o:=by
 have lt:g.objs.size < (g.push (Xz "list" vs.toArray k)).objs.size:=by rw[size_push'];omega
 unfold zbW
 constructor
 ·have e1:=get?_update_seq e λ_=>#[]
  have e2:∀ o1 o2:Obj,((((g.push (Xz "list" vs.toArray k)).update g.objs.size (WG λ_=>#[])).push o1).push o2).get? g.objs.size=_:=λo1 o2=>UD _ (UD _ e1)
  exact ⟨_,get?_update_seq (e2 _ _) λ_=>out⟩
 ·intro b o hb
  have nb:g.objs.size≠b:=Vq (UW (UO hb))
  exact (VC _ _ nb).trans (UD _ (UD _ ((VC _ _ nb).trans (UD _ hb))))
end
end
section
open PySem PySem.Spec PyProof.Rows L2
section
variable {prog:UT} {w:Va} {A:U9} {E:UC->UE->Prop} {s:UE}
end
section
variable {X:Cx} {ea:U5} {es:List U5} {ek:Nat} {ep p pos:Pos}
end
end
section
open PySem PySem.Spec PyProof PyProof.Rows L2
section
variable {w:Va} {prog:UT} {A:U9} {E:UC->UE->Prop}
section
variable {R:zbJ->UE->Prop} {I:Addr} {fp wr:List Addr} {n:Nat} {P:Nat->UC->Prop} {St:Nat->Heap->Prop}
end
variable {s:UE}
end
section
variable {X:Cx} {e d:U5} {p pos kp:Pos} {Te Td:ETr}
end
end
section
open PySem PySem.Spec PyProof.Rows L2
section
variable {X:Cx} {o i:U5} {To Ti:ETr} {apos cpos:Pos}
end
end
section
open PySem PySem.Spec PyProof.Rows L2
section
variable {X:Cx} {o i:U5} {To Ti:ETr} {apos cpos:Pos}
theorem C3 (l:Addr)(its:Array UC)(n:Nat)(q:Addr)(its2:Array UC)(n2:Nat)(dd:Option Addr)(sl:Array (Option UC))(h0:¬ (!its.isEmpty&&VY (its.size+its2.size))=true)(h1:its.size<=sizeLine)(h2:its.size+its2.size<=sizeLine+1) :
  Meets (W0.«list.extend» ⟨[.ref l,.ref q],[]⟩) (λ_ R s=>s.heap.get? l=some { cls:=.type "list", dict:=none,data:=.seq its n,slots:=#[] }/\s.heap.get? q=some { cls:=.type "tuple", dict:=dd,data:=.seq its2 n2,slots:=sl }/\
   R (.ok (.ret VO)) { s with heap:=s.heap.update l (WG λx=>x++its2) }):=
 .of_wp λprog w A R s h=>by
  rcases s with ⟨hp,g,d,tk,os⟩
  obtain ⟨hl,hb,h⟩:=h
  have z1:=ZG
  have z2:=Ya
  have z3:=Yt
  have z4:=Yi
  have z5:=Yj
  have hz':(its++its2).size<=sizeLine+1:=by rw[Y1];omega
  wp_walk using (wpAny_updateSeq hl rfl (hz:=h1) (_hz':=hz')),Yu hl,Yu hb
  exact ⟨_,rfl,h⟩
def Rz (K:UB):V->List V->Hp->VK->Prop:=λx vs H Q=>∃ l b xs zs,x=.ref l/\vs=[.ref b]/\H l=some (.lst xs)/\(SqL K H b zs∨SqT K H b zs)/\xs.length+zs.length<=sizeLine/\Q .non (L2.upd H l (.lst (xs++zs)))
theorem KH:MtM X "list.extend" (Rz X.K):=by
 intro pins s σ H x vs v us Q I rx rv h
 obtain ⟨l,q,xs,zs,rfl,rfl,hH,hB,hz,qq⟩:=h
 rcases hB with hB | hB
 ·exact QA pins s σ H _ _ v us Q I rx rv ⟨l,q,xs,zs,rfl,rfl,hH,hB,hz,qq⟩
 cases (show v=Vs l from rx)
 obtain ⟨u,rfl,ru⟩:=rv.one
 cases (show u=Vs q from ru)
 obtain ⟨z,its,n,r,hl,e⟩:=I.MD hH
 obtain ⟨its2,r2,⟨o,e2,c2,n2,dat2⟩,_⟩:=I.tuple hB
 have e2':s.heap.get? q=some ⟨.type "tuple", o.dict,.seq its2.toArray n2,o.slots⟩:=by
  rw[e2];obtain ⟨c',dd,dt,sl⟩:=o;simp only at c2 dat2;subst c2 dat2;rfl
 have hl2:=r2.length
 have hs2:its.toArray.size+its2.toArray.size<=sizeLine:=by rw[UR,UR];omega
 have Hi:¬ (!its.toArray.isEmpty&&VY (its.toArray.size+its2.toArray.size))=true:=by
  rw[zG hs2,WJ];decide
 refine Zz zaO ⟨_,e,rfl⟩ zak (Z5 _ _) (C3 l its.toArray n q its2.toArray n2 o.dict o.slots Hi (by omega) (by omega)) ⟨e,e2',?_⟩
 refine ⟨.non,_,I.Pd (its':=its++its2) hH e (by simp) (r.append r2) ?_,rfl,qq⟩
 rw[UY];omega
def Et (To Ti:ETr):ETr:=λρ μ Q=>To ρ μ λx μ1=>kObj x λa=>kL μ1 a λ_=>Ti ρ μ1 λy μ2=>Ji μ2 y λes=>kL μ2 a λds=>ds.length+es.length<=1000000/\Q .non (up μ2 a (.lst (ds++es)))
theorem HJ {K:UB}{H:Hp}{μ:Mu}{x:V}{dx:D}{f:List D->Prop}(m:cH K H μ)(p:Dp K H x dx)(h:Ji μ dx f):∃ q xs ds,x=.ref q/\(SqL K H q xs∨SqT K H q xs)/\DpL K H xs ds/\f ds:=by
 cases p with
 | tup sq l=>exact ⟨_,_,_,rfl,.inr sq,l,h⟩
 | ls sq l=>exact ⟨_,_,_,rfl,.inl sq.sq,l,h⟩
 | obj q=>
  obtain ⟨ds,e0,h⟩:=cJ (show kL μ q _ from h)
  obtain ⟨xs,ex,l⟩:=m q _ e0
  exact ⟨q,xs,ds,rfl,.inl (SqL.of ex),l,h⟩
 | _=>exact UG h
theorem D7 (ho:LE X o To)(hi:LE X i Ti)
  (hbase:WX o "extend" X.env (VI o X.env)=VI o X.env:=by rfl)
  (hfew:((Vr cpos (UI [i] X.env)).all (λx=>!x.1)&&(YN cpos (Xl [] X.env)).all (λx=>x.1.isSome)
   && decide (([i]:List U5).length+([]:List WZ).length+(if ([]:List WZ).isEmpty then 0 else 1) < 30))=true:=by rfl)
  (hline:(apos.endLine == cpos.line)=true:=by rfl) (hs:UI [i] X.env=(false,VI i X.env)::UI [] X.env:=by rfl) (hplain:(Vr cpos (UI [] X.env)).any (·.1)=false:=by rfl) :
  LE X (.Call (.Attribute o "extend" apos) [i] [] cpos) (Et To Ti):=by
 obtain ⟨to,po,so⟩:=ho.ex
 obtain ⟨ti,pi,si⟩:=hi.ex
 refine ⟨_,Iz XF PySem.F.slot_list_extend PySem.F.type_list_extend KH po (cG pi gf hs) hbase hfew hline hs hplain,λσ H ρ μ Q Q' rl h k=>so σ H ρ μ _ _ rl h λx H1 dx μ1 t1 m1 p1 h1=>?_⟩
 obtain ⟨q,rfl,h1⟩:=JP p1 h1
 obtain ⟨ds0,e0,h1⟩:=cJ h1
 obtain ⟨xs0,ex0,_⟩:=m1 q _ e0
 refine ⟨.inl ⟨rfl,_,SqL.of ex0⟩,si σ H1 ρ μ1 _ _ (rl.go t1 m1) h1 λy H2 dy μ2 t2 m2 p2 h2=>?_⟩
 obtain ⟨q',ys,es,rfl,sq,l',h2⟩:=HJ m2 p2 h2
 obtain ⟨ds,e2,hz,h2⟩:=cJ h2
 obtain ⟨xs,ex,l⟩:=m2 q _ e2
 exact ⟨q,q',xs,ys,rfl,rfl,ex,sq,by rw[l.length,l'.length];exact big hz,k _ _ _ _ ((t1.trans t2).trans (rW ex)) (Ny m2 ex (l.append l')) .non h2⟩
end
end
section
open PySem PySem.Spec PyProof.Rows L2
end
section
open PySem PySem.Spec PyProof.Rows L2
section
variable {X:Cx} {a b c d:U5} {ta tb tc td:TE} {Ta Tb Tc Td:ETr} {pos:Pos} {o1 o2 o3:zaR} {r1 r2 r3:L2.R2} {R1 R2 R3:DR2}
end
end
section
open PySem PySem.Spec PyProof.Rows L2
def QU (x:Str):It:=⟨λi _=>i < x.cps.size,λi H v H'=>H'=H/\∃ c,x.cps[i]? = some c/\v=.str ⟨#[c]⟩,λi _=>x.cps.size<=i⟩
theorem JK {P:UT}{w:Va}{K:UB}{tg:U5}(x:Str)(t:Tok)(it:Addr):Turn P w K tg (QU x) [it] it (λi h=>h.IsStrIter it "str_ascii_iterator" x t i) where
 mem:=UZ.mpr rfl
 obj:=λi h st b hb=>by
  obtain rfl:=UZ.mp hb
  obtain ⟨o,e,c,d⟩:=st
  exact ⟨o,e,λv z=>by rw[d] at z;cases z⟩
 keep:=λi h h' st k=>let ⟨o,e,r⟩:=st;⟨o,k it (UZ.mpr rfl) o e,r⟩
 item:=by
  intro X hP hw hK hc i pins s σ H E I hf st hg
  subst hP hw hK
  have hg:i < x.cps.size:=hg
  obtain ⟨f0,f1,f2,f3,f4,f5⟩:=hf it (UZ.mpr rfl)
  refine wpAny_pyNext_ascii_item st (c:=x.cps[i]) (VA hg) λh' st' sb=>?_
  have I1:Inv X pins σ H { s with heap:=h',toks:=s.toks+1 }:=I.turned (t':=s.toks+1) (λb o hb e=>(sb.2 b hb).trans e) f0 f1 f3 f4 f5
  obtain ⟨o,e,c,d⟩:=id st'
  exact ⟨_,rfl,EA (s:={ s with heap:=h',toks:=s.toks+1 }) e c d (by decide) ⟨.str ⟨#[x.cps[i]]⟩,H,I1,⟨_,rfl⟩,⟨rfl,_,VA hg,rfl⟩,st',λb hb=>(hf b hb).1⟩⟩
 done:=by
  intro X hP hw hK hc i pins s σ H E I hf st hg
  subst hP hw hK
  have hg:x.cps.size<=i:=hg
  obtain ⟨f0,f1,f2,f3,f4,f5⟩:=hf it (UZ.mpr rfl)
  exact wpAny_pyNext_ascii_end (I.ok.hd hc) st (Wv hg) λh' eb=>⟨rfl,I.turned (t':=s.toks) (λb o hb e=>eb b o hb e) f0 f1 f3 f4 f5⟩
 self:=λ_ _ _ _ _ st h=>wpAny_pyIter_striter_ascii st h
section
variable {X:Cx} {tg a b:U5} {Ta Tb:ETr} {pos:Pos}
def Tv (tl:TE):TI:=λσ H R=>tl σ H λv H1=>∃ x,v=.str x/\x.cps.all (· < 128)=true/\R (QU x) H1
theorem PU {l:U5}{tl:TE}(hl:PE X l tl):PI X tg l (Tv tl):=by
 intro pins s σ H R I h
 refine thn (hl pins s σ H _ I h) λv s1 ⟨y,H1,I1,r1,x,e,hx,q⟩=>?_
 subst e
 obtain ⟨t,rfl⟩:=r1
 refine wpAny_pyIter_ascii hx ?_
 refine ⟨s1.heap.objs.size,[s1.heap.objs.size],_,_,H1,rfl,I1.kept (t':=s1.toks) λb o e=>UD _ e,JK x t _,⟨_,UP _ rfl,rfl,rfl⟩,λb hb=>?_,q⟩
 obtain rfl:=UZ.mp hb
 exact I1.Io (U0 _) (I1.hok.fresh (U0 _))
def uE (x:Str):List D:=x.cps.toList.map λc=>.str ⟨#[c]⟩
theorem qS (x:Str):(uE x).length=x.cps.size:=by simp[uE]
theorem Jj {K:UB}{H:Hp}(x:Str):Fq K (QU x) H (uE x) where
 go:=λi H' t hi=>by rw[qS] at hi;exact hi
 yld:=λi H' v H'' t hi ⟨e,c,hc,y⟩=>by
  subst e y
  refine ⟨.refl _,⟨.str ⟨#[c]⟩,?_,.str _⟩,λ_ m=>m⟩
  unfold uE
  rw[VB,WK,hc];rfl
 stop:=λi H' t hi=>by rw[qS] at hi;exact hi
def Ib (a:ETr):ATr:=λρ μ Q=>a ρ μ λx μ1=>match x with
 | .str z=>z.cps.all (· < 128)=true/\Q (uE z) μ1
 | _=>False
theorem Ki (ha:LE X a Ta):LI X tg a (Ib Ta):=by
 obtain ⟨ta,pa,sa⟩:=ha.ex
 refine ⟨_,PU pa,λσ H ρ μ Q R rl h k=>sa σ H ρ μ _ _ rl h λx H1 d μ1 t1 m1 p1 h1=>?_⟩
 cases p1 with
 | str z=>exact ⟨z,rfl,h1.1,k _ H1 _ μ1 t1 m1 (Jj z) h1.2⟩
 | _=>exact UG h1
def rR:DR2:=λx y μ Q=>match x,y with
 | .str z,.int i=>z.length<=1000000/\kN (atI z.cps.toList i) λc=>Q (.str ⟨#[c]⟩) μ
 | _,_=>False
theorem LF {K:UB}:dh K L2.Qw rR:=λH μ x y dx dy Q Q' m px py h k=>by
 cases px with
 | str z=>
  cases py with
  | int i=>
   obtain ⟨h1,h2⟩:=h
   obtain ⟨c,ec,h3⟩:=Dh h2
   exact ⟨z,i,c,rfl,rfl,Vy h1 (by decide),ec,k _ H _ μ (.refl H) m (.str _) h3⟩
  | _=>exact UG h
 | _=>exact UG (by cases py<;>exact h)
theorem xE (ha:LE X a Ta)(hb:LE X b Tb)(hs:qQ b:=by intro _ _;rfl):LE X (.Subscript a b pos) (aq rR Ta Tb):=by
 obtain ⟨ta,pa,sa⟩:=ha.ex
 obtain ⟨tb,pb,sb⟩:=hb.ex
 exact ⟨_,Ij GI pa pb hs,nK LF sa sb⟩
def Cf (x y:Str):Bool:=!(V2 x y 0 x.length 1).isEmpty
def Km:DR2:=λx y μ Q=>match x,y with
 | .str i,.str j=>Q (.bl (Cf j i)) μ
 | _,_=>False
theorem Ls {K:UB}:dh K (λx y H Q=>∃ i j,x=.str i/\y=.str j/\Q (.bl (!(V2 j i 0 j.length 1).isEmpty)) H) Km:=λH μ x y dx dy Q Q' m px py h k=>by
 cases px with
 | str z=>
  cases py with
  | str i=>exact ⟨z,i,rfl,rfl,k _ H _ μ (.refl H) m (.bl _) h⟩
  | _=>exact UG h
 | _=>exact UG (by cases py<;>exact h)
theorem JL (ha:LE X a Ta)(hb:LE X b Tb)(hm:zae [.In] [b]=false:=by with_unfolding_all rfl):LE X (.Compare a [.In] [b] pos) (aq Km Ta Tb):=gD FY Ls ha hb hm
def sj (x:Str)(n:Nat):Str:=⟨(Vb n x.cps).foldl (· ++ ·) #[]⟩
theorem zD:∀ (n:Nat),(Vb n (#[]:Array Nat)).foldl (· ++ ·) #[] = #[]
 | 0=>rfl
 | n+1=>by
  rw[Xu,ZM]
  exact zD n
theorem zr (xs:Array Nat):∀ (n:Nat) (a:Array Nat),((Vb n xs).foldl (· ++ ·) a).size=a.size+n*xs.size
 | 0,a=>by simp
 | n+1,a=>by
  rw[Xu,ZM,zr xs n,Y1,zce];omega
theorem fold_list (xs:Array Nat):∀ (n:Nat) (a:Array Nat),((Vb n xs).foldl (· ++ ·) a).toList=a.toList++(Vb n xs.toList).flatten
 | 0,a=>by simp
 | n+1,a=>by
  rw[Xu,ZM,fold_list xs n,Xu,List.flatten_cons,zam,V7]
theorem Gp (x:Str)(n:Nat):(sj x n).cps.toList=(Vb n x.cps.toList).flatten:=by
 unfold sj
 rw[fold_list];rfl
theorem DJ:OpR X (WR .Mult) (λx y H Q=>∃ z n,x=.str z/\y=.int n/\(n<=1000/\-1000<=n/\z.length<=1000)/\Q (.str (sj z n.toNat)) H):=by
 intro pins s σ H x y v u Q I rx ry h
 obtain ⟨z,n,rfl,rfl,⟨n1,n0,hz⟩,q⟩:=h
 obtain ⟨t,rfl⟩:=rx
 obtain ⟨t',rfl⟩:=ry
 have big:∀ {m:Int},¬ m < 1->m<=1000->¬ ((z.length:Int) > (2 ^ 63 - 1) / m):=λ{m} h1 h2=>by
  have:(1000:Int)<=(2 ^ 63 - 1) / m:=by
   rw[ZH (by omega)]
   omega
  omega
 have hlen:∀ {k:Nat},k<=1000->zan (z.length*k)=false:=λ{k} hk=>by
  have:z.length*k<=1000*1000:=zbX hz hk
  unfold zan
  have:1000*1000<=sizeLine:=by decide
  exact decide_eq_false (by omega)
 refine PySem.P.mul_str (by
  rw[decide_eq_false (by omega),decide_eq_false (by omega)];rfl) (λh1 _=>big h1 n1) (λ_ _=>hlen (by omega)) ?_
 split
 ·rename_i h1
  have e:sj z n.toNat=XC:=by rw[show n.toNat=0 by omega];rfl
  rw[e] at q
  exact ⟨by decide,.str XC,H,I.tok _,⟨_,rfl⟩,q⟩
 ·rename_i h1
  split
  ·rename_i h2
   have e:sj z n.toNat=z:=by
    simp only[ZN,beq_iff_eq] at h2
    obtain ⟨c⟩:=z
    unfold sj
    rcases h2 with h2 | h2
    ·rw[show n.toNat=1 by omega];simp
    ·have:c = #[]:=Array.eq_empty_of_size_eq_zero h2
     subst this
     rw[zD]
   rw[e] at q
   exact ⟨.str z,H,I,⟨t,rfl⟩,q⟩
  ·refine ⟨?_,.str _,H,I.tok _,⟨_,rfl⟩,q⟩
   show ((Vb n.toNat z.cps).foldl (· ++ ·) #[]).size<=sizeLine
   rw[zr]
   have hz':z.cps.size<=1000:=hz
   have:n.toNat*z.cps.size<=1000*1000:=zbX (by omega) hz'
   have:1000*1000<=sizeLine:=by decide
   simp
   omega
def rJ:DR2:=λx y μ Q=>match x,y with
 | .str z,.int n=>(n<=1000/\-1000<=n/\z.length<=1000)/\Q (.str (sj z n.toNat)) μ
 | _,_=>False
theorem Hq {K:UB}:dh K (λx y H Q=>∃ z n,x=.str z/\y=.int n/\(n<=1000/\-1000<=n/\z.length<=1000)/\Q (.str (sj z n.toNat)) H) rJ:=λH μ x y dx dy Q Q' m px py h k=>by
 cases px with
 | str z=>
  cases py with
  | int i=>exact ⟨z,i,rfl,rfl,h.1,k _ H _ μ (.refl H) m (.str _) h.2⟩
  | _=>exact UG h
 | _=>exact UG (by cases py<;>exact h)
theorem qU (ha:LE X a Ta)(hb:LE X b Tb):LE X (.BinOp a .Mult b pos) (aq rJ Ta Tb):=oM DJ Hq ha hb
def Rk (Ta:ETr)(Tl Th:OTr):ETr:=λρ μ Q=>Ta ρ μ λx μ1=>Tl ρ μ1 λi μ2=>Th ρ μ2 λj μ3=>match x with
 | .str z=>z.length<=1000000/\Q (.str (Txt.slice z i j)) μ3
 | _=>False
end
end
section
open PySem PySem.Spec PyProof.Rows L2
def tyO (μ:Mu):D->Option String
 | .obj a=>(match μ a with
  | some (.dct _)=>some "dict"
  | some (.lst _)=>some "list"
  | _=>none)
 | d=>tyD d
theorem Ln (K:UB):∀ c∈Ai,zbO K (.type "dict") (.type c)=some (bu "dict" c):=by
 intro c hc
 simp only[Ai,UQ,U2,or_false] at hc
 rcases hc with rfl | rfl | rfl | rfl | rfl | rfl<;>with_unfolding_all rfl
def OP (K:UB):List V->Hp->VK->Prop:=λxs H Q=>NO K xs H Q∨∃ a t c,xs=[.ref a,.ty c]/\((∃ ys,H a=some (.lst ys))/\t = "list" ∨ (∃ ys,H a=some (.dK ys))/\t = "dict")/\c∈Ai/\Q (.bl (bu t c)) H
theorem FN {X:Cx}:cj X (.builtin "isinstance") (OP X.K):=λpins s σ H xs us Q I rx h=>by
 rcases h with h | ⟨a,t,c,ex,ha,hc,q⟩
 ·exact zO pins s σ H xs us Q I rx h
 subst ex
 cases rx with | @cons _ u _ _ r1 r2=>cases r2 with | cons r2 r3=>
 cases r3
 cases (show _=Zo c from r2)
 cases (show u=Vs a from r1)
 have fin:∀ tk,EP X pins σ Q (.bool (bu t c)) { s with toks:=tk }:=λtk=>⟨.bl _,H,I.tok tk,rfl,q⟩
 rcases ha with ⟨⟨ys,ea⟩,rfl⟩ | ⟨⟨ys,ea⟩,rfl⟩
 ·obtain ⟨_,_,_,_,_,e⟩:=I.MD ea
  exact Wq zaY I.kIn ⟨_,e,rfl⟩ (Ej X.K "list" (by decide) c hc) (λz=>nomatch z) fin
 ·obtain ⟨_,_,_,_,o,es,ep,h1,h2,_⟩:=(show gn X.prog X.w H s.heap a (.dK ys) from I.hok a _ ea)
  exact Wq PySem.W.kitx_dict I.kIn ⟨o,h1,h2.1⟩ (Ln X.K c hc) (λz=>nomatch z) fin
def dU (c:String):DR:=λx μ Q=>match tyO μ x with
 | some t=>Q (.bl (bu t c)) μ
 | none=>False
theorem eG {X:Cx}{x y:Str}{p p2 pos:Pos}{c:String}{e:U5}{Ta:ETr}(hg:Gl X x)(hm:X.mg x=none)(hv:Vm x=some (.builtin "isinstance"))(ha:LE X e Ta)(hg2:Gl X y)(hm2:X.mg y=none)(hv2:Vm y=some (.type c))(hc:c∈Ai:=by decide)
  (hn:x ≠ "__name__" := by decide) (hdb:(x == ("__debug__" : Str))=false:=by decide) (hn2:y ≠ "__name__" := by decide) (hdb2:(y == ("__debug__" : Str))=false:=by decide)
  (h0:UI [.Name y p2] X.env=[(false,VI (.Name y p2) X.env)]:=by rfl) (h1:UI (e::[.Name y p2]) X.env=(false,VI e X.env)::UI [.Name y p2] X.env:=by rfl) (h2:(Vr pos (UI [.Name y p2] X.env)).any (·.1)=false:=by rfl) :
  LE X (.Call (.Name x p) [e,.Name y p2] [] pos) (TUn (dU c) Ta):=by
 obtain ⟨ta,pa,sa⟩:=ha.ex
 refine ⟨_,nM FN hg hm hv (cG pa (cG (DX hg2 hm2 hv2 (v:=.ty c) rfl hn2 hdb2) gf h0) h1) hn hdb h1 h2,λσ H ρ μ Q Q' rl h k=>sa σ H ρ μ _ _ rl h λv H1 d μ1 t1 m1 p1 h1=>?_⟩
 have h1':(match tyO μ1 d with | some t=>Q (.bl (bu t c)) μ1 | none=>False):=h1
 cases p1 with
 | obj a=>
  cases e:μ1 a with
  | none=>simp only[tyO,e] at h1'
  | some o=>
   cases o with
   | lst ds=>
    simp only[tyO,e] at h1'
    obtain ⟨ys,ea,_⟩:=m1 a _ e
    exact .inr ⟨a,_,c,rfl,.inl ⟨⟨ys,ea⟩,rfl⟩,hc,k _ H1 _ μ1 t1 m1 (.bl _) h1'⟩
   | dcT ds=>simp only[tyO,e] at h1'
   | dcF ds=>simp only[tyO,e] at h1'
   | dct ds=>
    simp only[tyO,e] at h1'
    obtain ⟨ys,ea,_⟩:=m1 a _ e
    exact .inr ⟨a,_,c,rfl,.inr ⟨⟨ys,ea⟩,rfl⟩,hc,k _ H1 _ μ1 t1 m1 (.bl _) h1'⟩
 | non=>exact .inl ⟨_,_,_,c,rfl,.non,rfl,hc,k _ H1 _ μ1 t1 m1 (.bl _) h1'⟩
 | bl b=>exact .inl ⟨_,_,_,c,rfl,.bl b,rfl,hc,k _ H1 _ μ1 t1 m1 (.bl _) h1'⟩
 | int b=>exact .inl ⟨_,_,_,c,rfl,.int b,rfl,hc,k _ H1 _ μ1 t1 m1 (.bl _) h1'⟩
 | str b=>exact .inl ⟨_,_,_,c,rfl,.str b,rfl,hc,k _ H1 _ μ1 t1 m1 (.bl _) h1'⟩
 | ty b=>exact UG h1'
 | tup a l=>exact .inl ⟨_,_,_,c,rfl,.tup a l,rfl,hc,k _ H1 _ μ1 t1 m1 (.bl _) h1'⟩
 | ls a l=>exact .inl ⟨_,_,_,c,rfl,.ls a l,rfl,hc,k _ H1 _ μ1 t1 m1 (.bl _) h1'⟩
end
section
open PySem PySem.Spec PyProof.Rows L2
section
variable {X:Cx} {o e value:U5} {es:List U5} {To Te:ETr} {Ta:ATr} {pos tpos ppos apos cpos:Pos} {x1:Nat}
end
end
section
open PySem PySem.Spec PyProof.Rows L2
section
variable {X:Cx} {o i:U5} {apos cpos:Pos}
theorem Bj:∀ {zs:List Str} {us:List UC},Vals (zs.map V.str) us->∃ l:List (Str×Tok),us=zbn l/\l.map (·.1)=zs
 | [],_,.nil=>⟨[],rfl,rfl⟩
 | z::zs,_,.cons ⟨t,e⟩ r=>by
  obtain ⟨l,h1,h2⟩:=Bj r
  exact ⟨(z,t)::l,by rw[e,h1];rfl,by rw[← h2];rfl⟩
theorem Mf:MtM X "str.join" (λx vs H Q=>∃ sep p zs,x=.str sep/\vs=[.ref p]/\SqL X.K H p (zs.map V.str)/\JoinOk sep zs=true/\Q (.str (Txt.join sep zs)) H):=by
 intro pins s σ H x vs v us Q I rx rv h
 obtain ⟨sep,p,zs,rfl,rfl,sq,ok,q⟩:=h
 obtain ⟨t,rfl⟩:=rx
 obtain ⟨u,rfl,ru⟩:=rv.one
 cases (show u=Vs p from ru)
 obtain ⟨its,r,pl,_⟩:=I.list sq
 obtain ⟨l,rfl,e⟩:=Bj r
 exact SC.join pl.isList e ok λt' k=>⟨.str _,H,I.tok _,⟨_,rfl⟩,q⟩
theorem DQ {e:U5}{es:List U5}{to:TE}{t:TA}{name:Str}{id:String}{r:V->List V->Hp->VK->Prop}(slot:Slot "str" name id)(hty:typeOf (.builtin id)=pure (.type "method_descriptor"))(hm:MtM X id r)(ho:PE X o to)(ha:PA X (e::es) t)
  (hbase:WX o name X.env (VI o X.env)=VI o X.env:=by rfl)
  (hfew:((Vr cpos (UI (e::es) X.env)).all (λx=>!x.1)&&(YN cpos (Xl [] X.env)).all (λx=>x.1.isSome)
   && decide ((e::es).length+([]:List WZ).length+(if ([]:List WZ).isEmpty then 0 else 1) < 30))=true:=by rfl)
  (hline:(apos.endLine == cpos.line)=true:=by rfl) (hs:UI (e::es) X.env=(false,VI e X.env)::UI es X.env:=by rfl) (hplain:(Vr cpos (UI es X.env)).any (·.1)=false:=by rfl) :
  PE X (.Call (.Attribute o name apos) (e::es) [] cpos) (λσ H Q=>to σ H λx H1=>(∃ z,x=.str z)/\t σ H1 λxs H2=>r x xs H2 Q):=by
 intro pins s σ H Q I h
 refine Zx hbase hfew hline rfl (thn (ho pins s σ H _ I h) λv s1 ⟨x,H1,I1,r1,⟨z,ex⟩,q1⟩=>?_)
 subst ex
 obtain ⟨tk,rfl⟩:=r1
 refine ⟨"str", id,PySem.F.plainAttrs_str,slot,hty,zaJ _ _ _,(λa e=>nomatch e),?_⟩
 have hA:=ha cpos pins s1 σ H1 _ I1 q1
 rw[hs] at hA ⊢
 refine Zy (by show (false || (Vr cpos (UI es X.env)).any (·.1))=false;rw[hplain]<;>rfl) (Z0 ?_)
 exact thn hA λus s2 ⟨vs,H2,I2,r2,q2⟩=>hm pins s2 σ H2 (.str z) vs _ us Q I2 ⟨tk,rfl⟩ r2 q2
def gB:List D->Option (List Str)
 | []=>some []
 | .str z::r=>(gB r).map (z::·)
 | _::_=>none
theorem xR {K:UB}{H:Hp}:∀ {xs:List V} {ds:List D} {zs:List Str},DpL K H xs ds->gB ds=some zs->xs=zs.map V.str
 | _,_,_,.nil,e=>by simp only[gB,za3] at e;subst e;rfl
 | _,d::ds,zs,.cons h l,e=>by
  cases h with
  | str z=>
   simp only[gB] at e
   cases e1:gB ds with
   | none=>rw[e1] at e;cases e
   | some ys=>
    rw[e1] at e
    cases e
    rw[xR l e1];rfl
  | _=>cases e
def pP (To Ti:ETr):ETr:=λρ μ Q=>To ρ μ λx μ1=>match x with
 | .str sep=>Ti ρ μ1 λy μ2=>match y with
  | .ls ds=>∃ zs,gB ds=some zs/\JoinOk sep zs=true/\Q (.str (Txt.join sep zs)) μ2
  | _=>False
 | _=>False
theorem ny {To Ti:ETr}(ho:LE X o To)(hi:LE X i Ti)
  (hbase:WX o "join" X.env (VI o X.env)=VI o X.env:=by rfl)
  (hfew:((Vr cpos (UI [i] X.env)).all (λx=>!x.1)&&(YN cpos (Xl [] X.env)).all (λx=>x.1.isSome)
   && decide (([i]:List U5).length+([]:List WZ).length+(if ([]:List WZ).isEmpty then 0 else 1) < 30))=true:=by rfl)
  (hline:(apos.endLine == cpos.line)=true:=by rfl) (hs:UI [i] X.env=(false,VI i X.env)::UI [] X.env:=by rfl) (hplain:(Vr cpos (UI [] X.env)).any (·.1)=false:=by rfl) :
  LE X (.Call (.Attribute o "join" apos) [i] [] cpos) (pP To Ti):=by
 obtain ⟨to,po,so⟩:=ho.ex
 obtain ⟨ti,pi,si⟩:=hi.ex
 refine ⟨_,DQ ZR ZS Mf po (cG pi gf hs) hbase hfew hline hs hplain,λσ H ρ μ Q Q' rl h k=>so σ H ρ μ _ _ rl h λx H1 dx μ1 t1 m1 p1 h1=>?_⟩
 cases p1 with
 | str z=>
  refine ⟨⟨z,rfl⟩,si σ H1 ρ μ1 _ _ (rl.go t1 m1) h1 λy H2 dy μ2 t2 m2 p2 h2=>?_⟩
  cases p2 with
  | @ls a xs ds sq l=>
   obtain ⟨zs,e,ok,h2⟩:=h2
   have:=xR l e
   subst this
   exact ⟨z,a,zs,rfl,rfl,sq.sq,ok,k _ H2 _ μ2 (t1.trans t2) m2 (.str _) h2⟩
  | _=>exact UG h2
 | _=>exact UG h1
end
end
section
open PySem PySem.Spec PyProof PyProof.Rows L2
section
variable {X:Cx} {o:U5} {apos cpos pos p:Pos} {x:Str}
end
end
section
open PySem PySem.Spec PyProof.Rows L2
end
section
open PySem PySem.Spec PyProof.Rows L2
section
variable {X:Cx} {i o:U5} {pos:Pos} {Ti To:ETr}
end
end
section
open PySem PySem.Spec PyProof.Rows L2
section
variable {X:Cx} {tg o a i e:U5} {T To Ta Ti:ETr} {pos:Pos}
end
section
variable {X:Cx} {tg a:U5} {Ta:ETr}
end
section
variable {X:Cx} {es:List U5} {o:U5} {Ta:ATr} {To:ETr} {ppos pos:Pos} {x1:Nat}
end
end
section
open PySem PySem.Spec PyProof PyProof.Rows L2
def ddS {κ:Type} [DecidableEq κ]:List κ->List κ->List κ
 | σ,[]=>σ
 | σ,k::r=>ddS (if k∈σ then σ else σ++[k]) r
theorem ym {prog:UT}{w:Va}{A:U9}{E:UC->UE->Prop}{s:UE}{T newId initId:String}{Bi:W0}{args:List UC}{Q Q₁:UC->UE->Prop}
  (ft:TypeCalled T newId initId) (hct:checkTypeCall T { pos:=args }=pure ()) (entryI:zbY table initId=some Bi)
  (Ft:Xh (U1 prog w) A.in1 (.call (.builtin newId) { pos:=.type T::args }) (wants Q₁ E) s)
  (hnext:∀ obj s₁,Q₁ obj s₁->s₁.TypeIs obj T/\(∀ (A':U9) (E':UC->UE->Prop) (R':Unit->UE->Prop),R' () s₁->UU (U1 prog w) A' (checkBuiltinCall initId { pos:=obj::args }) R' E' s₁)/\
   UU (U1 prog w) A.in1.in1 (Bi { pos:=obj::args }) (λfin s'=>match fin with
    | .done f=>wants (λr s₂=>r=.none/\Q obj s₂) E (.ok f) s'
    | .again c'=>c'.quiet=true/\Xh (U1 prog w) A.in1 c' (wants (λr s₂=>r=.none/\Q obj s₂) E) s') (λe s'=>wants (λr s₂=>r=.none/\Q obj s₂) E (.error e) s') s₁) :
  UU (U1 prog w) A (YO (Zo T) args) Q E s:=by
 obtain ⟨m0,ms,em⟩:=ft.mro
 refine zaH <| codeAny_of_tree <| id <| wpAny_pure ⟨Code.quiet_builtin ⟨.type T::args,[]⟩ (by decide +kernel),codeAny_builtin F.entry_type_call ?_⟩
 rw[Around.under_plain (A:=A) (weight_type_call_type T args []) rfl]
 refine id (WO ?_ (WO ?_ (wpAny_bind (W7 hct (wpAny_bind (W7 em (WO rfl (wpAny_bind (W7 ft.made (wpAny_bind (wpAny_pure (wpAny_bind (wpAny_holding (zaH (Yy Ft λr s₁ hr=>?_)))))))))))))))
 ·simp[ft.notType]
 ·simp[ft.canCreate]
 cases r with
 | error e=>exact hr
 | ok fl=>
  cases fl with
  | ret v=>
   obtain ⟨ty,chk,body⟩:=hnext v s₁ hr
   refine wpAny_bind (wpAny_isInstance ty ft.sub (WO rfl (wpAny_bind (wpAny_holding ?_))))
   unfold callSpecial?
   refine wpAny_bind (wpAny_specialOf ty ft.init.lookup (wpAny_holding (wpAny_bind (W7 (ft.init.bind v) (wpAny_bind (zaH (Yy (codeAny_call_builtin ft.init.plain entryI (chk _ _ _ body)) λr₂ s₂ hr₂=>?_)))))))
   cases r₂ with
   | error e=>exact hr₂
   | ok fl₂=>
    cases fl₂ with
    | ret v₂=>
     obtain ⟨rfl,hq⟩:=(show v₂=.none/\Q v s₂ from hr₂)
     exact wpAny_pure (WO rfl (wpAny_pure hq))
    | next=>exact hr₂
    | brk=>exact hr₂
    | cont=>exact hr₂
  | next=>exact hr
  | brk=>exact hr
  | cont=>exact hr
theorem uR {prog:UT}{w:Va}{A:U9}{E:UC->UE->Prop}{s:UE}(a:UC){Q₁:UC->UE->Prop}
  (h:Q₁ (.ref s.heap.objs.size) { s with heap:=s.heap.push { cls:=.type "set", data:=.set #[] 0 (VL 0 0 !w.params.followText "set-order") } }) :
  Xh (U1 prog w) A (.call (.builtin "set.__new__") { pos:=[.type "set", a] }) (wants Q₁ E) s:=by
 refine codeAny_of_tree (id (wpAny_bind (W7 (F.newCall_set_1 a) (wpAny_pure ⟨Ye zby _,codeAny_builtin F.entry_set_new ?_⟩))))
 rw[Xn (A:=A) zby ⟨[.type "set", a],[]⟩]
 have Ui:=sub_set_self
 refine id (wpAny_bind (wpAny_bind (id (wpAny_pure (WO rfl (wpAny_bind (W7 Ui (WO rfl (wpAny_pure (wpAny_bind ?_))))))))))
 refine id (wpAny_bind (id (wpAny_bind (wpAny_askSetting (wpAny_pure ?_)))))
 refine (show UU (U1 prog w) A.in1 (newObj (.type "set") (.set #[] 0 (VL 0 0 !w.params.followText "set-order"))) _ _ s from ?_)
 unfold newObj
 dsimp only
 rw[if_neg (by simp:¬ (#[]:Array (Int×UC)).size > sizeLine)]
 exact wpAny_bind (wpAny_alloc (wpAny_pure (wpAny_pure h)))
def rB {prog:UT}{w:Va}{κ:Type} [DecidableEq κ] (knd:zag prog w κ)(led:Bool)(h:Heap)(a:Addr)(σ:List κ):Prop:=
 ∃ o es ep t,h.get? a=some o/\o.ExactSet/\o.data=.set es ep t/\ElemsOf knd es.toList/\(∀ k,k∈σ↔∃ e∈es.toList,knd.is k e.2=true)/\es.size < scanBound/\t.fits es.size=true/\es.size=σ.length/\t.led=led/\(es.size=0∨t.plain=false)
theorem KY (t:V8)(es:Array (Int×UC))(h:Int)(x:UC):(layNew t es h x).2.1.led=t.led:=by
 unfold layNew
 split
 ·rename_i slot wd e
  simp only[SetTable.orStandIn]
  split<;>rfl
 ·rfl
theorem E7 (t:V8)(es:Array (Int×UC))(n:Nat):(Zl t es n).2.1.led=t.led/\(t.plain=false->(Zl t es n).2.1.plain=false):=by
 unfold Zl
 split
 ·rename_i t' order e
  have:t'.led=t.led/\t'.plain=t.plain:=by
   unfold SetTable.relaid SetTable.laid at e
   simp only[Option.bind_eq_bind,Option.bind_eq_some_iff] at e
   obtain ⟨o,_,e⟩:=e
   cases e
   exact ⟨rfl,rfl⟩
  dsimp only
  split
  ·exact ⟨this.1,λh=>by rw[← h];exact this.2⟩
  ·exact ⟨rfl,λ_=>rfl⟩
 ·exact ⟨rfl,λ_=>rfl⟩
section
variable {prog:UT} {w:Va} {κ:Type} [DecidableEq κ] {knd:zag prog w κ} {led:Bool}
theorem zh {h:Heap}{a:Addr}{o:Obj}{es es1:Array (Int×UC)}{ep:Nat}{t t2:V8}{σ:List κ}(ho:h.get? a=some o)(ex:o.ExactSet)(hd:o.data=.set es ep t)
  (E1:ElemsOf knd es1.toList) (m:∀ k,k∈σ↔∃ e∈es1.toList,knd.is k e.2=true) (z:es1.size < scanBound) (f:t2.fits es1.size=true) (l:es1.size=σ.length) (ld:t2.led=led) (pl:t2.plain=false) :
  ∃ o',(h.update a (Obj.putSet es1 t2)).get? a=some o'/\o'.ExactSet/\o'.data=.set es1 (ep+1) t2/\rB knd led (h.update a (Obj.putSet es1 t2)) a σ:=by
 have e:=(SetOf_store (knd:=knd) (S':=λk=>decide (k∈σ)) ho ex hd E1 (λk=>by rw[decide_eq_true_iff];exact m k) z f).1
 exact ⟨_,e,ex,rfl,_,es1,ep+1,t2,e,ex,rfl,E1,m,z,f,l,ld,.inr pl⟩
theorem Du {M:zbG}{A:U9}{E:UC->UE->Prop}{s:UE}{m:Sem Unit}{tag:String}{Q:Unit->UE->Prop}(hm:m=pure ()∨m=rule tag)(q:Q () s):UU M A m Q E s:=by
 rcases hm with e | e
 ·rw[e];exact wpAny_pure q
 ·rw[e];exact wpAny_rule q
theorem Jv {A:U9}{E:UC->UE->Prop}{s:UE}{a:Addr}{σ:List κ}{k:κ}{x:UC}{Q:Bool->UE->Prop}(hk:knd.is k x=true)(sc:x.scannable=true)(hb:Z6 8 x=pure false)
  (hm:rB knd led s.heap a σ) (hz:σ.length+1 < scanBound) (h:∀ h' b,Wu a s.heap h'->rB knd led h' a (if k∈σ then σ else σ++[k])->Q b { s with heap:=h' }) :
  UU (U1 prog w) A (PySem.setAddHashed a x (KeyKind.hash knd k)) Q E s:=by
 have hm0:=hm
 obtain ⟨o,es,ep,t,ho,ex,hd,el,ks,zs,ft,zl,ld,pl⟩:=hm
 unfold setAddHashed
 refine wpAny_holding ?_
 rw[zcl]
 refine wpAny_bind (V9 ho hd ft ?_)
 dsimp only
 rw[if_pos (byScan_of sc zs el)]
 refine wpAny_bind ?_
 unfold setAddByScan
 refine wpAny_bind (wpAny_rule (wpAny_bind (wpAny_setScan_of hk ho hd ft el ?_)))
 by_cases q:k∈σ
 ·obtain ⟨e,he,hke⟩:=(ks k).mp q
  obtain ⟨j,ej⟩:=Xv.mp (show (zb3 (λe:Int×UC=>knd.is k e.2) es.toList).isSome=true by rw[List.findIdx?_isSome];exact X9.mpr ⟨e,he,hke⟩)
  rw[ej]
  rw[if_pos q] at h
  exact wpAny_pure (wpAny_pure (h s.heap _ (zcv ..) hm0))
 ·have ej:zb3 (λe:Int×UC=>knd.is k e.2) es.toList=none:=by
   rw[List.findIdx?_eq_none_iff]
   intro e he
   by_cases z:knd.is k e.2=true
   ·exact absurd ((ks k).mpr ⟨e,he,z⟩) q
   ·simpa using z
  rw[ej]
  rw[if_neg q] at h
  have pm:=layNew_perm t es (knd.hash k) x
  have fl:=layNew_fits t es (knd.hash k) x
  have ll:=KY t es (knd.hash k) x
  dsimp only
  generalize layNew t es (knd.hash k) x=L at *
  obtain ⟨es1,t1,wd,gave⟩:=L
  simp only at pm fl ll
  have E1:ElemsOf knd es1.toList:=(el.push hk sc).perm (by simpa using pm)
  have z1:es1.size=es.size+1:=by have:=pm.length_eq;simpa using this
  have m1:∀ k',k'∈σ++[k]↔∃ e∈es1.toList,knd.is k' e.2=true:=λk'=>by
   rw[Vo,UZ,ks k']
   constructor
   ·rintro (⟨e,he,hke⟩ | rfl)
    ·exact ⟨e,pm.mem_iff.mpr (by simp at he ⊢;exact .inl he),hke⟩
    ·exact ⟨(knd.hash k',x),pm.mem_iff.mpr (by simp),hk⟩
   ·rintro ⟨e,he,hke⟩
    have:=pm.mem_iff.mp he
    simp at this
    rcases this with he | rfl
    ·exact .inl ⟨e,by simpa using he,hke⟩
    ·exact .inr (knd.inj x k' k hke hk)
  have zb:es1.size < scanBound:=by rw[z1,zl];exact hz
  have zl1:es1.size=(σ++[k]).length:=by rw[z1,zl,UY];rfl
  have fin:∀ t2:V8,t2.fits es1.size=true->t2.led=led->t2.plain=false->∀ (R:Option Bool->UE->Prop),(∀ h',Wu a s.heap h'->rB knd led h' a (σ++[k])->R (some true) { s with heap:=h' })->∀ g:Bool->Sem Unit,(∀ b (s₁:UE) (Q':Unit->UE->Prop),Q' () s₁->UU (U1 prog w) A (g b) Q' E s₁)->UU (U1 prog w) A (do
    storeSet a es1 t2
    if (!wd&&t2.tooFull)=true then do
      g (Zl t2 es1 (W5 es1.size)).2.2;storeSet a (Zl t2 es1 (W5 es1.size)).1 (Zl t2 es1 (W5 es1.size)).2.1;pure (some true)
     else pure (some true)) R E s:=λt2 f2 l2 p2 R hR g hg=>by
   obtain ⟨o',e1,e2,e3,e4⟩:=zh (knd:=knd) ho ex hd E1 m1 zb f2 zl1 l2 p2
   refine wpAny_bind (za4 ho hd ?_ (za5 zb))
   split
   ·refine wpAny_bind (hg _ _ _ ?_)
    have pm2:=relayAll_perm t2 es1 (W5 es1.size)
    have fl2:=relayAll_fits t2 es1 (W5 es1.size)
    have ll2:=E7 t2 es1 (W5 es1.size)
    generalize Zl t2 es1 (W5 es1.size)=L2' at *
    obtain ⟨es3,t3,g3⟩:=L2'
    simp only at pm2 fl2 ll2 ⊢
    have z3:es3.size=es1.size:=by have:=pm2.length_eq;simpa using this
    obtain ⟨o2,d1,d2,d3,d4⟩:=zh (knd:=knd) e1 e2 e3 (E1.perm pm2) (λk'=>by rw[m1 k'];exact ⟨λ⟨e,he,q⟩=>⟨e,pm2.mem_iff.mpr he,q⟩,λ⟨e,he,q⟩=>⟨e,pm2.mem_iff.mp he,q⟩⟩) (by rw[z3];exact zb) fl2 (z3.trans zl1) (ll2.1.trans l2) (ll2.2 p2)
    refine wpAny_bind (za4 e1 e3 ?_ (za5 (by rw[z3];exact zb)))
    exact wpAny_pure (hR _ ((VE ..).trans (VE ..)) d4)
   ·exact wpAny_pure (hR _ (VE ..) e4)
  refine wpAny_bind (Du (tag := "set.scan.the-table-gave-way") (by cases gave<;>first | exact .inl rfl | exact .inr rfl) ?_)
  dsimp only
  by_cases p1:t1.plain=true
  ·rw[if_pos p1]
   refine wpAny_bind (W7 hb ?_)
   simp only[if_false,W9]
   refine fin _ (SetTable.fits_plain_off fl) (ll.trans ld) rfl _ (λh' sb sq=>wpAny_pure (h h' true sb sq)) _ λb s₁ Q' q=>Du (tag := "set.scan.the-table-gave-way") (by cases b<;>first | exact .inl rfl | exact .inr rfl) q
  ·rw[if_neg p1]
   refine wpAny_bind (wpAny_pure ?_)
   simp only[if_true]
   exact fin t1 fl (ll.trans ld) (by simpa using p1) _ (λh' sb sq=>wpAny_pure (h h' true sb sq)) _ λb s₁ Q' q=>Du (tag := "set.scan.the-table-gave-way") (by cases b<;>first | exact .inl rfl | exact .inr rfl) q
end
section
variable {prog:UT} {w:Va} {κ:Type} [DecidableEq κ] {knd:zag prog w κ} {led:Bool}
theorem NA {A:U9}{R:zbJ->UE->Prop}{s:UE}{as:Args}(h:UU (U1 prog w) A.in1 (W0.«set.update.loop» as) (λfin s'=>match fin with | .done f=>R (.ok f) s' | .again c'=>c'.quiet=true/\Xh (U1 prog w) A c' R s') (λe s'=>R (.error e) s') s):Xh (U1 prog w) A (.builtin "set.update.loop" as) R s:=
 codeAny_builtin F.entry_set_update_loop (by rw[Xn Zm as];exact h)
theorem Iv {A:U9}{R:zbJ->UE->Prop}{S it l:Addr}{items:Array UC}(hA:A.handled=none)(n1:S≠it)(n2:l≠it)(n3:l≠S) :
  ∀ (us:List UC) (ks:List κ) (i:Nat) (σ:List κ) (s:UE),items.toList.drop i=us->zbM knd ks us->(∀ u∈us,u.scannable=true/\Z6 8 u=pure false)->s.heap.IsListIter it l i->s.heap.IsList l items->rB knd led s.heap S σ->σ.length+ks.length+1 < scanBound->
   (∀ h' tk,rB knd led h' S (ddS σ ks)->(∀ b o,b≠it->b≠S->s.heap.get? b=some o->h'.get? b=some o)->R (.ok (.ret .none)) { s with heap:=h',toks:=tk })->
   Xh (U1 prog w) A (.builtin "set.update.loop" ⟨[.ref S,.ref it],[]⟩) R s:=by
 intro us
 induction us with
 | nil=>
  intro ks i σ s hd P hs hit hl hm hz h
  cases P
  have hx:items[i]? = none:=by
   have:items.toList.length<=i:=by
    have:=congrArg VQ hd
    simp at this;simp;omega
   simpa using this
  refine NA (show UU _ _ (Xf (.ref it) >>= _) _ _ _ from ?_)
  refine wpAny_bind (ZP (by exact hA) hit hl hx λh' k=>?_)
  refine wpAny_pure ?_
  refine h h' s.toks ?_ λb o hb _ e=>k b o hb e
  obtain ⟨o,es,ep,t,ho,rest⟩:=hm
  exact ⟨o,es,ep,t,k S o n1 ho,rest⟩
 | cons u us ih=>
  intro ks i σ s hd P hs hit hl hm hz h
  cases P with
  | @cons k _ ks _ hk P=>
  have hx:items[i]? = some u:=by
   have:items.toList[i]? = some u:=by
    have:=congrArg (λl=>l[0]?) hd
    simpa using this
   simpa using this
  have hd':items.toList.drop (i+1)=us:=by
   have:=congrArg List.tail hd
   simpa using this
  refine NA (show UU _ _ (Xf (.ref it) >>= _) _ _ _ from ?_)
  refine wpAny_bind (Zt hit hl hx λh1 it1 k1=>?_)
  have hm1:rB knd led h1 S σ:=by
   obtain ⟨o,es,ep,t,ho,rest⟩:=hm
   exact ⟨o,es,ep,t,(k1.2 S n1).trans ho,rest⟩
  have hl1:h1.IsList l items:=by
   obtain ⟨o,e,c,n,dd⟩:=hl
   exact ⟨o,(k1.2 l n2).trans e,c,n,dd⟩
  dsimp only
  rw[UX] at hz
  unfold setAdd
  refine wpAny_bind <| wpAny_holding <| wpAny_holding (wpAny_bind (knd.pyHash hk ?_))
  refine Jv hk (hs u UK).1 (hs u UK).2 hm1 (by omega) λh2 _ sb hm2=>?_
  refine wpAny_pure ⟨Ye Zm _,?_⟩
  refine ih ks (i+1) _ _ hd' P (λu hu=>hs u (UN _ hu)) ?_ ?_ hm2 ?_ λh' tk hm' kp=>?_
  ·obtain ⟨o,e,c,d⟩:=it1
   exact ⟨o,(sb.2 it (Vq n1)).trans e,c,d⟩
  ·obtain ⟨o,e,c,n,dd⟩:=hl1
   exact ⟨o,(sb.2 l n3).trans e,c,n,dd⟩
  ·by_cases q:k∈σ
   ·rw[if_pos q];omega
   ·rw[if_neg q,UY,Xg];omega
  ·refine h h' tk hm' λb o b1 b2 e=>kp b o b1 b2 ?_
   rw[sb.2 b b2,k1.2 b b1]
   exact e
end
section
variable {prog:UT} {w:Va} {κ:Type} [DecidableEq κ] {knd:zag prog w κ}
theorem uO {A:U9}{E:UC->UE->Prop}{s:UE}{l:Addr}{o:Obj}{items:Array UC}{k:Nat}{ks:List κ}{Q:UC->UE->Prop}(hA:A.handled=none)
  (hx:s.heap.get? l=some o) (hc:o.cls=.type "list") (hdat:o.data=.seq items k) (P:zbM knd ks items.toList) (hs:∀ u∈items.toList,u.scannable=true/\Z6 8 u=pure false) (hz:ks.length+1 < scanBound)
  (h:∀ h' tk,rB knd (!w.params.followText "set-order") h' s.heap.objs.size (ddS [] ks)->(∀ b o,s.heap.get? b=some o->h'.get? b=some o)->Q (.ref s.heap.objs.size) { s with heap:=h',toks:=tk }) :
  UU (U1 prog w) A (YO (Zo "set") [.ref l]) Q E s:=by
 refine ym (Q₁:=λobj s₁=>obj=.ref s.heap.objs.size/\s₁={ s with heap:=s.heap.push { cls:=.type "set", data:=.set #[] 0 (VL 0 0 !w.params.followText "set-order") } }) F.called_set (F.typeCall_set_1 _) F.entry_set_init (uR _ ⟨rfl,rfl⟩) ?_
 rintro obj s₁ ⟨rfl,rfl⟩
 generalize Uz:(!w.params.followText "set-order")=led at *
 have Ft:(s.heap.push { cls:=.type "set", data:=.set #[] 0 (VL 0 0 led) }).get? s.heap.objs.size=some { cls:=.type "set", data:=.set #[] 0 (VL 0 0 led) }:=UP _ rfl
 have fit:(VL 0 0 led).fits (#[]:Array (Int×UC)).size=true:=by cases led<;>decide
 have TH:rB knd led (s.heap.push { cls:=.type "set", data:=.set #[] 0 (VL 0 0 led) }) s.heap.objs.size []:=⟨_,_,_,_,Ft,⟨rfl,rfl,rfl⟩,rfl,λe he=>by simp at he,λk=>by simp,by decide,fit,rfl,rfl,.inl rfl⟩
 have ty:zaC { s with heap:=s.heap.push { cls:=.type "set", data:=.set #[] 0 (VL 0 0 led) } } (.ref s.heap.objs.size) "set" := ⟨_,Ft,rfl⟩
 have hx1:(s.heap.push { cls:=.type "set", data:=.set #[] 0 (VL 0 0 led) }).get? l=some o:=UD _ hx
 have ll:l < s.heap.objs.size:=UO hx
 refine ⟨ty,λA' E' R' hR=>check_set_init_1 ty hR,?_⟩
 unfold W0.«set.__init__»
 refine wpAny_bind (wpAny_pure ?_)
 show UU _ _ (typeNameOfCut 200 (.ref s.heap.objs.size) >>= _) _ _ _
 refine wpAny_bind ?_
 unfold typeNameOfCut
 refine wpAny_bind ?_
 unfold shownTypeOf
 refine wpAny_bind (wpAny_typeOf ty ?_)
 rw[if_neg (by decide)]
 refine wpAny_pure ?_
 show UU _ _ (typeNameCut 200 (.type "set")) _ _ _
 refine wpAny_pure ?_
 refine wpAny_bind (wpAny_pure ?_)
 refine wpAny_bind (wpAny_pure ?_)
 refine wpAny_bind ?_
 unfold setUsed
 refine wpAny_bind (V9 Ft rfl fit (wpAny_pure ?_))
 rw[if_neg (by cases led<;>decide)]
 dsimp only
 refine wpAny_bind ?_
 unfold zbz zbZ
 have tl:zaC { s with heap:=s.heap.push { cls:=.type "set", data:=.set #[] 0 (VL 0 0 led) } } (.ref l) "list" := ⟨o,hx1,hc⟩
 refine wpAny_bind (wpAny_bind (wpAny_isInstance tl F.sub_list_set ?_))
 show UU _ _ (zbT (.ref l) (.type "frozenset")) _ _ _
 refine wpAny_isInstance tl F.sub_list_frozenset ?_
 rw[if_neg (by decide)]
 refine wpAny_bind (wpAny_typeOf tl ?_)
 rw[if_neg (by decide)]
 have hl2:(s.heap.push { cls:=.type "set", data:=.set #[] 0 (VL 0 0 led) }).IsList l items:=⟨o,hx1,hc,k,hdat⟩
 refine wpAny_bind (XT hl2 (wpAny_bind (wpAny_runValue ?_)))
 have lt1:s.heap.objs.size < (s.heap.push { cls:=.type "set", data:=.set #[] 0 (VL 0 0 led) }).objs.size:=UO Ft
 refine Iv (A:=A.in1.in1) (knd:=knd) (led:=led) (S:=s.heap.objs.size) (it:=(s.heap.push { cls:=.type "set", data:=.set #[] 0 (VL 0 0 led) }).objs.size) (l:=l) (items:=items) hA (UW lt1) (UW (XX ll lt1)) (UW ll) items.toList ks 0 [] _ rfl P hs ?_ ?_ ?_ (by simpa using hz) ?_
 ·exact ⟨_,UP _ rfl,rfl,rfl⟩
 ·exact ⟨o,UD _ hx1,hc,k,hdat⟩
 ·obtain ⟨o',es,ep,t,ho,rest⟩:=TH
  exact ⟨o',es,ep,t,UD _ ho,rest⟩
 ·intro h' tk hm' kp'
  refine wpAny_pure (wpAny_pure ⟨rfl,h h' tk hm' λb o q=>?_⟩)
  have hb:b < s.heap.objs.size:=UO q
  exact kp' b o (UW (XX hb lt1)) (UW hb) (UD _ (UD _ q))
end
end
section
open PySem PySem.Spec PyProof PyProof.Rows L2
theorem wp_choose {M:zbG}{A:U9}{E:UC->UE->Prop}{s:UE}{src:Source}{n:Nat}{Q:Nat->UE->Prop}(hn:n≠0)(h:∀ i d,i < n->Q i { s with drawn:=d }):UU M A (choose src n) Q E s:=by
 intro Γ p hΓ
 unfold choose Sem.wp
 refine ⟨hn,?_⟩
 exact wpAny_pure (M:=M) (A:=A) (E:=E) (h _ _ (Nat.mod_lt _ (Nat.pos_of_ne_zero hn))) Γ p hΓ
theorem AE {α:Type}:∀ (l:List α) (i:Nat) (h:i < l.length),(l[i]::l.eraseIdx i).Perm l:=by
 intro l
 induction l with
 | nil=>intro i h;cases h
 | cons a r ih=>
  intro i h
  cases i with
  | zero=>exact .refl _
  | succ i=>exact (List.Perm.swap ..).trans ((ih i (by simpa using h)).cons a)
theorem xF {M:zbG}{A:U9}{E:UC->UE->Prop}{α:Type}:∀ (n:Nat) (xs:List α) (s:UE) (Q:List α->UE->Prop),xs.length=n->(∀ ys d,ys.Perm xs->Q ys { s with drawn:=d })->UU M A (drawOrder n xs) Q E s:=by
 intro n
 induction n with
 | zero=>
  intro xs s Q hl h
  have:xs=[]:=W8 hl
  subst this
  exact wpAny_pure (h [] s.drawn (.refl _))
 | succ n ih=>
  intro xs s Q hl h
  cases xs with
  | nil=>cases hl
  | cons x r=>
  show UU M A (choose Source.order (x::r).length >>= _) Q E s
  refine wpAny_bind (wp_choose (by simp) λi d hi=>?_)
  rw[Vf hi]
  refine wpAny_bind (ih _ _ _ (by rw[Z7,if_pos hi];omega) λys d' pm=>wpAny_pure ?_)
  exact h _ d' (((pm.cons _).trans (AE _ _ hi)))
theorem Me {α:Type}(next:Nat->Nat):∀ (n k:Nat) (left:List α) (out:Array α),left.length=n->(za6 next n k left out).toList.Perm (out.toList++left):=by
 intro n
 induction n with
 | zero=>
  intro k left out hl
  have:left=[]:=W8 hl
  subst this
  rw[Ve]
  exact .refl _
 | succ n ih=>
  intro k left out hl
  have hi:next k % left.length < left.length:=Nat.mod_lt _ (by omega)
  have e:za6 next (n+1) k left out=za6 next n (k+1) (left.eraseIdx (next k % left.length)) (out.push left[next k % left.length]):=by
   show (match left[next k % left.length]? with | some x=>_ | none=>_)=_
   rw[Vf hi]
  rw[e]
  refine (ih _ _ _ (by rw[Z7,if_pos hi];omega)).trans ?_
  rw[Array.toList_push,V7]
  exact List.Perm.append_left _ (AE _ _ hi)
theorem kJ {α:Type}(next:Nat->Nat)(xs:Array α):(XI next xs).toList.Perm xs.toList:=by
 have:=Me next xs.size 0 xs.toList #[] (by simp)
 unfold XI
 simpa using this
theorem yN:zbY table "set.__iter__" = some W0.«frozenset.__iter__»:=entryFor_alias (id' := "frozenset.__iter__") (by kernel_rfl) rfl (by decide +kernel) (by kernel_rfl)
theorem eu:zbY table "set_iterator.__next__" = some W0.«set_iterator.__next__»:=entryFor_of_fast (by kernel_rfl)
theorem EE:Manifest.owners.lookup (String.ofList "rotareti_tes".toList.reverse)=some Manifest.sig_set_iterator:=by kernel_rfl
theorem cm:Slot "set_iterator" "__next__" "set_iterator.__next__" :=
 Slot.of (T := "set_iterator") (owner := "set_iterator") (n := "__next__") (by (rw[typeLookup_type,ZT]);kernel_rfl) (by decide +kernel) (by decide +kernel) (by decide +kernel) (by first | exact .inl (by decide +kernel) | exact .inr (by decide +kernel)) (by (rw[isSubtype_type]);kernel_rfl)
theorem ky (a:UC):argsOk "set_iterator.__next__" ⟨[a],[]⟩:=by
 unfold argsOk
 rw[signature?_of (id := "set_iterator.__next__") (n := "__txen__".toList) (o := "rotareti_tes".toList) (by kernel_rfl) EE]
 kernel_rfl
theorem nr {M:zbG}{A:U9}{E:UC->UE->Prop}{s:UE}{ty:String}{vs:List UC}{Q:UC->UE->Prop}(hz:vs.length<=10)(h:Q (.ref s.heap.objs.size) { s with heap:=s.heap.push { cls:=.type ty,data:=.fields vs.toArray } }):UU M A (newFields ty vs) Q E s:=by
 unfold newFields newObj
 dsimp only
 rw[if_neg (by rw[UR,Xk];omega)]
 exact wpAny_bind (wpAny_alloc (wpAny_pure h))
end
section
open PySem PySem.Spec PyProof PyProof.Rows L2
def SIt (h:Heap)(it S:Addr)(first:UC)(i n ep:Nat):Prop:=∃ o,h.get? it=some o/\o.cls=.type "set_iterator" /\ o.data=.fields #[first,.int i 0,.ref S,.int n 0,.int ep 0]
theorem FT {prog:UT}{w:Va}{A:U9}{E:UC->UE->Prop}{s:UE}{it S tp:Addr}{i n ep:Nat}{o ot:Obj}{es:Array (Int×UC)}{t:V8}{pl:List Nat}{kt j:Nat}{y:Int×UC}{Q:Option UC->UE->Prop}
  (hit:SIt s.heap it S (.ref tp) i n ep) (ho:s.heap.get? S=some o) (hd:o.data=.set es ep t) (ft:t.fits es.size=true) (hn:es.size=n)
  (ht:s.heap.get? tp=some ot) (hc:ot.cls=.type "tuple") (hdt:ot.data=.seq (pl.map λj:Nat=>W3 j).toArray kt) (hj:pl[i]? = some j) (hy:es[j]? = some y)
  (h:∀ h',SIt h' it S (.ref tp) (i+1) n ep->Wu it s.heap h'->Q (some y.2) { s with heap:=h' }):UU (U1 prog w) A (Xf (.ref it)) Q E s:=by
 obtain ⟨oi,e1,e2,e3⟩:=hit
 have ty:s.TypeIs (.ref it) "set_iterator" := ⟨oi,e1,e2⟩
 unfold Xf
 refine wpAny_bind (Xe (Vi (name := "__next__") ty cm (Vu cm ty eu ?_ (ky _))))
 unfold W0.«set_iterator.__next__»
 refine wpAny_bind (wpAny_pure (wpAny_bind (XY e1 e3 ?_)))
 dsimp only
 refine wpAny_bind (Wt ho hd ft ?_)
 rw[if_neg (by rw[hn];simp)]
 refine wpAny_bind (V4 ht hdt ?_)
 have ep':((pl.map λj:Nat=>W3 j).toArray)[((i:Nat):Int).toNat]? = some (.int (j:Int) 0):=by
  rw[Vn,ZU,VB,hj]
  rfl
 dsimp only
 rw[ep']
 dsimp only
 unfold setNextDrawn
 refine wpAny_bind (wpAny_bind (V9 ho hd ft ?_))
 dsimp only
 rw[if_neg (by simp),Vn,hy]
 refine wpAny_pure ?_
 refine wpAny_bind (V5 e1 e3 (by simp) (wpAny_pure ⟨_,rfl,wpAny_pure (h _ ?_ (VE ..))⟩))
 exact ⟨_,Vz _ e1 (VX (U8 e3 _)),(WS ..).trans e2,by rw[U8 e3];simp[W3]⟩
theorem iA {prog:UT}{w:Va}{A:U9}{E:UC->UE->Prop}{s:UE}{Q:Bool->UE->Prop}(h:Q (w.params.followText "set-order") s):UU (U1 prog w) A setsByText Q E s:=wpAny_bind (wpAny_askSetting (wpAny_pure h))
theorem nO {prog:UT}{w:Va}{A:U9}{E:UC->UE->Prop}{s:UE}{S:Addr}{o:Obj}{es:Array (Int×UC)}{ep:Nat}{t:V8}{Q:Array (Int×UC)->UE->Prop}(bt:w.params.followText "set-order" = true)(ho:s.heap.get? S=some o)(hd:o.data=.set es ep t)(ft:t.fits es.size=true)
  (h:Q (XI (w.params.setOrder S ep) es) s):UU (U1 prog w) A (setWalk S) Q E s:=by
 unfold setWalk
 refine wpAny_bind (V9 ho hd ft (wpAny_bind (iA ?_)))
 rw[if_pos bt]
 exact wpAny_bind <| wpAny_askSetting <| wpAny_pure h
theorem GW {prog:UT}{w:Va}{A:U9}{E:UC->UE->Prop}{s:UE}{it S:Addr}{i n ep:Nat}{o:Obj}{es:Array (Int×UC)}{t:V8}{y:Int×UC}{Q:Option UC->UE->Prop}(bt:w.params.followText "set-order" = true)
  (hit:SIt s.heap it S (.int 0 0) i n ep) (ho:s.heap.get? S=some o) (hd:o.data=.set es ep t) (ft:t.fits es.size=true) (hn:es.size=n) (hy:(XI (w.params.setOrder S ep) es)[i]? = some y)
  (h:∀ h',SIt h' it S (.int 0 0) (i+1) n ep->Wu it s.heap h'->Q (some y.2) { s with heap:=h' }):UU (U1 prog w) A (Xf (.ref it)) Q E s:=by
 obtain ⟨oi,e1,e2,e3⟩:=hit
 have ty:s.TypeIs (.ref it) "set_iterator" := ⟨oi,e1,e2⟩
 unfold Xf
 refine wpAny_bind (Xe (Vi (name := "__next__") ty cm (Vu cm ty eu ?_ (ky _))))
 unfold W0.«set_iterator.__next__»
 refine wpAny_bind (wpAny_pure (wpAny_bind (XY e1 e3 ?_)))
 dsimp only
 refine wpAny_bind (Wt ho hd ft ?_)
 rw[if_neg (by rw[hn];simp)]
 refine wpAny_bind ?_
 unfold zah
 refine wpAny_bind (V9 ho hd ft (wpAny_bind (iA ?_)))
 rw[if_pos bt]
 dsimp only
 rw[if_neg (by simp)]
 refine wpAny_bind (nO bt ho hd ft (wpAny_pure ?_))
 rw[Vn,hy]
 refine (show UU _ _ (setField (.ref it) 0 (W3 ((0:Nat):Int)) >>= _) _ _ _ from ?_)
 have g1:=Vz (λo=>WA (·.setIfInBounds 0 (W3 ((0:Nat):Int))) o) e1 (VX (U8 e3 _))
 refine wpAny_bind (V5 e1 e3 (by simp) ?_)
 refine wpAny_bind (V5 g1 (U8 e3 _) (by simp) (wpAny_pure ⟨_,rfl,wpAny_pure (h _ ?_ ((VE ..).trans (VE ..)))⟩))
 refine ⟨_,Vz _ g1 (VX (U8 (U8 e3 _) _)),(WS ..).trans ((WS ..).trans e2),?_⟩
 rw[U8 (U8 e3 _)]
 simp[W3]
end
section
open PySem PySem.Spec PyProof PyProof.Rows L2
theorem Aj {prog:UT}{w:Va}{A:U9}{E:UC->UE->Prop}{s:UE}{Q:Option UC->UE->Prop}{R:PySem.Fin->UE->Prop}(hA:A.handled=none)
  (h:∀ h',(∀ b o,s.heap.get? b=some o->h'.get? b=some o)->Q none { s with heap:=h' }) :
  UU (U1 prog w) A.in1 (newExc (.type "StopIteration") [] >>= λe=>(raiseNew e:Sem PySem.Fin)) R (λe s'=>UU (U1 prog w) A (zbT e (.type "StopIteration") >>= λb=>if b=true then pure none else throw e) Q E s') s:=by
 refine wpAny_bind ?_
 simp only[newExc,newTuple]
 refine wpAny_bind <| (λq=>VP q (by size_fits)) ?_
 refine wpAny_bind (m:=YR _ _) (W7 (a:=VO) (by first | rfl | (simp only[YR];rfl)) (VP ?_ (by size_fits)))
 simp only[raiseNew]
 refine wpAny_bind <| wpAny_handled ?_
 have hA':A.in1.handled=none:=hA
 rw[hA']
 refine wpAny_bind <| wpAny_pure <| wpAny_throw ?_
 refine wpAny_bind (wpAny_isInstance (b:=true) (show zaC _ _ "StopIteration" from ⟨_,UP _ rfl,rfl⟩) isSubtype_stop ?_)
 exact wpAny_pure (h _ λb o e=>UD _ (UD _ e))
theorem vj {prog:UT}{w:Va}{A:U9}{E:UC->UE->Prop}{s:UE}{it S tp:Addr}{i n ep:Nat}{o ot:Obj}{es:Array (Int×UC)}{t:V8}{pl:List Nat}{kt:Nat}{Q:Option UC->UE->Prop}(hA:A.handled=none)
  (hit:SIt s.heap it S (.ref tp) i n ep) (ho:s.heap.get? S=some o) (hd:o.data=.set es ep t) (ft:t.fits es.size=true) (hn:es.size=n)
  (ht:s.heap.get? tp=some ot) (hc:ot.cls=.type "tuple") (hdt:ot.data=.seq (pl.map λj:Nat=>W3 j).toArray kt) (hj:pl[i]? = none)
  (h:∀ h',Z1 it s.heap h'->Q none { s with heap:=h' }):UU (U1 prog w) A (Xf (.ref it)) Q E s:=by
 obtain ⟨oi,e1,e2,e3⟩:=hit
 have ty:s.TypeIs (.ref it) "set_iterator" := ⟨oi,e1,e2⟩
 unfold Xf
 refine wpAny_bind (Xe (Vi (name := "__next__") ty cm (Vu cm ty eu ?_ (ky _))))
 unfold W0.«set_iterator.__next__»
 refine wpAny_bind (wpAny_pure (wpAny_bind (XY e1 e3 ?_)))
 dsimp only
 refine wpAny_bind (Wt ho hd ft ?_)
 rw[if_neg (by rw[hn];simp)]
 refine wpAny_bind (V4 ht hdt ?_)
 have ep':((pl.map λj:Nat=>W3 j).toArray)[((i:Nat):Int).toNat]? = none:=by
  rw[Vn,ZU,VB,hj]
  rfl
 dsimp only
 rw[ep']
 have g1:=Vz (λo=>WA (·.setIfInBounds 0 (W3 0)) o) e1 (VX (U8 e3 _))
 refine wpAny_bind (V5 e1 e3 (by simp) (wpAny_bind (V5 g1 (U8 e3 _) (by simp) ?_)))
 dsimp only
 have kpH:∀ b o,b≠it->s.heap.get? b=some o->((s.heap.update it (WA λx=>x.setIfInBounds 0 (W3 0))).update it (WA λx=>x.setIfInBounds 2 VO)).get? b=some o:=λb o hb e=>by
  rw[VC _ _ (Vq hb),VC _ _ (Vq hb)]
  exact e
 generalize (s.heap.update it (WA λx=>x.setIfInBounds 0 (W3 0))).update it (WA λx=>x.setIfInBounds 2 VO)=H at kpH ⊢
 exact Aj (s:=⟨H,s.gens,s.drawn,s.toks,s.os⟩) hA λh' kp=>h h' λb o hb e=>kp b o (kpH b o hb e)
theorem Az {prog:UT}{w:Va}{A:U9}{E:UC->UE->Prop}{s:UE}{it S:Addr}{sl:Int}{i n ep:Nat}{o:Obj}{es:Array (Int×UC)}{t:V8}{Q:Option UC->UE->Prop}(hA:A.handled=none)
  (hit:SIt s.heap it S (.int sl 0) i n ep) (ho:s.heap.get? S=some o) (hd:o.data=.set es ep t) (ft:t.fits es.size=true) (hn:es.size=n)
  (hx:∀ (E':UC->UE->Prop) (R:Option (UC×Nat)->UE->Prop),R none s->UU (U1 prog w) A.in1 (zah S sl.toNat ((i:Nat):Int).toNat ((ep:Nat):Int).toNat) R E' s)
  (h:∀ h',Z1 it s.heap h'->Q none { s with heap:=h' }):UU (U1 prog w) A (Xf (.ref it)) Q E s:=by
 obtain ⟨oi,e1,e2,e3⟩:=hit
 have ty:s.TypeIs (.ref it) "set_iterator" := ⟨oi,e1,e2⟩
 unfold Xf
 refine wpAny_bind (Xe (Vi (name := "__next__") ty cm (Vu cm ty eu ?_ (ky _))))
 unfold W0.«set_iterator.__next__»
 refine wpAny_bind (wpAny_pure (wpAny_bind (XY e1 e3 ?_)))
 dsimp only
 refine wpAny_bind (Wt ho hd ft ?_)
 rw[if_neg (by rw[hn];simp)]
 refine wpAny_bind (hx _ _ ?_)
 dsimp only
 refine wpAny_bind (V5 e1 e3 (by simp) ?_)
 have kpH:∀ b o,b≠it->s.heap.get? b=some o->(s.heap.update it (WA λx=>x.setIfInBounds 2 VO)).get? b=some o:=λb o hb e=>by
  rw[VC _ _ (Vq hb)]
  exact e
 generalize s.heap.update it (WA λx=>x.setIfInBounds 2 VO)=H at kpH ⊢
 exact Aj (s:=⟨H,s.gens,s.drawn,s.toks,s.os⟩) hA λh' kp=>h h' λb o hb e=>kp b o (kpH b o hb e)
theorem u7 {prog:UT}{w:Va}{A:U9}{E:UC->UE->Prop}{s:UE}{S:Addr}{sl i ep:Nat}{o:Obj}{es:Array (Int×UC)}{t:V8}{Q:Option (UC×Nat)->UE->Prop}(bt:w.params.followText "set-order" = true)
  (ho:s.heap.get? S=some o) (hd:o.data=.set es ep t) (ft:t.fits es.size=true) (hi:es.size<=i) (h:Q none s):UU (U1 prog w) A (zah S sl i ep) Q E s:=by
 unfold zah
 refine wpAny_bind (V9 ho hd ft (wpAny_bind (iA ?_)))
 rw[if_pos bt]
 dsimp only
 rw[if_neg (by simp)]
 refine wpAny_bind (nO bt ho hd ft (wpAny_pure ?_))
 have:(XI (w.params.setOrder S ep) es)[i]? = none:=by
  have pm:=(kJ (w.params.setOrder S ep) es).length_eq
  rw[YT]
  simp only[VS] at pm
  omega
 rw[this]
 exact h
theorem Lf (j:Nat):Wa #[j] 0=0:=by
 unfold Wa
 simp[za7]
theorem below_1 (j:Nat):Wa #[j] (j+1)=1:=by
 unfold Wa
 simp[za7]
theorem Bg {prog:UT}{w:Va}{A:U9}{E:UC->UE->Prop}{s:UE}{S:Addr}{sl i ep:Nat}{o:Obj}{es:Array (Int×UC)}{t:V8}{Q:Option (UC×Nat)->UE->Prop}(bt:w.params.followText "set-order" = false)
  (ho:s.heap.get? S=some o) (hd:o.data=.set es ep t) (ft:t.fits es.size=true) (ld:t.led=true) (hz:es.size<=1) (h:Q (match es[Wa t.place sl]?,t.place[Wa t.place sl]? with | some (_,x),some j=>some (x,j+1) | _,_=>none) s):UU (U1 prog w) A (zah S sl i ep) Q E s:=by
 unfold zah
 refine wpAny_bind (V9 ho hd ft (wpAny_bind (iA ?_)))
 rw[if_neg (by rw[bt];simp)]
 dsimp only
 refine (show UU _ _ (if ((!t.plain)&&decide (es.size > 1))=true then _ else _) _ _ _ from ?_)
 rw[if_neg (by simp;omega)]
 refine wpAny_bind ?_
 refine (show UU _ _ (if (!t.led && !es.isEmpty)=true then _ else pure ()) _ _ _ from ?_)
 rw[if_neg (by rw[ld];simp)]
 exact wpAny_pure <| wpAny_pure h
end
section
open PySem PySem.Spec PyProof PyProof.Rows L2
theorem G5 {prog:UT}{w:Va}{A:U9}{E:UC->UE->Prop}{s:UE}{it S:Addr}{sl:Int}{i n ep nx:Nat}{o:Obj}{es:Array (Int×UC)}{t:V8}{v:UC}{Q:Option UC->UE->Prop}
  (hit:SIt s.heap it S (.int sl 0) i n ep) (ho:s.heap.get? S=some o) (hd:o.data=.set es ep t) (ft:t.fits es.size=true) (hn:es.size=n)
  (hx:∀ (E':UC->UE->Prop) (R:Option (UC×Nat)->UE->Prop),R (some (v,nx)) s->UU (U1 prog w) A.in1 (zah S sl.toNat ((i:Nat):Int).toNat ((ep:Nat):Int).toNat) R E' s)
  (h:∀ h',SIt h' it S (.int nx 0) (i+1) n ep->Wu it s.heap h'->Q (some v) { s with heap:=h' }):UU (U1 prog w) A (Xf (.ref it)) Q E s:=by
 obtain ⟨oi,e1,e2,e3⟩:=hit
 have ty:s.TypeIs (.ref it) "set_iterator" := ⟨oi,e1,e2⟩
 unfold Xf
 refine wpAny_bind (Xe (Vi (name := "__next__") ty cm (Vu cm ty eu ?_ (ky _))))
 unfold W0.«set_iterator.__next__»
 refine wpAny_bind (wpAny_pure (wpAny_bind (XY e1 e3 ?_)))
 dsimp only
 refine wpAny_bind (Wt ho hd ft ?_)
 rw[if_neg (by rw[hn];simp)]
 refine wpAny_bind (hx _ _ ?_)
 dsimp only
 have g1:=Vz (λo=>WA (·.setIfInBounds 0 (W3 (nx:Int))) o) e1 (VX (U8 e3 _))
 refine wpAny_bind (V5 e1 e3 (by simp) ?_)
 refine wpAny_bind (V5 g1 (U8 e3 _) (by simp) (wpAny_pure ⟨_,rfl,wpAny_pure (h _ ?_ ((VE ..).trans (VE ..)))⟩))
 refine ⟨_,Vz _ g1 (VX (U8 (U8 e3 _) _)),(WS ..).trans ((WS ..).trans e2),?_⟩
 rw[U8 (U8 e3 _)]
 simp[W3]
theorem JQ {prog:UT}{w:Va}{A:U9}{E:UC->UE->Prop}{s:UE}{S:Addr}{o:Obj}{es:Array (Int×UC)}{ep:Nat}{t:V8}{Q:UC->UE->Prop}(ho:s.heap.get? S=some o)(hc:o.cls=.type "set")(hd:o.data=.set es ep t)(ft:t.fits es.size=true)(zs:es.size<=sizeLine)
  (h0:(w.params.followText "set-order" = true∨t.plain=true∨es.size<=1)->Q (.ref s.heap.objs.size) { s with heap:=s.heap.push { cls:=.type "set_iterator", data:=.fields #[.int 0 0,.int 0 0,.ref S,.int es.size 0,.int ep 0] } })
  (h1:w.params.followText "set-order" = false->∀ (pl:List Nat) d,pl.Perm (Wo es.size)->∀ g,g=s.heap.push { cls:=.type "tuple", data:=.seq (pl.map λj:Nat=>W3 j).toArray }->Q (.ref g.objs.size) { s with heap:=g.push { cls:=.type "set_iterator", data:=.fields #[.ref s.heap.objs.size,.int 0 0,.ref S,.int es.size 0,.int ep 0] },drawn:=d }) :
  UU (U1 prog w) A (zaF (.ref S)) Q E s:=by
 have ty:s.TypeIs (.ref S) "set" := ⟨o,ho,hc⟩
 refine za8 ty zbA (Vu zbA ty yN ?_ (F.args_set_iter_1 _))
 unfold W0.«frozenset.__iter__»
 refine wpAny_bind ?_
 unfold zca
 refine wpAny_bind <| wpAny_pure <| wpAny_pure ?_
 refine wpAny_bind ?_
 unfold zb4
 refine wpAny_bind (Wt ho hd ft (wpAny_pure ?_))
 refine wpAny_bind ?_
 unfold setDrawn
 refine wpAny_bind (V9 ho hd ft (wpAny_bind (iA (wpAny_pure ?_))))
 dsimp only
 refine (show UU _ _ (if (!w.params.followText "set-order" && ((!t.plain)&&decide (es.size > 1)))=true then _ else _) _ _ _ from ?_)
 by_cases q:(!w.params.followText "set-order" && ((!t.plain)&&decide (es.size > 1)))=true
 ·rw[if_pos q]
  have bt:w.params.followText "set-order" = false:=by
   simp only[UM,Bool.not_eq_true'] at q
   exact q.1
  refine wpAny_bind (xF _ _ _ _ (by simp) λpl d pm=>wpAny_bind (wpAny_newTuple ?_ (by rw[UJ,pm.length_eq,XZ];exact zs)))
  refine wpAny_bind (za9 (UD _ ho) hd ft ?_)
  refine wpAny_bind (nr (by simp) (wpAny_pure ⟨_,rfl, "set_iterator", _,⟨_,UP _ rfl,rfl⟩,cm.lookup,h1 bt pl d pm _ rfl⟩))
 ·rw[if_neg q]
  refine wpAny_bind (wpAny_pure (wpAny_bind (za9 ho hd ft ?_)))
  refine wpAny_bind (nr (by simp) (wpAny_pure ⟨_,rfl, "set_iterator", _,⟨_,UP _ rfl,rfl⟩,cm.lookup,h0 ?_⟩))
  by_cases b1:w.params.followText "set-order" = true
  ·exact .inl b1
  ·by_cases b2:t.plain=true
   ·exact .inr (.inl b2)
   ·refine .inr (.inr ?_)
    by_cases b3:es.size<=1
    ·exact b3
    ·exact absurd (by simp[b1,b2];omega) q
end
section
open PySem PySem.Spec PyProof PyProof.Rows L2
theorem yM:zbY table "set_iterator.__iter__" = some W0.«dict_keyiterator.__iter__»:=entryFor_alias (id' := "dict_keyiterator.__iter__") (by kernel_rfl) rfl (by decide +kernel) (by kernel_rfl)
theorem t9:Slot "set_iterator" "__iter__" "set_iterator.__iter__" :=
 Slot.of (T := "set_iterator") (owner := "set_iterator") (n := "__iter__") (by (rw[typeLookup_type,ZT]);kernel_rfl) (by decide +kernel) (by decide +kernel) (by decide +kernel) (by first | exact .inl (by decide +kernel) | exact .inr (by decide +kernel)) (by (rw[isSubtype_type]);kernel_rfl)
theorem Ck (a:UC):argsOk "set_iterator.__iter__" ⟨[a],[]⟩:=by
 unfold argsOk
 rw[signature?_of (id := "set_iterator.__iter__") (n := "__reti__".toList) (o := "rotareti_tes".toList) (by kernel_rfl) EE]
 kernel_rfl
theorem tR {prog:UT}{w:Va}{A:U9}{E:UC->UE->Prop}{s:UE}{it S:Addr}{v:UC}{i n ep:Nat}{Q:UC->UE->Prop}(hit:SIt s.heap it S v i n ep)(h:Q (.ref it) s):UU (U1 prog w) A (zaF (.ref it)) Q E s:=by
 obtain ⟨o,e1,e2,e3⟩:=hit
 have ty:s.TypeIs (.ref it) "set_iterator" := ⟨o,e1,e2⟩
 refine za8 ty t9 (Vu t9 ty yM (show UU _ _ (ret (.ref it)) _ _ s from ?_) (Ck _))
 exact wpAny_pure ⟨_,rfl,_,_,ty,cm.lookup,h⟩
theorem AB {prog:UT}{w:Va}{A:U9}(hA:A.handled=none){I S tp:Addr}{n ep:Nat}{o ot:Obj}{es:Array (Int×UC)}{t:V8}{pl:List Nat}{kt:Nat}(n1:S≠I)(n2:tp≠I)
  (hd:o.data=.set es ep t) (ft:t.fits es.size=true) (hn:es.size=n) (hc:ot.cls=.type "tuple") (hdt:ot.data=.seq (pl.map λj:Nat=>W3 j).toArray kt) (pm:pl.Perm (Wo n)) :
  Walks prog w A I [I,S,tp] [I] n (λi v=>∃ j y,pl[i]? = some j/\es[j]? = some y/\v=y.2) (λi h=>SIt h I S (.ref tp) i n ep/\h.get? S=some o/\h.get? tp=some ot) where
 sub:=λb hb=>by simp at hb;subst hb;simp
 frame:=λi h h' ⟨⟨oi,e1,e2,e3⟩,e4,e5⟩ k=>⟨⟨oi,k I (by simp) _ e1,e2,e3⟩,k S (by simp) _ e4,k tp (by simp) _ e5⟩
 item:=λi s Q E hi ⟨hit,e4,e5⟩ hQ=>by
  have hl:pl.length=n:=by rw[pm.length_eq,XZ]
  have hj:pl[i]? = some pl[i]:=Vf (by omega)
  have hb:pl[i] < n:=W2.mp (pm.mem_iff.mp (Zk (by omega)))
  have hy:es[pl[i]]? = some es[pl[i]]:=VA (by omega)
  refine FT hit e4 hd ft hn e5 hc hdt hj hy λh' hit' sb=>hQ _ h' s.toks ⟨_,_,hj,hy,rfl⟩ ⟨hit',(sb.2 S n1).trans e4,(sb.2 tp n2).trans e5⟩ λb o hb e=>(sb.2 b (by simpa using hb)).trans e
 done:=λs Q E ⟨hit,e4,e5⟩ hQ=>by
  have hl:pl.length=n:=by rw[pm.length_eq,XZ]
  exact vj hA hit e4 hd ft hn e5 hc hdt (X3 (by omega)) λh' k=>hQ h' s.toks λb o hb e=>k b o (by simpa using hb) e
 self:=λi s Q E ⟨hit,_,_⟩ q=>tR hit q
theorem CZ {prog:UT}{w:Va}{A:U9}(hA:A.handled=none)(bt:w.params.followText "set-order" = true){I S:Addr}{n ep:Nat}{o:Obj}{es:Array (Int×UC)}{t:V8}(n1:S≠I)
  (hd:o.data=.set es ep t) (ft:t.fits es.size=true) (hn:es.size=n) :
  Walks prog w A I [I,S] [I] n (λi v=>∃ y,(XI (w.params.setOrder S ep) es)[i]? = some y/\v=y.2) (λi h=>SIt h I S (.int 0 0) i n ep/\h.get? S=some o) where
 sub:=λb hb=>by simp at hb;subst hb;simp
 frame:=λi h h' ⟨⟨oi,e1,e2,e3⟩,e4⟩ k=>⟨⟨oi,k I (by simp) _ e1,e2,e3⟩,k S (by simp) _ e4⟩
 item:=λi s Q E hi ⟨hit,e4⟩ hQ=>by
  have hl:(XI (w.params.setOrder S ep) es).size=n:=by
   have:=(kJ (w.params.setOrder S ep) es).length_eq
   simp only[VS] at this
   omega
  have hy:(XI (w.params.setOrder S ep) es)[i]? = some (XI (w.params.setOrder S ep) es)[i]:=VA (by omega)
  exact GW bt hit e4 hd ft hn hy λh' hit' sb=>hQ _ h' s.toks ⟨_,hy,rfl⟩ ⟨hit',(sb.2 S n1).trans e4⟩ λb o hb e=>(sb.2 b (by simpa using hb)).trans e
 done:=λs Q E ⟨hit,e4⟩ hQ=>Az hA hit e4 hd ft hn (λE' R r=>by rw[Vn,Vn];exact u7 bt e4 hd ft (by omega) r) λh' k=>hQ h' s.toks λb o hb e=>k b o (by simpa using hb) e
 self:=λi s Q E ⟨hit,_⟩ q=>tR hit q
end
section
open PySem PySem.Spec PyProof PyProof.Rows L2
theorem F3 {prog:UT}{w:Va}{A:U9}(hA:A.handled=none)(bt:w.params.followText "set-order" = false){I S:Addr}{n ep:Nat}{o:Obj}{es:Array (Int×UC)}{t:V8}(n1:S≠I)
  (hd:o.data=.set es ep t) (ft:t.fits es.size=true) (hn:es.size=n) (ld:t.led=true) (hz:es.size<=1) :
  Walks prog w A I [I,S] [I] n (λi v=>∃ y,es[i]? = some y/\v=y.2) (λi h=>SIt h I S (.int (if i=0 then 0 else ((t.place.getD 0 0+1:Nat):Int)) 0) i n ep/\h.get? S=some o) where
 sub:=λb hb=>by simp at hb;subst hb;simp
 frame:=λi h h' ⟨⟨oi,e1,e2,e3⟩,e4⟩ k=>⟨⟨oi,k I (by simp) _ e1,e2,e3⟩,k S (by simp) _ e4⟩
 item:=λi s Q E hi ⟨hit,e4⟩ hQ=>by
  have i0:i=0:=by omega
  subst i0
  have ps:t.place.size=1:=by
   have:=ft
   unfold zb5 at this
   simp only[UM,beq_iff_eq] at this
   omega
  obtain ⟨j,ej⟩:∃ j,t.place = #[j]:=by
   refine ⟨t.place[0],?_⟩
   apply Array.ext
   ·simpa using ps
   ·intro k h1 h2
    have:k=0:=by omega
    subst this
    simp
  have hy:es[0]? = some es[0]:=VA (by omega)
  rw[if_pos rfl] at hit
  refine G5 (v:=es[0].2) (nx:=j+1) hit e4 hd ft hn (λE' R r=>?_) λh' hit' sb=>hQ _ h' s.toks ⟨_,hy,rfl⟩ ⟨?_,(sb.2 S n1).trans e4⟩ λb o hb e=>(sb.2 b (by simpa using hb)).trans e
  ·rw[Vn]
   refine Bg bt e4 hd ft ld hz ?_
   rw[ej]
   show R (match es[Wa #[j] 0]?,(#[j]:Array Nat)[Wa #[j] 0]? with | some (_,x),some j=>some (x,j+1) | _,_=>none) s
   rw[Lf,hy]
   exact r
  ·rw[if_neg (by omega),ej]
   exact hit'
 done:=λs Q E ⟨hit,e4⟩ hQ=>by
  refine Az hA hit e4 hd ft hn (λE' R r=>?_) λh' k=>hQ h' s.toks λb o hb e=>k b o (by simpa using hb) e
  rw[Vn]
  refine Bg bt e4 hd ft ld hz ?_
  have ps:t.place.size=n:=by
   have:=ft
   unfold zb5 at this
   simp only[UM,beq_iff_eq] at this
   omega
  have:es[Wa t.place (if n=0 then (0:Int) else ((t.place.getD 0 0+1:Nat):Int)).toNat]? = none:=by
   rw[YT]
   by_cases z:n=0
   ·omega
   ·have z1:n=1:=by omega
    obtain ⟨j,ej⟩:∃ j,t.place = #[j]:=by
     refine ⟨t.place[0],?_⟩
     apply Array.ext
     ·show t.place.size=1;omega
     ·intro k h1 h2
      have:k=0:=by omega
      subst this
      simp
    rw[if_neg z,Vn,ej]
    show es.size<=Wa #[j] (j+1)
    rw[below_1]
    omega
  rw[this]
  exact r
 self:=λi s Q E ⟨hit,_⟩ q=>tR hit q
end
section
open PySem PySem.Spec PyProof PyProof.Rows L2
theorem JV {prog:UT}{w:Va}{A:U9}{E:UC->UE->Prop}{s:UE}{r:Addr}{Q:Bool->UE->Prop}(ty:s.TypeIs (.ref r) "set")(h:Q false s):UU (U1 prog w) A (YD (.ref r)) Q E s:=by
 unfold YD -- a set has its own len
 refine wpAny_bind (wpAny_specialOf ty PySem.F.slot_set_len.lookup ?_)
 generalize hid:("set.__len__" : String)=nm
 wp_delta
 rw[show splitId nm=some ("set", "__len__") by subst hid;decide +kernel]
 subst hid
 refine wpAny_bind (wpAny_isInstance (T := "set") (b:=true) ty sub_set_self ?_)
 refine ZO (λz=>absurd z (by decide)) λ_=>ZO (λ_=>?_) λz=>absurd (by decide +kernel) z
 exact wpAny_bind (wpAny_typeOf ty (wpAny_pure h))
theorem Mm {prog:UT}{w:Va}{A:U9}{R:zbJ->UE->Prop}{s:UE}{L r:Addr}{res:UC}{c₀:Nat}{es:Array (Int×UC)}(hA:A.handled=none)(zs:es.size<=sizeLine)(ne:L≠r)
  (iter:∀ (E':UC->UE->Prop) (Q':UC->UE->Prop),(∀ (I:Addr) (h1:Heap) (d:Drawn) (fp:List Addr) (P:Nat->UC->Prop) (St:Nat->Heap->Prop),Walks prog w A.in1 I fp [I] es.size P St->St 0 h1->L ∉ fp->(∀ b o,s.heap.get? b=some o->b≠I/\h1.get? b=some o)->(∀ acc,ItemsOf P acc es.size->acc.toList.Perm (es.toList.map (·.2)))->Q' (.ref I) { s with heap:=h1,drawn:=d })->UU (U1 prog w) A.in1 (zaF (.ref r)) Q' E' s)
  (hr:∃ o,s.heap.get? r=some o/\o.cls=.type "set") (hL:s.heap.get? L=some { cls:=.type "list", data:=.seq #[] c₀ })
  (hR:∀ h' tk d acc c,(∀ b o,b≠L->s.heap.get? b=some o->h'.get? b=some o)->h'.get? L=some { cls:=.type "list", data:=.seq acc c }->acc.toList.Perm (es.toList.map (·.2))->R (.ok (.ret res)) { s with heap:=h',toks:=tk,drawn:=d }) :
  UU (U1 prog w) A.in1 (Xi (.ref L) (.ref r) res) (λfin s'=>match fin with | .done f=>R (.ok f) s' | .again c'=>c'.quiet=true/\Xh (U1 prog w) A c' R s') (λe s'=>R (.error e) s') s:=by
 obtain ⟨o,ho,hc⟩:=hr
 unfold Xi -- neither a list nor a tuple
 refine wpAny_bind (wpAny_typeOf (T := "set") (show s.TypeIs (.ref r) "set" from ⟨o,ho,hc⟩) ?_)
 have h1:Zc (.ref L) (.ref r)=false:=by simp[Zc,ne]
 rw[if_neg (show ¬ _ by rw[h1];decide)]
 refine wpAny_bind (iter _ _ λI h1 d fp P St W st nf kp fin=>?_)
 have key:∀ (h:Heap) (c tk:Nat),St 0 h->(∀ b o,b≠L->s.heap.get? b=some o->h.get? b=some o)->h.get? L=some { cls:=.type "list", data:=.seq #[] c }->Xh (U1 prog w) A (.builtin "list.extend.loop" ⟨[.ref L,.ref I,res],[]⟩) R { s with heap:=h,toks:=tk,drawn:=d }:=λh c tk s0 k0 l0=>by
  refine codeAny_extend_loopS W.toS zs L nf res es.size 0 _ #[] c rfl (Wz _) s0 l0 (ItemsOf.nil _) λs' acc' c' hm l1 it=>?_
  rw[Moved.eq_with hm]
  refine hR s'.heap s'.toks d acc' c' (λb o hb e=>hm.heap b o (λz=>?_) (k0 b o hb e)) l1 (fin acc' it)
  rcases UQ.mp z with z | z
  ·exact hb z
  ·exact (kp b o e).1 (UZ.mp z)
 have hL1:=(kp L _ hL).2
 refine wpAny_bind (wpAny_holding (JV ⟨o,(kp r o ho).2,hc⟩ ?_))
 refine ZO (λ_=>?_) λ_=>wpAny_pure ⟨Ye YW _,key h1 c₀ _ st (λb o _ e=>(kp b o e).2) hL1⟩
 refine wpAny_bind <| wpAny_rule <| wpAny_bind (show UU _ _ (updateSeq L (·.push .none) >>= λ_=>updateSeq L (·.pop)) _ _ _ from ?_)
 have l2:=Vz (WG (·.push VO)) hL1 rfl
 have l3:=Vz (WG (·.pop)) l2 rfl
 have kpL:∀ b o,b≠L->h1.get? b=some o->((h1.update L (WG (·.push VO))).update L (WG (·.pop))).get? b=some o:=λb o hb e=>by
  rw[VC _ _ (Vq hb),VC _ _ (Vq hb)]
  exact e
 refine wpAny_bind <| wpAny_updateSeq hL1 rfl <| wpAny_updateSeq (hz:=by seq_fits) l2 rfl <| wpAny_pure ⟨Ye YW _,key _ _ _ (W.frame 0 _ _ st λb hb o e=>kpL b o (λz=>nf (z ▸ hb)) e) (λb o hb e=>kpL b o hb (kp b o e).2) l3⟩
end
section
open PySem PySem.Spec PyProof PyProof.Rows L2
theorem wg {xs:Array (Int×UC)}{acc:Array UC}{n:Nat}(hn:xs.size=n)(h:ItemsOf (λi v=>∃ y,xs[i]? = some y/\v=y.2) acc n):acc.toList=xs.toList.map (·.2):=by
 obtain ⟨h1,h2⟩:=h
 apply Y2
 intro i
 rw[VB,WK,WK]
 by_cases q:i < n
 ·have e:=VA (xs:=acc) (i:=i) (by omega)
  obtain ⟨y,e1,e2⟩:=h2 i _ e
  rw[e,e1,e2]
  rfl
 ·rw[Wv (by omega),Wv (by omega)]
  rfl
theorem JO {es:Array (Int×UC)}{acc:Array UC}{pl:List Nat}(pm:pl.Perm (Wo es.size))(h:ItemsOf (λi v=>∃ j y,pl[i]? = some j/\es[j]? = some y/\v=y.2) acc es.size):acc.toList.Perm (es.toList.map (·.2)):=by
 obtain ⟨h1,h2⟩:=h
 have hl:pl.length=es.size:=by rw[pm.length_eq,XZ]
 have e:acc.toList=pl.map λj=>(es[j]?.map (·.2)).getD .none:=by
  apply Y2
  intro i
  rw[VB,WK]
  by_cases q:i < es.size
  ·have e:=VA (xs:=acc) (i:=i) (by omega)
   obtain ⟨j,y,e0,e1,e2⟩:=h2 i _ e
   rw[e,e0,e2]
   simp[e1]
  ·rw[Wv (by omega),X3 (by omega)]
   rfl
 rw[e]
 refine (pm.map _).trans ?_
 have:(Wo es.size).map (λj=>(es[j]?.map (·.2)).getD VO)=es.toList.map (·.2):=by
  apply Y2
  intro i
  rw[VB,VB,WK (xs:=es)]
  by_cases q:i < es.size
  ·rw[List.getElem?_range q,VA q]
   simp[q]
  ·rw[X3 (by simpa using q),Wv (by omega)]
   rfl
 rw[this]
theorem Qk {prog:UT}{w:Va}{A:U9}(hA:A.handled=none){s:UE}{S L:Addr}{o:Obj}{es:Array (Int×UC)}{ep:Nat}{t:V8}(ho:s.heap.get? S=some o)(hc:o.cls=.type "set")(hd:o.data=.set es ep t)(ft:t.fits es.size=true)(zs:es.size<=sizeLine)
  (ld:t.led = !w.params.followText "set-order") (pl:es.size=0∨t.plain=false) (ne:L≠S) (hL:L < s.heap.objs.size) (E':UC->UE->Prop) (Q':UC->UE->Prop)
  (q:∀ (I:Addr) (h1:Heap) (d:Drawn) (fp:List Addr) (P:Nat->UC->Prop) (St:Nat->Heap->Prop),Walks prog w A I fp [I] es.size P St->St 0 h1->L ∉ fp->(∀ b o,s.heap.get? b=some o->b≠I/\h1.get? b=some o)->(∀ acc,ItemsOf P acc es.size->acc.toList.Perm (es.toList.map (·.2)))->Q' (.ref I) { s with heap:=h1,drawn:=d }):UU (U1 prog w) A (zaF (.ref S)) Q' E' s:=by
 have lS:S < s.heap.objs.size:=UO ho
 refine JQ ho hc hd ft zs (λc=>?_) λbt pl' d pm g eg=>?_
 ·by_cases bt:w.params.followText "set-order" = true
  ·refine q s.heap.objs.size _ s.drawn _ _ _ (CZ hA bt (I:=s.heap.objs.size) (S:=S) (UW lS) hd ft rfl) ⟨⟨_,UP _ rfl,rfl,rfl⟩,UD _ ho⟩ ?_ (λb o e=>⟨UW (UO e),UD _ e⟩) λacc h=>?_
   ·simp only[UQ,U2,or_false,not_or];exact ⟨UW hL,ne⟩
   ·rw[wg (by have:=(kJ (w.params.setOrder S ep) es).length_eq;simpa using this) h]
    exact (kJ _ _).map _
  ·have bt':w.params.followText "set-order" = false:=by simpa using bt
   have z1:es.size<=1:=by
    rcases c with c | c | c
    ·exact absurd c bt
    ·rcases pl with e | e
     ·omega
     ·rw[e] at c;cases c
    ·exact c
   refine q s.heap.objs.size _ s.drawn _ _ _ (F3 hA bt' (I:=s.heap.objs.size) (S:=S) (UW lS) hd ft rfl (by rw[ld,bt'];rfl) z1) ⟨⟨_,UP _ rfl,rfl,rfl⟩,UD _ ho⟩ ?_ (λb o e=>⟨UW (UO e),UD _ e⟩) λacc h=>?_
   ·simp only[UQ,U2,or_false,not_or];exact ⟨UW hL,ne⟩
   ·rw[wg rfl h]
 ·have eg1:s.heap.objs.size < g.objs.size:=by rw[eg,XU];omega
  have kg:∀ b o,s.heap.get? b=some o->g.get? b=some o:=λb o e=>by rw[eg];exact UD _ e
  have tg:g.get? s.heap.objs.size=some { cls:=.type "tuple", data:=.seq (pl'.map λj:Nat=>W3 j).toArray }:=by rw[eg];exact UP _ rfl
  refine q g.objs.size _ d _ _ _ (AB hA (I:=g.objs.size) (S:=S) (tp:=s.heap.objs.size) (UW (XX lS eg1)) (UW eg1) hd ft rfl rfl rfl pm) ⟨⟨_,UP _ rfl,rfl,rfl⟩,UD _ (kg _ _ ho),UD _ tg⟩ ?_ (λb o e=>⟨UW (XX (UO e) eg1),UD _ (kg _ _ e)⟩) λacc h=>JO pm h
  simp only[UQ,U2,or_false,not_or]
  exact ⟨UW (XX hL eg1),ne,UW hL⟩
end
section
open PySem PySem.Spec PyProof PyProof.Rows L2
theorem Bu {prog:UT}{w:Va}{A:U9}{E:UC->UE->Prop}(hA:A.handled=none){s:UE}{S:Addr}{o:Obj}{es:Array (Int×UC)}{ep:Nat}{t:V8}{K:UC->UE->Prop}(ho:s.heap.get? S=some o)(hc:o.cls=.type "set")(hd:o.data=.set es ep t)(ft:t.fits es.size=true)(zs:es.size<=sizeLine)
  (ld:t.led = !w.params.followText "set-order") (pl:es.size=0∨t.plain=false)
  (h:∀ h' tk d acc c,(∀ b o,s.heap.get? b=some o->h'.get? b=some o)->h'.get? s.heap.objs.size=some { cls:=.type "list", data:=.seq acc c }->acc.toList.Perm (es.toList.map (·.2))->K (.ref s.heap.objs.size) { s with heap:=h',toks:=tk,drawn:=d }):UU (U1 prog w) A (runValue (.builtin "proto.collect" { pos:=[.ref S] })) K E s:=by
 have lS:S < s.heap.objs.size:=UO ho
 refine wpAny_runValue <| codeAny_builtin F.entry_proto_collect ?_
 rw[Xn (A:=A) F.plain_proto_collect ⟨[.ref S],[]⟩]
 refine (show UU _ A.in1 (newList [] >>= λl=>again (.builtin "list.__iadd__" ⟨[l,.ref S],[]⟩)) _ _ s from wpAny_bind (wpAny_newList (wpAny_pure ⟨Ye zba _,codeAny_builtin F.entry_list_iadd ?_⟩)))
 rw[Xn (A:=A) zba ⟨[.ref s.heap.objs.size,.ref S],[]⟩]
 refine (show UU _ A.in1 (Xi (.ref s.heap.objs.size) (.ref S) (.ref s.heap.objs.size)) _ _ _ from ?_)
 have hL:(s.heap.push (Xz "list" ([]:List UC).toArray 0)).get? s.heap.objs.size=some { cls:=.type "list", data:=.seq #[] 0 }:=UP _ rfl
 have ho':(s.heap.push (Xz "list" ([]:List UC).toArray 0)).get? S=some o:=UD _ ho
 refine Mm (prog:=prog) (R:=λr s'=>match r with | .ok (.ret v)=>K v s' | .ok _=>False | .error e=>E e s') (s:={ s with heap:=s.heap.push (Xz "list" ([]:List UC).toArray 0) }) (res:=.ref s.heap.objs.size) (es:=es) hA zs (XO lS) (λE' Q' q=>Qk (A:=A.in1) hA (s:={ s with heap:=s.heap.push (Xz "list" ([]:List UC).toArray 0) }) (L:=s.heap.objs.size) ho' hc hd ft zs ld pl (XO lS) (UO hL) E' Q' q) ⟨o,ho',hc⟩ hL λh' tk d acc c kp hl pm=>?_
 exact h h' tk d acc c (λb o e=>kp b o (UW (UO e)) (UD _ e)) hl pm
theorem zm {prog:UT}{w:Va}{A:U9}{E:UC->UE->Prop}(hA:A.handled=none){s:UE}{S:Addr}{o:Obj}{es:Array (Int×UC)}{ep:Nat}{t:V8}{Q:List UC->UE->Prop}(ho:s.heap.get? S=some o)(hc:o.cls=.type "set")(hd:o.data=.set es ep t)(ft:t.fits es.size=true)(zs:es.size<=sizeLine)
  (ld:t.led = !w.params.followText "set-order") (pl:es.size=0∨t.plain=false)
  (h:∀ h' tk d vs,(∀ b o,s.heap.get? b=some o->h'.get? b=some o)->vs.Perm (es.toList.map (·.2))->Q vs { s with heap:=h',toks:=tk,drawn:=d }):UU (U1 prog w) A (collect (.ref S)) Q E s:=by
 unfold collect
 refine wpAny_bind (Bu hA ho hc hd ft zs ld pl λh' tk d acc c kp hl pm=>?_)
 exact wpAny_bind (wpAny_load hl (wpAny_pure (h h' tk d acc.toList kp pm)))
end
section
open PySem PySem.Spec PyProof PyProof.Rows L2
theorem F7 {vs us:List UC}(pm:vs.Perm us):∀ {ss:List Str},XW us ss->∃ ss1,XW vs ss1/\ss1.Perm ss:=by
 induction pm with
 | nil=>intro ss h;cases h;exact ⟨[],.nil,.refl _⟩
 | cons x _ ih=>
  intro ss h
  cases h with
  | cons y t h=>
  obtain ⟨r,h1,h2⟩:=ih h
  exact ⟨y::r,.cons y t h1,h2.cons y⟩
 | swap a b l=>
  intro ss h
  cases h with
  | cons y t h=>
  cases h with
  | cons y2 t2 h=>exact ⟨_,.cons y2 t2 (.cons y t h),.swap ..⟩
 | trans _ _ ih1 ih2=>
  intro ss h
  obtain ⟨r,h1,h2⟩:=ih2 h
  obtain ⟨r',h3,h4⟩:=ih1 h1
  exact ⟨r',h3,h4.trans h2⟩
theorem Ig {vs:List UC}{ss:List Str}(h:XW vs ss):vs.length=ss.length:=by
 induction h with
 | nil=>rfl
 | cons y t _ ih=>rw[UX,UX,ih]
theorem DG {prog:UT}{w:Va}{A:U9}{E:UC->UE->Prop}(hA:A.handled=none){s:UE}{S:Addr}{o:Obj}{es:Array (Int×UC)}{ep:Nat}{t:V8}{Q:UC->UE->Prop}{ss:List Str}(ho:s.heap.get? S=some o)(hc:o.cls=.type "set")(hd:o.data=.set es ep t)(ft:t.fits es.size=true)(few:es.size < 64)
  (ld:t.led = !w.params.followText "set-order") (pl:es.size=0∨t.plain=false) (hS:XW (es.toList.map (·.2)) ss)
  (h:∀ (g g1:Heap) tk d (out:Array UC) (n:Nat) (ss':List Str),(∀ b o,s.heap.get? b=some o->g.get? b=some o)->(∀ b o,g.get? b=some o->g1.get? b=some o)->g1.get? g.objs.size=some (Xz "list" out n)->XW out.toList ss'->ss'.Perm ss->sortedS ss'=true->Q (.ref g.objs.size) { s with heap:=g1,toks:=tk,drawn:=d }) :
  UU (U1 prog w) A (YO (Value.builtin "sorted") [.ref S]) Q E s:=by
 refine Calls.call_function_entry (b:=W0.«sorted») kind_sorted plain_sorted entry_sorted (args_sorted1 _) ?_
 refine (show UU _ _ (do checkCount "sorted" 1 1 1;let xs ← collect (.ref S);let z ← newList xs;let _ ← Y0 [z] (call (.builtin "list.sort") [z]);ret z) _ _ s from ?_)
 refine wpAny_bind (wpAny_pure (wpAny_bind (zm (A:=A.in1) hA ho hc hd ft (by rw[Xk];omega) ld pl λg tk d vs kp pm=>?_)))
 obtain ⟨s1,i1,i2⟩:=F7 pm hS
 have lv:vs.length < 64:=by rw[pm.length_eq,UJ,VS];exact few
 have at':(g.push (Xz "list" vs.toArray 0)).get? g.objs.size=some (Xz "list" vs.toArray 0):=UP _ rfl
 refine wpAny_bind (wpAny_newList (wpAny_bind (wpAny_holding (Vu slot_list_sort ⟨_,at',rfl⟩ entry_list_sort (list_sort_treeK strKind_oneLt at' i1.keysOf (λv₁ v₂ rest e=>keyKind_strs (by rw[← e];exact i1)) lv λst' hp hs=>⟨_,rfl,wpAny_pure ⟨_,rfl,?_⟩⟩) (args_list_sort _)))) (by rw[Xk];omega))
 obtain ⟨ss',a1,a2,a3⟩:=sorted_out_str i1 hp hs
 obtain ⟨⟨m,e⟩,old⟩:=sortedHeap_at (out:=Array.map (λx=>x.2) (arrOf st')) at'
 exact h g _ tk d _ m ss' kp old e a1 (a2.trans i2) a3
end
section
open PySem PySem.Spec PyProof PyProof.Rows L2
theorem zE {α:Type} [DecidableEq α]:∀ (D l:List α),D.Nodup->(∀ d∈D,d∈l)->l.length=D.length->l.Perm D:=by
 intro D
 induction D with
 | nil=>
  intro l _ _ hl
  rw[W8 hl]
 | cons d D ih=>
  intro l nd sub hl
  have ⟨n1,n2⟩:=Wc.mp nd
  have hd:=sub d UK
  refine (List.perm_cons_erase hd).trans ((ih (l.erase d) n2 (λx hx=>?_) ?_).cons d)
  ·exact (List.mem_erase_of_ne (show x≠d from λz=>n1 (by rw[← z];exact hx))).mpr (sub x (UN _ hx))
  ·rw[List.length_erase_of_mem hd,hl]
   rfl
theorem M4 {κ:Type} [DecidableEq κ]:∀ (ks σ:List κ) (k:κ),k∈ddS σ ks↔k∈σ∨k∈ks:=by
 intro ks
 induction ks with
 | nil=>intro σ k;unfold ddS;simp
 | cons a r ih=>
  intro σ k
  unfold ddS
  rw[ih]
  by_cases q:a∈σ
  ·rw[if_pos q,UQ]
   constructor
   ·rintro (h | h)
    ·exact .inl h
    ·exact .inr (.inr h)
   ·rintro (h | h | h)
    ·exact .inl h
    ·exact .inl (h ▸ q)
    ·exact .inr h
  ·rw[if_neg q,Vo,UZ,UQ,or_assoc]
theorem OB {κ:Type} [DecidableEq κ]:∀ (ks σ:List κ),σ.Nodup->(ddS σ ks).Nodup:=by
 intro ks
 induction ks with
 | nil=>intro σ h;exact h
 | cons a r ih=>
  intro σ h
  unfold ddS
  refine ih _ ?_
  by_cases q:a∈σ
  ·rw[if_pos q];exact h
  ·rw[if_neg q]
   refine Xj.mpr ⟨h,by simp,λx hx y hy e=>q ?_⟩
   rw[UZ] at hy
   rw[← hy,← e];exact hx
theorem KL {α β:Type} [DecidableEq α] [DecidableEq β] {f:α->β}(inj:∀ a b,f a=f b->a=b):∀ (ks σ:List α),ddS (σ.map f) (ks.map f)=(ddS σ ks).map f:=by
 intro ks
 induction ks with
 | nil=>intro σ;rfl
 | cons a r ih=>
  intro σ
  rw[Vt]
  unfold ddS
  have:(f a∈σ.map f)↔a∈σ:=⟨λh=>by obtain ⟨b,hb,e⟩:=U3.mp h;rw[inj _ _ e] at hb;exact hb,λh=>U3.mpr ⟨a,h,rfl⟩⟩
  by_cases q:a∈σ
  ·rw[if_pos q,if_pos (this.mpr q),ih]
  ·rw[if_neg q,if_neg (λz=>q (this.mp z)),← ih,Vc];rfl
theorem K0:∀ (l:List (Int×UC)),(∀ e∈l,∃ y t,e.2=.str y t)->∃ ss,XW (l.map (·.2)) ss/\∀ y t,(∃ e∈l,e.2=.str y t)->y∈ss:=by
 intro l
 induction l with
 | nil=>intro _;exact ⟨[],.nil,λy t ⟨e,h,_⟩=>nomatch h⟩
 | cons e l ih=>
  intro h
  obtain ⟨ss,h1,h2⟩:=ih λe he=>h e (UN _ he)
  obtain ⟨y,t,e1⟩:=h e UK
  refine ⟨y::ss,?_,λy' t' ⟨e',he',q⟩=>?_⟩
  ·rw[Vt,e1];exact .cons y t h1
  ·rcases UQ.mp he' with (rfl | he')
   ·rw[e1] at q;cases q;exact UK
   ·exact UN _ (h2 y' t' ⟨e',he',q⟩)
theorem Gn {prog:UT}{w:Va}{led:Bool}{h:Heap}{a:Addr}{D:List Str}(nd:D.Nodup)(hm:rB (eV prog w) led h a (D.map XJ)) :
  ∃ o es ep t ss,h.get? a=some o/\o.cls=.type "set" /\ o.data=.set es ep t/\t.fits es.size=true/\es.size=D.length/\t.led=led/\(es.size=0∨t.plain=false)/\XW (es.toList.map (·.2)) ss/\ss.Perm D:=by
 obtain ⟨o,es,ep,t,ho,ex,hd,el,ks,zs,ft,zl,ld,pl⟩:=hm
 rw[UJ] at zl
 have all:∀ e∈es.toList,∃ y t,e.2=.str y t:=λe he=>by
  obtain ⟨⟨k,hk,_⟩,_⟩:=el e he
  have:=(ks k).mpr ⟨e,he,hk⟩
  obtain ⟨y,_,rfl⟩:=U3.mp this
  rcases bK (show pK (.inr y) e.2=true from hk) with ⟨i,t,e1,e2⟩ | ⟨x,t,e1,e2⟩
  ·cases e1
  ·exact ⟨x,t,e2⟩
 obtain ⟨ss,h1,h2⟩:=K0 es.toList all
 refine ⟨o,es,ep,t,ss,ho,ex.1,hd,ft,zl,ld,pl,h1,zE D ss nd (λd hd'=>?_) ?_⟩
 ·obtain ⟨e,he,hk⟩:=(ks (.inr d)).mp (U3.mpr ⟨d,hd',rfl⟩)
  rcases bK (show pK (.inr d) e.2=true from hk) with ⟨i,t,e1,e2⟩ | ⟨x,t,e1,e2⟩
  ·cases e1
  ·cases e1;exact h2 d t ⟨e,he,e2⟩
 ·rw[← Ig h1,UJ,VS,zl]
end
section
open PySem PySem.Spec PyProof PyProof.Rows L2
abbrev ddT (ss:List Str):List Str:=ddS [] ss
theorem HE (ss:List Str):(ddT ss).Nodup:=OB ss [] .nil
theorem MB {ss:List Str}{s:Str}:s∈ddT ss↔s∈ss:=by rw[ddT,M4];simp
theorem Fh {X:Cx}{pins:List (Addr×Obj)}{σ:List (Option V)}{H:Hp}{s:UE}{d:Drawn}(I:Inv X pins σ H s):Inv X pins σ H { s with drawn:=d }:=⟨I.ok,I.os,I.bare,I.base,I.loc,I.cell,I.free,I.jG,I.pin,I.hok,I.len⟩
theorem Fe:∀ {us:List UC} {ss:List Str},XW us ss->∀ u∈us,u.scannable=true/\Z6 8 u=pure false:=by
 intro us ss h
 induction h with
 | nil=>intro u hu;cases hu
 | cons y t _ ih=>
  intro u hu
  rcases UQ.mp hu with (rfl | hu)
  ·exact ⟨rfl,hashByValue.eq_5 ..⟩
  ·exact ih u hu
section
variable {X:Cx} {e:U5} {x y:Str} {p p' pos cpos:Pos}
theorem Hl {te:TE}{pins:List (Addr×Obj)}{σ:L2.St}{H:Hp}{s:UE}{R:UC->UE->Prop}(hc:X.calm=true)(hg:Gl X y)(hm:X.mg y=none)(hv:Vm y=some (.type "set"))(ho:PE X e te)(I:Inv X pins σ H s)
  {K:VK} (h:te σ H K) (hk:∀ v H1,K v H1->∃ (l:Addr) (ss:List Str),v=.ref l/\SqL X.K H1 l (ss.map V.str)/\ss.length < 4000/\∀ S s2,Inv X pins σ H1 s2->rB (eV X.prog X.w) (!X.w.params.followText "set-order") s2.heap S ((ddT ss).map XJ)->R (.ref S) s2)
  (hn:y ≠ "__name__" := by decide) (hdb:(y == ("__debug__" : Str))=false:=by decide)
  (he:UI [e] X.env=(false,VI e X.env)::UI [] X.env:=by rfl) (hpl:(Vr cpos (UI [] X.env)).any (·.1)=false:=by rfl) (hnil:Vr cpos (UI [] X.env)=[]:=by rfl) :
  UU (U1 X.prog X.w) X.A (VI (.Call (.Name y p') [e] [] cpos) X.env) R X.xe s:=by
 refine WE (je I hg hm hv ?_ hn hdb)
 refine V3 ?_ he hpl
 rw[he]
 show UU _ _ (zbC ((false,VI _ X.env)::Vr cpos (UI [] X.env))) _ _ s
 rw[hnil]
 refine Xx (thn (ho pins s σ H _ I h) λv s1 ⟨w1,H1,I1,r1,hK⟩=>XQ ?_)
 obtain ⟨l,ss,ey,sq,hz,q⟩:=hk _ _ hK
 subst ey
 cases (show v=Vs l from r1)
 obtain ⟨its,rv,pl,_⟩:=I1.list sq
 obtain ⟨o,e1,e2,n,e3⟩:=pl.isList
 have ri:zbM (eV X.prog X.w) (ss.map XJ) its:=vW (by rw[Vg];exact rv)
 refine uO (I1.ok.hd hc) e1 e2 e3 (by simpa using ri) (by simpa using Fe (yC rv)) (by rw[UJ];unfold scanBound;omega) λh' tk hq kp=>?_
 refine q _ _ (I1.kept (t':=tk) kp) ?_
 rw[show ddS ([]:List Key) (ss.map XJ)=(ddT ss).map XJ from KL (σ:=[]) (λa b e=>by injection e) ss] at hq
 exact hq
theorem CA {te:TE}(hc:X.calm=true)(hg:Gl X x)(hm:X.mg x=none)(hv:Vm x=some (.builtin "sorted"))(hg':Gl X y)(hm':X.mg y=none)(hv':Vm y=some (.type "set"))(ho:PE X e te)
  (hn:x ≠ "__name__" := by decide) (hdb:(x == ("__debug__" : Str))=false:=by decide) (hn':y ≠ "__name__" := by decide) (hdb':(y == ("__debug__" : Str))=false:=by decide)
  (he:UI [e] X.env=(false,VI e X.env)::UI [] X.env:=by rfl) (hpl:(Vr cpos (UI [] X.env)).any (·.1)=false:=by rfl) (hnil:Vr cpos (UI [] X.env)=[]:=by rfl)
  (he':UI [.Call (.Name y p') [e] [] cpos] X.env=(false,VI (.Call (.Name y p') [e] [] cpos) X.env)::UI [] X.env:=by rfl) (hpl':(Vr pos (UI [] X.env)).any (·.1)=false:=by rfl) (hnil':Vr pos (UI [] X.env)=[]:=by rfl) :
  PE X (.Call (.Name x p) [.Call (.Name y p') [e] [] cpos] [] pos) (λσ H Q=>te σ H λv H1=>∃ (l:Addr) (ss:List Str),v=.ref l/\SqL X.K H1 l (ss.map V.str)/\(ss.length < 4000/\(ddT ss).length < 64)/\∀ ss':List Str,ss'.Perm (ddT ss)->ss'.Pairwise (λa b=>ltS b a=false)->∀ q,H1 q=none->Q (.ref q) (upd H1 q (.lst (ss'.map V.str)))):=by
 intro pins s σ H Q I h
 refine WE (je I hg hm hv ?_ hn hdb)
 refine W4 ?_ he' hpl'
 rw[he']
 show UU _ _ (zbC ((false,VI _ X.env)::Vr pos (UI [] X.env))) _ _ s
 rw[hnil']
 refine Xx (Hl hc hg' hm' hv' ho I h (λv H1 ⟨l,ss,e1,sq,⟨z1,z2⟩,q⟩=>⟨l,ss,e1,sq,z1,λS s2 I2 hq=>XQ ?_⟩) hn' hdb' he hpl hnil)
 obtain ⟨o,es,ep,t,us,a1,a2,a3,a4,a5,a6,a7,a8,a9⟩:=Gn (HE ss) hq
 refine DG (I2.ok.hd hc) a1 a2 a3 a4 (by omega) a6 a7 a8 λg g1 tk d out n ss' k1 k2 k3 k4 k5 k6=>?_
 have I3:Inv X pins σ H1 { s2 with heap:=g }:=I2.kept (t':=s2.toks) k1
 have I4:=I3.laid (t':=tk) (h':=g1) (o:=.lst (ss'.map V.str)) k2 (U0 _) (a:=g.objs.size) ⟨by
  have:ss'.length=(ddT ss).length:=(k5.trans a9).length_eq
  rw[UJ,this,Xk];omega,out.toList,n,gJ k4,by simpa[Xz] using k3⟩
 exact ⟨.ref _,_,Fh (d:=d) I4,rfl,q ss' (k5.trans a9) (wL _ k6) _ (I3.hok.fresh (U0 _))⟩
theorem Gi {te:TE}(hc:X.calm=true)(hg:Gl X x)(hm:X.mg x=none)(hv:Vm x=some (.builtin "len"))(hg':Gl X y)(hm':X.mg y=none)(hv':Vm y=some (.type "set"))(ho:PE X e te)
  (hn:x ≠ "__name__" := by decide) (hdb:(x == ("__debug__" : Str))=false:=by decide) (hn':y ≠ "__name__" := by decide) (hdb':(y == ("__debug__" : Str))=false:=by decide)
  (he:UI [e] X.env=(false,VI e X.env)::UI [] X.env:=by rfl) (hpl:(Vr cpos (UI [] X.env)).any (·.1)=false:=by rfl) (hnil:Vr cpos (UI [] X.env)=[]:=by rfl)
  (he':UI [.Call (.Name y p') [e] [] cpos] X.env=(false,VI (.Call (.Name y p') [e] [] cpos) X.env)::UI [] X.env:=by rfl) (hpl':(Vr pos (UI [] X.env)).any (·.1)=false:=by rfl) (hnil':Vr pos (UI [] X.env)=[]:=by rfl) :
  PE X (.Call (.Name x p) [.Call (.Name y p') [e] [] cpos] [] pos) (λσ H Q=>te σ H λv H1=>∃ (l:Addr) (ss:List Str),v=.ref l/\SqL X.K H1 l (ss.map V.str)/\ss.length < 4000/\Q (.int (ddT ss).length) H1):=by
 intro pins s σ H Q I h
 refine WE (je I hg hm hv ?_ hn hdb)
 refine W4 ?_ he' hpl'
 rw[he']
 show UU _ _ (zbC ((false,VI _ X.env)::Vr pos (UI [] X.env))) _ _ s
 rw[hnil']
 refine Xx (Hl hc hg' hm' hv' ho I h (λv H1 ⟨l,ss,e1,sq,z1,q⟩=>⟨l,ss,e1,sq,z1,λS s2 I2 hq=>XQ ?_⟩) hn' hdb' he hpl hnil)
 obtain ⟨o,es,ep,t,a1,ex,a3,_,_,zs,a4,a5,_⟩:=hq
 rw[UJ] at a5
 have zz:(es.size:Int) < 2 ^ 63:=by unfold scanBound at zs;omega
 refine call_len_set a1 ex a3 a4 zz ?_
 rw[a5]
 exact ⟨.int _,H1,I2.kept (h':=s2.heap) λ_ _ e=>e,⟨_,rfl⟩,q⟩
def kLz (x:D)(f:List D->Prop):Prop:=match x with
 | .ls ds=>f ds
 | _=>False
def tJ (Te:ETr):ETr:=λρ μ Q=>Te ρ μ λx μ1=>kLz x λxs=>∃ ss:List Str,(xs=ss.map .str/\ss.length < 4000/\(ddT ss).length < 64)/\∀ ss':List Str,ss'.Perm (ddT ss)->ss'.Pairwise (λa b=>ltS b a=false)->Q (.ls (ss'.map .str)) μ1
def xc (Te:ETr):ETr:=λρ μ Q=>Te ρ μ λx μ1=>kLz x λxs=>∃ ss:List Str,(xs=ss.map .str/\ss.length < 4000)/\Q (.int (ddT ss).length) μ1
theorem CP {Te:ETr}(hc:X.calm=true)(hg:Gl X x)(hm:X.mg x=none)(hv:Vm x=some (.builtin "sorted"))(hg':Gl X y)(hm':X.mg y=none)(hv':Vm y=some (.type "set"))(ho:LE X e Te)
  (hn:x ≠ "__name__" := by decide) (hdb:(x == ("__debug__" : Str))=false:=by decide) (hn':y ≠ "__name__" := by decide) (hdb':(y == ("__debug__" : Str))=false:=by decide)
  (he:UI [e] X.env=(false,VI e X.env)::UI [] X.env:=by rfl) (hpl:(Vr cpos (UI [] X.env)).any (·.1)=false:=by rfl) (hnil:Vr cpos (UI [] X.env)=[]:=by rfl)
  (he':UI [.Call (.Name y p') [e] [] cpos] X.env=(false,VI (.Call (.Name y p') [e] [] cpos) X.env)::UI [] X.env:=by rfl) (hpl':(Vr pos (UI [] X.env)).any (·.1)=false:=by rfl) (hnil':Vr pos (UI [] X.env)=[]:=by rfl) :
  LE X (.Call (.Name x p) [.Call (.Name y p') [e] [] cpos] [] pos) (tJ Te):=by
 obtain ⟨te,pe,se⟩:=ho.ex
 refine ⟨_,mf (CA hc hg hm hv hg' hm' hv' pe hn hdb hn' hdb' he hpl hnil he' hpl' hnil'),λσ H ρ μ Q Q' rl h k=>se σ H ρ μ _ _ rl h λv H1 dx μ1 t1 m1 p1 h1=>?_⟩
 cases p1 with
 | @ls q xs ds sq l=>
  obtain ⟨ss,⟨rfl,z⟩,h2⟩:=h1
  cases DpL.gJ l
  exact ⟨q,ss,rfl,sq.sq,z,λss' a2 a3 z hz=>mx m1 (DpL.strs ss') (h2 ss' a2 a3) (k.go t1) hz⟩
 | _=>exact UG h1
theorem FA {Te:ETr}(hc:X.calm=true)(hg:Gl X x)(hm:X.mg x=none)(hv:Vm x=some (.builtin "len"))(hg':Gl X y)(hm':X.mg y=none)(hv':Vm y=some (.type "set"))(ho:LE X e Te)
  (hn:x ≠ "__name__" := by decide) (hdb:(x == ("__debug__" : Str))=false:=by decide) (hn':y ≠ "__name__" := by decide) (hdb':(y == ("__debug__" : Str))=false:=by decide)
  (he:UI [e] X.env=(false,VI e X.env)::UI [] X.env:=by rfl) (hpl:(Vr cpos (UI [] X.env)).any (·.1)=false:=by rfl) (hnil:Vr cpos (UI [] X.env)=[]:=by rfl)
  (he':UI [.Call (.Name y p') [e] [] cpos] X.env=(false,VI (.Call (.Name y p') [e] [] cpos) X.env)::UI [] X.env:=by rfl) (hpl':(Vr pos (UI [] X.env)).any (·.1)=false:=by rfl) (hnil':Vr pos (UI [] X.env)=[]:=by rfl) :
  LE X (.Call (.Name x p) [.Call (.Name y p') [e] [] cpos] [] pos) (xc Te):=by
 obtain ⟨te,pe,se⟩:=ho.ex
 refine ⟨_,Gi hc hg hm hv hg' hm' hv' pe hn hdb hn' hdb' he hpl hnil he' hpl' hnil',λσ H ρ μ Q Q' rl h k=>se σ H ρ μ _ _ rl h λv H1 dx μ1 t1 m1 p1 h1=>?_⟩
 cases p1 with
 | @ls q xs ds sq l=>
  obtain ⟨ss,⟨rfl,z⟩,h2⟩:=h1
  cases DpL.gJ l
  exact ⟨q,ss,rfl,sq.sq,z,k _ H1 _ μ1 t1 m1 (.int _) h2⟩
 | _=>exact UG h1
end
end
section
open PySem PySem.Spec PyProof.Rows L2
section
variable {X:Cx} {a b:U5} {Ta Tb:ETr} {pos:Pos}
end
end
section
open PySem PySem.Spec PyProof.Rows L2
end
section
open PySem PySem.Spec PyProof.Rows L2
def k3 (ds:List D)(f:D->D->D->Prop):Prop:=match ds with
 | [u,v,w]=>f u v w
 | _=>False
end
theorem dF (i:Decidable (OF "still" = OF "step")):@decide (OF "still" = OF "step") i=false:=by cases i with | isTrue h=>exact absurd h (by rw[hE];exact not_false) | isFalse _=>rfl
theorem cM (i:Decidable (OF "still" = OF "swell")):@decide (OF "still" = OF "swell") i=false:=by cases i with | isTrue h=>exact absurd h (by rw[gh];exact not_false) | isFalse _=>rfl
theorem dN (i:Decidable (OF "still" = OF "heed")):@decide (OF "still" = OF "heed") i=false:=by cases i with | isTrue h=>exact absurd h (by rw[gT];exact not_false) | isFalse _=>rfl
theorem du (i:Decidable (OF "still" = OF "calm")):@decide (OF "still" = OF "calm") i=false:=by cases i with | isTrue h=>exact absurd h (by rw[g9];exact not_false) | isFalse _=>rfl
theorem dH (i:Decidable (OF "step" = OF "still")):@decide (OF "step" = OF "still") i=false:=by cases i with | isTrue h=>exact absurd h (by rw[u0];exact not_false) | isFalse _=>rfl
theorem dO (i:Decidable (OF "step" = OF "swell")):@decide (OF "step" = OF "swell") i=false:=by cases i with | isTrue h=>exact absurd h (by rw[e6];exact not_false) | isFalse _=>rfl
theorem eL (i:Decidable (OF "step" = OF "heed")):@decide (OF "step" = OF "heed") i=false:=by cases i with | isTrue h=>exact absurd h (by rw[d7];exact not_false) | isFalse _=>rfl
theorem eJ (i:Decidable (OF "step" = OF "calm")):@decide (OF "step" = OF "calm") i=false:=by cases i with | isTrue h=>exact absurd h (by rw[iU];exact not_false) | isFalse _=>rfl
theorem cR (i:Decidable (OF "swell" = OF "still")):@decide (OF "swell" = OF "still") i=false:=by cases i with | isTrue h=>exact absurd h (by rw[rX];exact not_false) | isFalse _=>rfl
theorem dM (i:Decidable (OF "swell" = OF "step")):@decide (OF "swell" = OF "step") i=false:=by cases i with | isTrue h=>exact absurd h (by rw[uF];exact not_false) | isFalse _=>rfl
theorem dA (i:Decidable (OF "swell" = OF "heed")):@decide (OF "swell" = OF "heed") i=false:=by cases i with | isTrue h=>exact absurd h (by rw[dq];exact not_false) | isFalse _=>rfl
theorem dJ (i:Decidable (OF "swell" = OF "calm")):@decide (OF "swell" = OF "calm") i=false:=by cases i with | isTrue h=>exact absurd h (by rw[g6];exact not_false) | isFalse _=>rfl
theorem dE (i:Decidable (OF "heed" = OF "still")):@decide (OF "heed" = OF "still") i=false:=by cases i with | isTrue h=>exact absurd h (by rw[vq];exact not_false) | isFalse _=>rfl
theorem d8 (i:Decidable (OF "heed" = OF "step")):@decide (OF "heed" = OF "step") i=false:=by cases i with | isTrue h=>exact absurd h (by rw[xy];exact not_false) | isFalse _=>rfl
theorem dI (i:Decidable (OF "heed" = OF "swell")):@decide (OF "heed" = OF "swell") i=false:=by cases i with | isTrue h=>exact absurd h (by rw[lW];exact not_false) | isFalse _=>rfl
theorem dX (i:Decidable (OF "heed" = OF "calm")):@decide (OF "heed" = OF "calm") i=false:=by cases i with | isTrue h=>exact absurd h (by rw[jj];exact not_false) | isFalse _=>rfl
theorem dB (i:Decidable (OF "calm" = OF "still")):@decide (OF "calm" = OF "still") i=false:=by cases i with | isTrue h=>exact absurd h (by rw[uv];exact not_false) | isFalse _=>rfl
theorem eN (i:Decidable (OF "calm" = OF "step")):@decide (OF "calm" = OF "step") i=false:=by cases i with | isTrue h=>exact absurd h (by rw[yt];exact not_false) | isFalse _=>rfl
theorem dG (i:Decidable (OF "calm" = OF "swell")):@decide (OF "calm" = OF "swell") i=false:=by cases i with | isTrue h=>exact absurd h (by rw[lP];exact not_false) | isFalse _=>rfl
theorem dZ (i:Decidable (OF "calm" = OF "heed")):@decide (OF "calm" = OF "heed") i=false:=by cases i with | isTrue h=>exact absurd h (by rw[xO];exact not_false) | isFalse _=>rfl
theorem mR (a:Str)(i:Decidable (a=a)):@decide (a=a) i=true:=by cases i with | isTrue _=>rfl | isFalse h=>exact absurd rfl h
theorem IsPart.of_eq {a b c d x y:Int}(h:IsPart a b x y)(hb:0 < b)(hd:0 < d)(e:a*d=c*b):IsPart c d x y:=by
 have xd:x*d=c*y:=by
  refine Int.eq_of_mul_eq_mul_right (a:=b) (by omega) ?_
  calc x*d*b=(x*b)*d:=by ac_rfl
   _=(a*y)*d:=by rw[h.e]
   _=(a*d)*y:=by ac_rfl
   _=(c*b)*y:=by rw[e]
   _=c*y*b:=by ac_rfl
 have y0:=h.q0
 have dx:x ∣ c:=by
  have:x ∣ y*c:=⟨d,by rw[zbb y c];exact xd.symm⟩
  have h':=YE.mpr this
  rw[h.g] at h'
  simpa using h'
 have dy:y ∣ d:=by
  have:y ∣ x*d:=⟨c,by rw[xd,zbb]⟩
  have h':=YE.mpr this
  rw[zcd,h.g] at h'
  simpa using h'
 refine ⟨h.q0,h.g,xd,?_,zb6 (by omega) (ZV.mpr dy)⟩
 by_cases hc:c=0
 ·subst hc
  have:x=0:=by
   rcases Int.mul_eq_zero.mp (show x*d=0 by rw[xd,Int.zero_mul]) with z | z
   ·exact z
   ·omega
  rw[this];exact U0 _
 ·exact zb6 (by omega) (ZV.mpr dx)
structure Vl (d:D) (a b:Int):Prop where
 ex:∃ p q,d=fr p q/\IsPart a b p q
 b0:0 < b
theorem Vl.of_eq {d:D}{a b a' b':Int}(h:Vl d a b)(hb:0 < b')(e:a*b'=a'*b):Vl d a' b':=by
 obtain ⟨⟨p,q,rfl,P⟩,b0⟩:=h
 exact ⟨⟨p,q,rfl,P.of_eq b0 hb e⟩,hb⟩
def Le (a A:Int):Prop:=-A<=a/\a<=A
theorem Le.mono {a A B:Int}(h:Le a A)(hb:A<=B):Le a B:=⟨by have:=h.1;omega,by have:=h.2;omega⟩
theorem Le.neg {a A:Int}(h:Le a A):Le (-a) A:=⟨by have:=h.2;omega,by have:=h.1;omega⟩
theorem Le.abs {a A:Int}(h:Le a A):(a.natAbs:Int)<=A:=by have:=h.1;have:=h.2;omega
theorem Le.Uy {a A:Int}(h:(a.natAbs:Int)<=A):Le a A:=⟨by omega,by omega⟩
abbrev Bd (a:Int):Prop:=Le a 1000000000000000000000000000000
theorem Bd.m {a:Int}(h:Bd a):bE a:=by have:=h.1;have:=h.2;unfold bE;omega
theorem Bd.mul {a b:Int}(h:Bd a)(k:Bd b):MulOk a b:=.inr ⟨h.m,k.m⟩
inductive Wd | iw | step | jn | yL | calm
 deriving DecidableEq
structure RN where
 wd:Wd
 p:Int
 q:Int
 x:Int
 y:Int
 a:Int
 b:Int
 l:Int
 h:Int
 r:Int
 s:Int
def Wd.str:Wd->Str
 | .iw=>OF "still"
 | .step=>OF "step"
 | .jn=>OF "swell"
 | .yL=>OF "heed"
 | .calm=>OF "calm"
def RN.toD (R:RN):D:=match R.wd with
 | .iw=>.tup [.str "still", fr R.p R.q]
 | .step=>.tup [.str "step", fr R.p R.q,fr R.x R.y,fr R.a R.b,fr R.r R.s]
 | .jn=>.tup [.str "swell", fr R.p R.q,fr R.x R.y,fr R.a R.b,fr R.r R.s]
 | .yL=>.tup [.str "heed", fr R.p R.q,fr R.x R.y,fr R.a R.b,fr R.r R.s]
 | .calm=>.tup [.str "calm", fr R.p R.q,fr R.x R.y,.int R.l,.int R.h,fr R.r R.s]
structure RN.Ok (R:RN):Prop where
 w:FrB 1 60 R.p R.q
 t:FrB 1 60 R.r R.s
 wt:R.p*R.s<=R.r*R.q
 u:FrA 0 60 R.x R.y
 u1:R.wd=.jn->R.y < R.x
 g:FrA 0 1 R.a R.b
 d1:R.wd=.step∨R.wd=.jn->R.a < R.b
 l0:0<=R.l
 lh:R.l<=R.h
 h1:R.h<=60
 st:R.wd=.iw->R.r=R.p/\R.s=R.q
structure Hd where
 good:Int
 mark:Int
 HI:Int
 wt:Int
structure Hd.Ok (h:Hd):Prop where
 g0:0<=h.good
 g1:h.good<=1000000
 m0:0<=h.mark
 m1:h.mark<=1000000
 l0:0<=h.HI
 l1:h.HI<=1000000
 w0:0<=h.wt
def Hd.toD (h:Hd):D:=.tup [.int h.good,.int h.mark,.int h.HI,.int h.wt]
def Hd.bad (h:Hd):Int:=h.mark+h.HI
def Hd.many (h:Hd):Int:=h.good+h.bad
def RN.idle (R:RN)(h:Hd):Prop:=R.wd=.iw∨h.good+h.mark+h.HI=0
instance (R:RN) (h:Hd):Decidable (R.idle h):=by unfold RN.idle;infer_instance
local macro_rules | `(tactic| walk_at "rd")=>zzS "L3.ah L3.TC L3.aq L3.TUn L3.dD L3.Am L3.mS L3.TB L3.xw L3.TOr L3.bL L3.oo L3.gu L3.ar L3.af L3.bw L3.fb L3.mh L3.ao L3.aU L3.aD L3.C1 L3.GY L3.fA L3.aK L3.J9 L3.bp L3.ax L3.aZ L3.Di L3.eT L3.oN L3.iI L3.fk L3.cp L3.ka L3.ml L3.fe L3.Ry L3.ILs L3.IG L3.HP L3.Jc L3.HH L3.Hh L3.CN L3.qP L3.Cd L3.J1 L3.CC L3.xt L3.DZ L3.tN L3.wQ L3.yj L3.xP L3.xl L3.mH L3.ma L3.uS L3.rT L3.tM L3.rz L3.sM L3.tZ L3.sE L3.ue L3.tf L3.rg L3.TSl L3.ONo L3.mP L3.Ia L3.JE L3.HB L3.HD L3.G2 L3.IH L3.Dx L3.Cn L3.Hw L3.Hc L3.Ko L3.sH L3.uq L3.tP L3.Dg L3.Cc L3.CY L3.C4 L3.DA L3.CW L3.Dv L3.DE L3.Cr L3.Jz L3.Kf L3.Ie L3.Kg L3.Ky L3.Ik L3.mO L3.Ek L3.Iu L3.Co L3.C6 L3.C9 L3.CO L3.Cj L3.BW L3.DS L3.BS L3.CS L3.Cq L3.lk L3.ini zcp VQ Vb zbq zcq WD WN za0 zau Za L3.Eb L3.Eo L3.Ea L3.EG L3.EL L3.ER L3.Eh L3.Ep L3.EC XG Wj L3.bh L3.lF ZF Zi if_true if_false true_and and_true zav Z2 Z3 Zj Yh ZK decide_eq_true_eq W9 ite_false ite_true ne_eq not_false_eq_true ZL zaw zax zay zaz zaA za1 L3.okD L3.ck L3.eqD L3.hX zaB Zb U7 L3.jJ L3.iP decide_true decide_false zcf zas zcg zaD WJ U6 and_self L3.dF L3.cM L3.dN L3.du L3.dH L3.dO L3.eL L3.eJ L3.cR L3.dM L3.dA L3.dJ L3.dE L3.d8 L3.dI L3.dX L3.dB L3.eN L3.dG L3.dZ L3.mR L3.oE L3.rh L3.nY L3.tI L3.sS L3.i8 L3.ja L3.jg L3.iE L3.iK L3.iY L3.jc"
theorem RN.tup (R:RN)(hst:R.wd=.iw->R.r=R.p/\R.s=R.q):∃ xs,R.toD=.tup xs/\xs[0]? = some (.str R.wd.str)/\xs[1]? = some (fr R.p R.q)/\xs[xs.length - 1]? = some (fr R.r R.s)/\xs≠[]:=by
 obtain ⟨wd,p,q,x,y,a,b,l,h,r,s⟩:=R
 cases wd
 ·obtain ⟨e1,e2⟩:=hst rfl
  dsimp only at e1 e2
  subst e1 e2
  exact ⟨_,rfl,rfl,rfl,rfl,nofun⟩
 all_goals exact ⟨_,rfl,rfl,rfl,rfl,nofun⟩
def kLs (x:D)(f:List D->Prop):Prop:=match x with
 | .ls ds=>f ds
 | _=>False
def gZ (sp:FSp)(ds:List D)(μ:Mu)(Q:DK):Prop:=sp ds μ Q
def LEN (ds:List D)(P:Prop):Prop:=ds.length<=1000000/\P
theorem OI (d:D)(r:ST)(μ:Mu)(Q:DK):ah 0 (some d::r) μ Q=Q d μ:=propext UH
theorem Mz (x0:Option D)(r:ST)(d:D)(μ:Mu)(k:ST->Mu->Prop):ax 0 d (x0::r) μ k=k (some d::r) μ:=propext UH
theorem P9 (x0:Option D)(d:D)(r:ST)(μ:Mu)(Q:DK):ah 1 (x0::some d::r) μ Q=Q d μ:=propext UH
theorem Mk (x0 x1:Option D)(r:ST)(d:D)(μ:Mu)(k:ST->Mu->Prop):ax 1 d (x0::x1::r) μ k=k (x0::some d::r) μ:=propext UH
theorem Oi (x0 x1:Option D)(d:D)(r:ST)(μ:Mu)(Q:DK):ah 2 (x0::x1::some d::r) μ Q=Q d μ:=propext UH
theorem LN (x0 x1 x2:Option D)(r:ST)(d:D)(μ:Mu)(k:ST->Mu->Prop):ax 2 d (x0::x1::x2::r) μ k=k (x0::x1::some d::r) μ:=propext UH
theorem PJ (x0 x1 x2:Option D)(d:D)(r:ST)(μ:Mu)(Q:DK):ah 3 (x0::x1::x2::some d::r) μ Q=Q d μ:=propext UH
theorem Lu (x0 x1 x2 x3:Option D)(r:ST)(d:D)(μ:Mu)(k:ST->Mu->Prop):ax 3 d (x0::x1::x2::x3::r) μ k=k (x0::x1::x2::some d::r) μ:=propext UH
theorem Ph (x0 x1 x2 x3:Option D)(d:D)(r:ST)(μ:Mu)(Q:DK):ah 4 (x0::x1::x2::x3::some d::r) μ Q=Q d μ:=propext UH
theorem KN (x0 x1 x2 x3 x4:Option D)(r:ST)(d:D)(μ:Mu)(k:ST->Mu->Prop):ax 4 d (x0::x1::x2::x3::x4::r) μ k=k (x0::x1::x2::x3::some d::r) μ:=propext UH
theorem PN (x0 x1 x2 x3 x4:Option D)(d:D)(r:ST)(μ:Mu)(Q:DK):ah 5 (x0::x1::x2::x3::x4::some d::r) μ Q=Q d μ:=propext UH
theorem LJ (x0 x1 x2 x3 x4 x5:Option D)(r:ST)(d:D)(μ:Mu)(k:ST->Mu->Prop):ax 5 d (x0::x1::x2::x3::x4::x5::r) μ k=k (x0::x1::x2::x3::x4::some d::r) μ:=propext UH
theorem PH (x0 x1 x2 x3 x4 x5:Option D)(d:D)(r:ST)(μ:Mu)(Q:DK):ah 6 (x0::x1::x2::x3::x4::x5::some d::r) μ Q=Q d μ:=propext UH
theorem Mp (x0 x1 x2 x3 x4 x5 x6:Option D)(r:ST)(d:D)(μ:Mu)(k:ST->Mu->Prop):ax 6 d (x0::x1::x2::x3::x4::x5::x6::r) μ k=k (x0::x1::x2::x3::x4::x5::some d::r) μ:=propext UH
theorem Of (x0 x1 x2 x3 x4 x5 x6:Option D)(d:D)(r:ST)(μ:Mu)(Q:DK):ah 7 (x0::x1::x2::x3::x4::x5::x6::some d::r) μ Q=Q d μ:=propext UH
theorem KG (x0 x1 x2 x3 x4 x5 x6 x7:Option D)(r:ST)(d:D)(μ:Mu)(k:ST->Mu->Prop):ax 7 d (x0::x1::x2::x3::x4::x5::x6::x7::r) μ k=k (x0::x1::x2::x3::x4::x5::x6::some d::r) μ:=propext UH
theorem QB (x0 x1 x2 x3 x4 x5 x6 x7:Option D)(d:D)(r:ST)(μ:Mu)(Q:DK):ah 8 (x0::x1::x2::x3::x4::x5::x6::x7::some d::r) μ Q=Q d μ:=propext UH
theorem KW (x0 x1 x2 x3 x4 x5 x6 x7 x8:Option D)(r:ST)(d:D)(μ:Mu)(k:ST->Mu->Prop):ax 8 d (x0::x1::x2::x3::x4::x5::x6::x7::x8::r) μ k=k (x0::x1::x2::x3::x4::x5::x6::x7::some d::r) μ:=propext UH
theorem OU (x0 x1 x2 x3 x4 x5 x6 x7 x8:Option D)(d:D)(r:ST)(μ:Mu)(Q:DK):ah 9 (x0::x1::x2::x3::x4::x5::x6::x7::x8::some d::r) μ Q=Q d μ:=propext UH
theorem MQ (x0 x1 x2 x3 x4 x5 x6 x7 x8 x9:Option D)(r:ST)(d:D)(μ:Mu)(k:ST->Mu->Prop):ax 9 d (x0::x1::x2::x3::x4::x5::x6::x7::x8::x9::r) μ k=k (x0::x1::x2::x3::x4::x5::x6::x7::x8::some d::r) μ:=propext UH
theorem Mt (x0 x1 x2 x3 x4 x5 x6 x7 x8 x9:Option D)(d:D)(r:ST)(μ:Mu)(Q:DK):ah 10 (x0::x1::x2::x3::x4::x5::x6::x7::x8::x9::some d::r) μ Q=Q d μ:=propext UH
theorem J7 (x0 x1 x2 x3 x4 x5 x6 x7 x8 x9 x10:Option D)(r:ST)(d:D)(μ:Mu)(k:ST->Mu->Prop):ax 10 d (x0::x1::x2::x3::x4::x5::x6::x7::x8::x9::x10::r) μ k=k (x0::x1::x2::x3::x4::x5::x6::x7::x8::x9::some d::r) μ:=propext UH
theorem KO (x0 x1 x2 x3 x4 x5 x6 x7 x8 x9 x10:Option D)(d:D)(r:ST)(μ:Mu)(Q:DK):ah 11 (x0::x1::x2::x3::x4::x5::x6::x7::x8::x9::x10::some d::r) μ Q=Q d μ:=propext UH
theorem HS (x0 x1 x2 x3 x4 x5 x6 x7 x8 x9 x10 x11:Option D)(r:ST)(d:D)(μ:Mu)(k:ST->Mu->Prop):ax 11 d (x0::x1::x2::x3::x4::x5::x6::x7::x8::x9::x10::x11::r) μ k=k (x0::x1::x2::x3::x4::x5::x6::x7::x8::x9::x10::some d::r) μ:=propext UH
theorem Lq (x0 x1 x2 x3 x4 x5 x6 x7 x8 x9 x10 x11:Option D)(d:D)(r:ST)(μ:Mu)(Q:DK):ah 12 (x0::x1::x2::x3::x4::x5::x6::x7::x8::x9::x10::x11::some d::r) μ Q=Q d μ:=propext UH
theorem JC (x0 x1 x2 x3 x4 x5 x6 x7 x8 x9 x10 x11 x12:Option D)(r:ST)(d:D)(μ:Mu)(k:ST->Mu->Prop):ax 12 d (x0::x1::x2::x3::x4::x5::x6::x7::x8::x9::x10::x11::x12::r) μ k=k (x0::x1::x2::x3::x4::x5::x6::x7::x8::x9::x10::x11::some d::r) μ:=propext UH
theorem Tz (d:D)(ρ:ST)(μ:Mu)(Q:DK):TC d ρ μ Q=Q d μ:=propext UH
theorem Py (r:DR2)(a b:ETr)(ρ:ST)(μ:Mu)(Q:DK):aq r a b ρ μ Q=a ρ μ λx μ1=>b ρ μ1 λy μ2=>r x y μ2 Q:=propext UH
theorem SA (r:DR)(a:ETr)(ρ:ST)(μ:Mu)(Q:DK):TUn r a ρ μ Q=a ρ μ λx μ1=>r x μ1 Q:=propext UH
theorem MU (a b:ETr)(ρ:ST)(μ:Mu)(Q:DK):dD a b ρ μ Q=a ρ μ λx μ1=>kB x λc=>kIf c (b ρ μ1 Q) (Q (.bl false) μ1):=propext UH
theorem Om (a b:ETr)(ρ:ST)(μ:Mu)(Q:DK):Am a b ρ μ Q=a ρ μ λx μ1=>kB x λc=>kIf c (Q (.bl true) μ1) (b ρ μ1 Q):=propext UH
theorem K9 (a:ETr)(ρ:ST)(μ:Mu)(Q:DK):mS a ρ μ Q=a ρ μ λx μ1=>kB x λc=>Q (.bl (!c)) μ1:=propext UH
theorem Uj (t:ETr)(ρ:ST)(μ:Mu)(Q:Bool->Mu->Prop):TB t ρ μ Q=t ρ μ λx μ1=>kB x λc=>Q c μ1:=propext UH
theorem PY (t u:TTr)(ρ:ST)(μ:Mu)(Q:Bool->Mu->Prop):xw t u ρ μ Q=t ρ μ λc μ1=>kIf c (u ρ μ1 Q) (Q false μ1):=propext UH
theorem Su (t u:TTr)(ρ:ST)(μ:Mu)(Q:Bool->Mu->Prop):TOr t u ρ μ Q=t ρ μ λc μ1=>kIf c (Q true μ1) (u ρ μ1 Q):=propext UH
theorem Oy (t:TTr)(ρ:ST)(μ:Mu)(Q:Bool->Mu->Prop):bL t ρ μ Q=t ρ μ λc μ1=>Q (!c) μ1:=propext UH
theorem P0 (c:TTr)(a b:ETr)(ρ:ST)(μ:Mu)(Q:DK):oo c a b ρ μ Q=c ρ μ λk μ1=>kIf k (a ρ μ1 Q) (b ρ μ1 Q):=propext UH
theorem Ic (r r':DR2)(a b c:ETr)(ρ:ST)(μ:Mu)(Q:DK):gu r r' a b c ρ μ Q=a ρ μ λx μ1=>b ρ μ1 λy μ2=>r x y μ2 λz μ3=>kB z λk=>kIf k (c ρ μ3 λy' μ4=>r' y y' μ4 Q) (Q (.bl false) μ3):=propext UH
theorem Pk (ρ:ST)(μ:Mu)(Q:List D->Mu->Prop):ar ρ μ Q=Q [] μ:=propext UH
theorem LQ (a:ETr)(r:ATr)(ρ:ST)(μ:Mu)(Q:List D->Mu->Prop):af a r ρ μ Q=a ρ μ λx μ1=>r ρ μ1 λxs μ2=>Q (x::xs) μ2:=propext UH
theorem Pp (t:ATr)(ρ:ST)(μ:Mu)(Q:DK):bw t ρ μ Q=t ρ μ λds μ1=>LEN ds (Q (.tup ds) μ1):=propext UH
theorem Ql (t:ATr)(ρ:ST)(μ:Mu)(Q:DK):fb t ρ μ Q=t ρ μ λds μ1=>LEN ds (Q (.ls ds) μ1):=propext UH
theorem Qr (t:ATr)(ρ:ST)(μ:Mu)(Q:DK):mh t ρ μ Q=t ρ μ λds μ1=>LEN ds (∀ p,μ1 p=none->Q (.obj p) (up μ1 p (.lst ds))):=propext UH
theorem M8 (sp:FSp)(t:ATr)(ρ:ST)(μ:Mu)(Q:DK):ao sp t ρ μ Q=t ρ μ λds μ1=>gZ sp ds μ1 Q:=propext UH
theorem M7 (nx:ST->Mu->Prop)(rt:DK)(bk ct:ST->Mu->Prop)(ρ:ST)(μ:Mu):aU ⟨nx,rt,bk,ct⟩ ρ μ=nx ρ μ:=propext UH
theorem Qj (t u:STr)(nx:ST->Mu->Prop)(rt:DK)(bk ct:ST->Mu->Prop)(ρ:ST)(μ:Mu):aD t u ⟨nx,rt,bk,ct⟩ ρ μ=t ⟨u ⟨nx,rt,bk,ct⟩,rt,bk,ct⟩ ρ μ:=propext UH
theorem Mg (e:ETr)(nx:ST->Mu->Prop)(rt:DK)(bk ct:ST->Mu->Prop)(ρ:ST)(μ:Mu):fA e ⟨nx,rt,bk,ct⟩ ρ μ=e ρ μ λ_ μ1=>nx ρ μ1:=propext UH
theorem OL (e:ETr)(nx:ST->Mu->Prop)(rt:DK)(bk ct:ST->Mu->Prop)(ρ:ST)(μ:Mu):aK e ⟨nx,rt,bk,ct⟩ ρ μ=e ρ μ rt:=propext UH
theorem Oq (c:TTr)(t u:STr)(nx:ST->Mu->Prop)(rt:DK)(bk ct:ST->Mu->Prop)(ρ:ST)(μ:Mu):bp c t u ⟨nx,rt,bk,ct⟩ ρ μ=c ρ μ λb μ1=>kIf b (t ⟨nx,rt,bk,ct⟩ ρ μ1) (u ⟨nx,rt,bk,ct⟩ ρ μ1):=propext UH
theorem QT (e:ETr)(g:GTr)(nx:ST->Mu->Prop)(rt:DK)(bk ct:ST->Mu->Prop)(ρ:ST)(μ:Mu):aZ e g ⟨nx,rt,bk,ct⟩ ρ μ=e ρ μ λd μ1=>g d ρ μ1 nx:=propext UH
theorem Q1 (i j:Nat)(a:ATr)(nx:ST->Mu->Prop)(rt:DK)(bk ct:ST->Mu->Prop)(ρ:ST)(μ:Mu):Di i j a ⟨nx,rt,bk,ct⟩ ρ μ=a ρ μ λds μ1=>k2 ds λv w=>ax i v ρ μ1 λρ2 μ2=>ax j w ρ2 μ2 nx:=propext UH
theorem Kr (o k e:ETr)(nx:ST->Mu->Prop)(rt:DK)(bk ct:ST->Mu->Prop)(ρ:ST)(μ:Mu):eT o k e ⟨nx,rt,bk,ct⟩ ρ μ=e ρ μ λy μ1=>o ρ μ1 λx μ2=>k ρ μ2 λz μ3=>Mv x z y μ3 λμ4=>nx ρ μ4:=propext UH
theorem QD (it:ATr)(g:GTr)(b:STr)(nx:ST->Mu->Prop)(rt:DK)(bk ct:ST->Mu->Prop)(ρ:ST)(μ:Mu):oN it g b ⟨nx,rt,bk,ct⟩ ρ μ=it ρ μ λds μ1=>forR g b ⟨nx,rt,bk,ct⟩ ds ρ μ1:=propext UH
theorem Fg (a:ETr)(ρ:ST)(μ:Mu)(Q:List D->Mu->Prop):iI a ρ μ Q=a ρ μ λx μ1=>kI x λj=>(-4611686018427387904<=j/\j < 4611686018427387904)/\Q (dQ 0 j.toNat) μ1:=propext UH
theorem qD (a:ETr)(ρ:ST)(μ:Mu)(Q:List D->Mu->Prop):RA (af a ar) ρ μ Q=a ρ μ λx μ1=>kLs x λds=>Q (Nv ds) μ1:=propext (Iff.of_eq (congrArg (a ρ μ) (funext λx=>funext λμ1=>by cases x<;>rfl)))
theorem F8 (a b:ETr)(ρ:ST)(μ:Mu)(Q:List D->Mu->Prop):ya a b ρ μ Q=a ρ μ λx μ1=>b ρ μ1 λy μ2=>kI x λi=>kI y λj=>((-4611686018427387904<=i/\i < 4611686018427387904)/\-4611686018427387904<=j/\j < 4611686018427387904)/\Q (dQ i (j - i).toNat) μ2:=propext UH
theorem PB (a:ETr)(ρ:ST)(μ:Mu)(Q:DK):uS a ρ μ Q=a ρ μ λx μ1=>kObj x λb=>kL μ1 b λds=>Q (.ls ds) (dn μ1 b):=propext UH
theorem QR (To Te:ETr)(ρ:ST)(μ:Mu)(Q:DK):mH To Te ρ μ Q=To ρ μ λx μ1=>kObj x λa=>kL μ1 a λ_=>Te ρ μ1 λy μ2=>kL μ2 a λds=>ds.length < 1000000/\Q .non (up μ2 a (.lst (ds++[y]))):=propext UH
theorem RH (a:ETr)(lo hi:OTr)(ρ:ST)(μ:Mu)(Q:DK):TSl a lo hi ρ μ Q=a ρ μ λx μ1=>lo ρ μ1 λl μ2=>hi ρ μ2 λh μ3=>rSl x l h μ3 Q:=propext UH
theorem RQ (ρ:ST)(μ:Mu)(Q:Option Int->Mu->Prop):ONo ρ μ Q=Q none μ:=propext UH
theorem Qq (T:ETr)(ρ:ST)(μ:Mu)(Q:Option Int->Mu->Prop):mP T ρ μ Q=T ρ μ λx μ1=>kI x λi=>Q (some i) μ1:=propext UH
theorem OR (i0 i1:Nat)(d0 d1:D)(ρ:ST)(μ:Mu)(k:ST->Mu->Prop):jJ [i0,i1] (.tup [d0,d1]) ρ μ k=ax i0 d0 ρ μ λρ1 _=>ax i1 d1 ρ1 μ λρ2 _=>k ρ2 μ:=by simp[jJ,iP,ax]
theorem QY (i0 i1 i2:Nat)(d0 d1 d2:D)(ρ:ST)(μ:Mu)(k:ST->Mu->Prop):jJ [i0,i1,i2] (.tup [d0,d1,d2]) ρ μ k=ax i0 d0 ρ μ λρ1 _=>ax i1 d1 ρ1 μ λρ2 _=>ax i2 d2 ρ2 μ λρ3 _=>k ρ3 μ:=by simp[jJ,iP,ax]
theorem Q2 (i0 i1 i2 i3 i4:Nat)(d0 d1 d2 d3 d4:D)(ρ:ST)(μ:Mu)(k:ST->Mu->Prop):jJ [i0,i1,i2,i3,i4] (.tup [d0,d1,d2,d3,d4]) ρ μ k=ax i0 d0 ρ μ λρ1 _=>ax i1 d1 ρ1 μ λρ2 _=>ax i2 d2 ρ2 μ λρ3 _=>ax i3 d3 ρ3 μ λρ4 _=>ax i4 d4 ρ4 μ λρ5 _=>k ρ5 μ:=by simp[jJ,iP,ax]
theorem O0 (i0 i1 i2 i3 i4 i5:Nat)(d0 d1 d2 d3 d4 d5:D)(ρ:ST)(μ:Mu)(k:ST->Mu->Prop):jJ [i0,i1,i2,i3,i4,i5] (.tup [d0,d1,d2,d3,d4,d5]) ρ μ k=ax i0 d0 ρ μ λρ1 _=>ax i1 d1 ρ1 μ λρ2 _=>ax i2 d2 ρ2 μ λρ3 _=>ax i3 d3 ρ3 μ λρ4 _=>ax i4 d4 ρ4 μ λρ5 _=>ax i5 d5 ρ5 μ λρ6 _=>k ρ6 μ:=by simp[jJ,iP,ax]
theorem R6 (P:Prop):LEN [] P=P:=by simp[LEN]
theorem Mw (μ:Mu)(Q:DK):gZ cI [.tup []] μ Q=Q (.int 0) μ:=propext UH
theorem SQ (x0:D)(P:Prop):LEN [x0] P=P:=by simp[LEN]
theorem Rc (x0 x1:D)(P:Prop):LEN [x0,x1] P=P:=by simp[LEN]
theorem Rq (x0 x1 x2:D)(P:Prop):LEN [x0,x1,x2] P=P:=by simp[LEN]
theorem Sx (x0 x1 x2 x3:D)(P:Prop):LEN [x0,x1,x2,x3] P=P:=by simp[LEN]
theorem Rn (x0 x1 x2 x3 x4:D)(P:Prop):LEN [x0,x1,x2,x3,x4] P=P:=by simp[LEN]
theorem R0 (x0 x1 x2 x3 x4 x5:D)(P:Prop):LEN [x0,x1,x2,x3,x4,x5] P=P:=by simp[LEN]
theorem Se (x0 x1 x2 x3 x4 x5 x6:D)(P:Prop):LEN [x0,x1,x2,x3,x4,x5,x6] P=P:=by simp[LEN]
theorem N3 (x0:D)(r:List D)(μ:Mu)(Q:DK):L3.rIx (.tup (x0::r)) (.int 0) μ Q=Q x0 μ:=by rw[mO];exact congrArg (λo=>kO o λd=>Q d μ) (bY 0 _)
theorem QM (x0:D)(r:List D)(μ:Mu)(Q:DK):L3.rIx (.ls (x0::r)) (.int 0) μ Q=Q x0 μ:=by rw[Ek];exact congrArg (λo=>kO o λd=>Q d μ) (bY 0 _)
theorem OW (x0 x1:D)(r:List D)(μ:Mu)(Q:DK):L3.rIx (.tup (x0::x1::r)) (.int 1) μ Q=Q x1 μ:=by rw[mO];exact congrArg (λo=>kO o λd=>Q d μ) (bY 1 _)
theorem Qs (x0 x1 x2:D)(r:List D)(μ:Mu)(Q:DK):L3.rIx (.tup (x0::x1::x2::r)) (.int 2) μ Q=Q x2 μ:=by rw[mO];exact congrArg (λo=>kO o λd=>Q d μ) (bY 2 _)
theorem Pq (x0 x1 x2 x3:D)(r:List D)(μ:Mu)(Q:DK):L3.rIx (.tup (x0::x1::x2::x3::r)) (.int 3) μ Q=Q x3 μ:=by rw[mO];exact congrArg (λo=>kO o λd=>Q d μ) (bY 3 _)
theorem Og (x0 x1 x2 x3 x4:D)(r:List D)(μ:Mu)(Q:DK):L3.rIx (.tup (x0::x1::x2::x3::x4::r)) (.int 4) μ Q=Q x4 μ:=by rw[mO];exact congrArg (λo=>kO o λd=>Q d μ) (bY 4 _)
theorem Ol (x0 x1 x2 x3 x4 x5:D)(r:List D)(μ:Mu)(Q:DK):L3.rIx (.tup (x0::x1::x2::x3::x4::x5::r)) (.int 5) μ Q=Q x5 μ:=by rw[mO];exact congrArg (λo=>kO o λd=>Q d μ) (bY 5 _)
theorem QF (i j:Int)(μ:Mu)(Q:DK):L3.rEq (.int i) (.int j) μ Q=Q (.bl (decide (i=j))) μ:=by simp[L3.rEq,okD,eqD]
theorem Px (i j:Int)(μ:Mu)(Q:DK):L3.rNe (.int i) (.int j) μ Q=Q (.bl (!decide (i=j))) μ:=by simp[L3.rNe,okD,eqD]
theorem Qn (i j:Str)(μ:Mu)(Q:DK):L3.rEq (.str i) (.str j) μ Q=((UL i=true/\UL j=true)/\Q (.bl (decide (i=j))) μ):=by simp[L3.rEq,okD,eqD]
theorem OQ (i j:Str)(μ:Mu)(Q:DK):L3.rNe (.str i) (.str j) μ Q=((UL i=true/\UL j=true)/\Q (.bl (!decide (i=j))) μ):=by simp[L3.rNe,okD,eqD]
theorem PK (i j:Bool)(μ:Mu)(Q:DK):L3.rNe (.bl i) (.bl j) μ Q=Q (.bl (!(i == j))) μ:=by simp[L3.rNe,okD,eqD]
theorem OH (i:Int)(μ:Mu)(Q:DK):gZ xJ [.int i] μ Q=Q (.int (if i < 0 then -i else i)) μ:=propext UH
theorem Qf (i:Bool)(μ:Mu)(Q:DK):gZ Gu [.bl i] μ Q=Q (.int (if i then 1 else 0)) μ:=propext UH
theorem JJ (a:List D)(μ:Mu)(Q:DK):gZ cO [.ls a] μ Q=Q (.tup a) μ:=propext UH
theorem J5 (a:Addr)(μ:Mu)(Q:DK):gZ cO [.obj a] μ Q=kL μ a λxs=>Q (.tup xs) μ:=propext UH
theorem PZ (a:Addr)(μ:Mu)(Q:DK):gZ cI [.obj a] μ Q=kL μ a λxs=>Q (.int xs.length) μ:=propext UH
theorem Qu (x:Str)(μ:Mu)(Q:DK):gZ cI [.str x] μ Q=(x.length<=1000000/\Q (.int x.length) μ):=propext UH
theorem wV (a:List D)(μ:Mu)(Q:DK):gZ cI [.tup a] μ Q=Q (.int a.length) μ:=propext UH
theorem yn (a:List D)(μ:Mu)(Q:DK):gZ cI [.ls a] μ Q=Q (.int a.length) μ:=propext UH
theorem Mq (n:Nat)(i:Int):okD n (.int i)=true:=by cases n<;>simp[okD]
theorem Md (n:Nat)(i:Bool):okD n (.bl i)=true:=by cases n<;>simp[okD]
theorem L4 (n:Nat):okD n .non=true:=by cases n<;>simp[okD]
theorem L8 (n:Nat)(x:Str):okD n (.str x)=UL x:=by cases n<;>simp[okD]
theorem K4 (n:Nat)(ds:List D):okD (n+1) (.tup ds)=ck n ds:=by simp[okD]
theorem KU (n:Nat)(ds:List D):okD (n+1) (.ls ds)=ck n ds:=by simp[okD]
theorem qT (n:Nat):ck n []=true:=by simp[ck]
theorem mY (n:Nat)(d:D)(r:List D):ck n (d::r)=(okD n d&&ck n r):=by simp[ck]
theorem ub (i j:Int):eqD (.int i) (.int j)=decide (i=j):=by simp[eqD]
theorem nR (i j:Str):eqD (.str i) (.str j)=decide (i=j):=by simp[eqD]
theorem ES (a b:List D):eqD (.tup a) (.tup b)=hX a b:=by simp[eqD]
theorem zp (a b:List D):eqD (.ls a) (.ls b)=hX a b:=by simp[eqD]
theorem qH  : hX [] []=true:=by simp[hX]
theorem j7 (a b:D)(r s:List D):hX (a::r) (b::s)=(eqD a b&&hX r s):=by simp[hX]
theorem yk (b:D)(s:List D):hX (b::s) []=false:=by simp[hX]
theorem Ma (A B:Prop):kIf true A B=A:=propext UH
theorem LK (A B:Prop):kIf false A B=B:=propext UH
theorem Lp (c:Bool)(f):kB (.bl c) f=f c:=propext UH
theorem Ju (c:Int)(f):kI (.int c) f=f c:=propext UH
theorem F2 (c:D)(f):kO (some c) f=f c:=propext UH
theorem Ir (c:List D)(f):kS (.tup c) f=f c:=propext UH
theorem Lh (c:List D)(f):kS (.ls c) f=f c:=propext UH
theorem IV (a b:D)(f):k2 [a,b] f=f a b:=propext UH
theorem wC (c:Nat)(f):kN (some c) f=f c:=propext UH
theorem DN (a:Addr)(n:Int)(y:D)(μ:Mu)(f):Mv (.obj a) (.int n) y μ f=kL μ a λds=>kN (L2.ixN ds.length n) λj=>f (up μ a (.lst (ds.set j y))):=propext UH
theorem FZ (i j:Int)(μ Q):aY (.int i) (.int j) μ Q=Q (.int (i+j)) μ:=propext UH
theorem FR (i j:Str)(μ Q):aY (.str i) (.str j) μ Q=(i.length+j.length<=1000000/\Q (.str (i++j)) μ):=propext UH
theorem Fw (a b:List D)(μ Q):aY (.tup a) (.tup b) μ Q=(a.length+b.length<=1000000/\Q (.tup (a++b)) μ):=propext UH
theorem Fn (a b:List D)(μ Q):aY (.ls a) (.ls b) μ Q=(a.length+b.length<=1000000/\Q (.ls (a++b)) μ):=propext UH
theorem Hn (i j:Int)(μ Q):Bw (.int i) (.int j) μ Q=Q (.int (i - j)) μ:=propext UH
theorem Hb (i j:Int)(μ Q):iN (.int i) (.int j) μ Q=(MulOk i j/\Q (.int (i*j)) μ):=propext UH
theorem HK (i j:Int)(μ Q):kW (.int i) (.int j) μ Q=(jW j/\Q (.int (i.fdiv j)) μ):=propext UH
theorem Kn (i j:Int)(μ Q):jk (.int i) (.int j) μ Q=(j≠0/\Q (.int (i.fmod j)) μ):=propext UH
theorem Kl (i j:Int)(μ Q):Cw (.int i) (.int j) μ Q=(sP i j/\Q (.int (i ^ j.toNat)) μ):=propext UH
theorem KC (i j:Int)(μ Q):rLt (.int i) (.int j) μ Q=Q (.bl (decide (i < j))) μ:=propext UH
theorem Lb (i j:Int)(μ Q):rLe (.int i) (.int j) μ Q=Q (.bl (decide (i<=j))) μ:=propext UH
theorem MM (i j:Int)(μ Q):rGt (.int i) (.int j) μ Q=Q (.bl (decide (j < i))) μ:=propext UH
theorem MI (i j:Int)(μ Q):rGe (.int i) (.int j) μ Q=Q (.bl (decide (j<=i))) μ:=propext UH
theorem MG (a:Addr)(i:Int)(μ Q):L3.rIx (.obj a) (.int i) μ Q=kL μ a λds=>kO (atD ds i) λd=>Q d μ:=propext UH
theorem HL (c:String)(i:Int)(μ Q):gm c (.int i) μ Q=Q (.bl (bu "int" c)) μ:=propext UH
theorem G6 (c:String)(i:List D)(μ Q):gm c (.tup i) μ Q=Q (.bl (bu "tuple" c)) μ:=propext UH
theorem Jf (c:String)(i:List D)(μ Q):gm c (.ls i) μ Q=Q (.bl (bu "list" c)) μ:=propext UH
theorem Il (c:String)(i:Str)(μ Q):gm c (.str i) μ Q=Q (.bl (bu "str" c)) μ:=propext UH
theorem Lj (μ Q):rIs .non .non μ Q=Q (.bl true) μ:=propext UH
theorem Mo (i:Int)(μ Q):rIs (.int i) .non μ Q=Q (.bl false) μ:=propext UH
theorem Mi (i:List D)(μ Q):rIs (.tup i) .non μ Q=Q (.bl false) μ:=propext UH
theorem CF (μ Q):iR .non .non μ Q=Q (.bl false) μ:=propext UH
theorem Cy (i:Int)(μ Q):iR (.int i) .non μ Q=Q (.bl true) μ:=propext UH
theorem KQ (a:List D)(lo hi)(μ Q):rSl (.tup a) lo hi μ Q=Q (.tup (cutD a lo hi)) μ:=propext UH
theorem LP (a:List D)(lo hi)(μ Q):rSl (.ls a) lo hi μ Q=Q (.ls (cutD a lo hi)) μ:=propext UH
theorem qW (ds:List D)(i:Int)(μ Q):L3.rIx (.tup ds) (.int i) μ Q=kO (atD ds i) λd=>Q d μ:=propext UH
theorem qK (ds:List D)(i:Int)(μ Q):L3.rIx (.ls ds) (.int i) μ Q=kO (atD ds i) λd=>Q d μ:=propext UH
theorem qL (x y:D)(μ Q):L3.rEq x y μ Q=((okD 40 x=true/\okD 40 y=true)/\Q (.bl (eqD x y)) μ):=propext UH
theorem qI (x y:D)(μ Q):L3.rNe x y μ Q=((okD 40 x=true/\okD 40 y=true)/\Q (.bl (!eqD x y)) μ):=propext UH
theorem kif {p:Prop} [Decidable p] {A B:Prop}(h1:p->A)(h2:¬ p->B):kIf (decide p) A B:=by
 by_cases h:p
 ·rw[decide_eq_true h];exact h1 h
 ·rw[decide_eq_false h];exact h2 h
theorem yh {p:Prop} [Decidable p] {A B:Prop}(h1:¬ p->A)(h2:p->B):kIf (!decide p) A B:=by
 by_cases h:p
 ·rw[decide_eq_true h];exact h2 h
 ·rw[decide_eq_false h];exact h1 h
theorem NK {p:Prop} [Decidable p] {A B:Prop}(h:p)(hA:A):kIf (decide p) A B:=by rw[decide_eq_true h];exact hA
theorem Bf {p:Prop} [Decidable p] {A B:Prop}(h:¬ p)(hB:B):kIf (decide p) A B:=by rw[decide_eq_false h];exact hB
theorem QH {p:Prop} [Decidable p] {A B:Prop}(h:¬ p)(hA:A):kIf (!decide p) A B:=by rw[decide_eq_false h];exact hA
theorem JF {p:Prop} [Decidable p] {A B:Prop}(h:p)(hB:B):kIf (!decide p) A B:=by rw[decide_eq_true h];exact hB
theorem sR {c:Bool}{A B:Prop}(h1:c=true->A)(h2:c=false->B):kIf c A B:=by
 cases c
 ·exact h2 rfl
 ·exact h1 rfl
theorem fL {o:Option D}{d:D}{f:D->Prop}(e:o=some d)(h:f d):kO o f:=by rw[e];exact h
theorem e7 {μ:Mu}{a:Addr}{ds:List D}{f:List D->Prop}(e:μ a=some (.lst ds))(h:f ds):kL μ a f:=by rw[NX e];exact h
def SN:=Jn @OI <| Jn @Mz <| Jn @P9 <| Jn @Mk <| Jn @Oi <| Jn @LN <| Jn @PJ <| Jn @Lu <| Jn @Ph <| Jn @KN <| Jn @PN <| Jn @LJ <| Jn @PH <| Jn @Mp <| Jn @Of <| Jn @KG <| Jn @QB <| Jn @KW <| Jn @OU <| Jn @MQ <| Jn @Mt <| Jn @J7 <| Jn @KO <| Jn @HS <| Jn @Lq <| Jn @JC <| Jn @Tz <| Jn @Py <| Jn @SA <| Jn @MU <| Jn @Om <| Jn @K9 <| Jn @Uj <| Jn @PY <| Jn @Su <| Jn @Oy <| Jn @P0 <| Jn @Ic <| Jn @Pk <| Jn @LQ <| Jn @Pp <| Jn @Ql <| Jn @Qr <| Jn @M8 <| Jn @M7 <| Jn @Qj <| Jn @Mg <| Jn @OL <| Jn @Oq <| Jn @QT <| Jn @Q1 <| Jn @Kr <| Jn @QD <| Jn @Fg <| Jn @F8 <| Jn @PB <| Jn @QR <| Jn @RH <| Jn @RQ <| Jn @Qq <| Jn @OR <| Jn @QY <| Jn @Q2 <| Jn @O0 <| Jn @R6 <| Jn @Mw <| Jn @SQ <| Jn @Rc <| Jn @Rq <| Jn @Sx <| Jn @Rn <| Jn @R0 <| Jn @Se <| Jn @N3 <| Jn @QM <| Jn @OW <| Jn @Qs <| Jn @Pq <| Jn @Og <| Jn @Ol <| Jn @Ma <| Jn @LK <| Jn @Lp <| Jn @Ju <| Jn @F2 <| Jn @Ir <| Jn @Lh <| Jn @IV <| Jn @wC <| Jn @DZ <| Jn @DN <| Jn @FZ <| Jn @FR <| Jn @Fw <| Jn @Fn <| Jn @Hn <| Jn @Hb <| Jn @HK <| Jn @Kn <| Jn @Kl <| Jn @KC <| Jn @Lb <| Jn @MM <| Jn @MI <| Jn @MG <| Jn @HL <| Jn @G6 <| Jn @Jf <| Jn @Il <| Jn @Lj <| Jn @Mo <| Jn @Mi <| Jn @CF <| Jn @Cy <| Jn @KQ <| Jn @LP <| Jn @QF <| Jn @Px <| Jn @Qn <| Jn @OQ <| Jn @PK <| Jn @OH <| Jn @Qf <| Jn @JJ <| Jn @J5 <| Jn @PZ <| @Qu
def M1:=Jn @oE <| Jn @rh <| Jn @nY <| Jn @tI <| @sS
local macro_rules | `(tactic| walk_at "go")=>zzS "↓L3.SN L3.M1 ↓L3.qD ↓L3.ma L3.dF L3.cM L3.dN L3.du L3.dH L3.dO L3.eL L3.eJ L3.cR L3.dM L3.dA L3.dJ L3.dE L3.d8 L3.dI L3.dX L3.dB L3.eN L3.dG L3.dZ L3.mR L3.Mq L3.Md L3.L4 L3.L8 L3.K4 L3.KU L3.qT L3.mY L3.ub L3.nR L3.ES L3.zp L3.qH L3.j7 L3.yk L3.wV L3.yn L3.qW L3.qK L3.qL L3.qI true_and and_true and_self Bool.not_true Bool.not_false decide_true decide_false Bool.or_true Bool.or_false Bool.true_or Bool.false_or Bool.and_false Bool.false_and Bool.and_true Bool.true_and Int.reduceToNat Int.reducePow Int.reduceNeg Int.reduceSub Int.reduceAdd Int.reduceMul Int.reduceEq Int.reduceLT Int.reduceLE Int.reduceBEq L3.lF L3.i8 L3.ja L3.jg L3.iE L3.iK L3.iY L3.jc if_true if_false Bool.false_eq_true reduceCtorEq decide_eq_true_eq"
local macro_rules | `(tactic| walk_at "ini")=>`(tactic| simp only[ini,List.map,List.length,List.replicate,Nat.reduceSub,Nat.reduceAdd,Nat.sub_self,List.cons_append,List.nil_append,List.append_nil])
theorem dj {xs:List D}{P:D->Prop}(h:∀ d∈xs,P d){k:Int}(k0:0<=k)(k1:k < xs.length):∃ d,atD xs k=some d/\P d:=by
 obtain ⟨j,rfl⟩:=Wl k0
 rw[bY]
 have hj:j < xs.length:=by omega
 exact ⟨xs[j],by simp[hj],h _ (Zk hj)⟩
def IsL (hi:Int)(d:D):Prop:=∃ p q,d=fr p q/\FrL hi p q
def IsI (lo hi:Int)(d:D):Prop:=∃ i:Int,d=.int i/\lo<=i/\i<=hi
theorem bo {P:D->Prop}:∀ d∈([]:List D),P d:=λ_ h=>nomatch h
theorem av {P:D->Prop}{a:D}{xs:List D}(h:P a)(k:∀ d∈xs,P d):∀ d∈a::xs,P d:=λd hd=>by
 rcases UQ.mp hd with e | e
 ·rw[e];exact h
 ·exact k d e
local macro_rules | `(tactic| walk_at "all")=>`(tactic| repeat' (first | exact bo | refine av ?_ ?_))
structure uI (b p:Addr) (xs:List D) (μ μ':Mu):Prop where
 box:Box μ' b
 ne:p≠b
 new:μ p=none
 at':μ' p=some (.lst xs)
 oth:∀ a,a≠b->a≠p->μ' a=μ a
theorem uI.go {b p:Addr}{xs:List D}{μ μ1 μ2:Mu}(h:uI b p xs μ μ1)(B:eE b μ1 μ2):uI b p xs μ μ2:=
 ⟨B.box,h.ne,h.new,by rw[B.oth p h.ne];exact h.at',λa h1 h2=>by rw[B.oth a h1];exact h.oth a h1 h2⟩
theorem uI.set {b p:Addr}{xs ys:List D}{μ μ1:Mu}(h:uI b p xs μ μ1):uI b p ys μ (up μ1 p (.lst ys)):=by
 obtain ⟨g,s,c,e,hh⟩:=h.box
 exact ⟨⟨g,s,c,by rw[bQ h.ne.symm];exact e,hh⟩,h.ne,h.new,bh,λa h1 h2=>by rw[bQ h2];exact h.oth a h1 h2⟩
theorem QE (μ:Mu)(p:Addr):Sub (dn μ p) μ:=λa o e=>by
 unfold dn at e
 split at e
 ·cases e
 ·exact e
theorem uI.fin {b p:Addr}{xs:List D}{μ μ1:Mu}(h:uI b p xs μ μ1):eE b μ (dn μ1 p):=by
 obtain ⟨g,s,c,e,hh⟩:=h.box
 refine ⟨⟨g,s,c,?_,hh⟩,λa ha=>?_⟩
 ·unfold dn;rw[if_neg h.ne.symm];exact e
 ·unfold dn
  split
  ·rename_i z;subst z;exact h.new.symm
  ·rename_i z;exact h.oth a ha z
theorem uI.rt {b p:Addr}{xs:List D}{μ μ1:Mu}{Q:DK}{d:D}(h:uI b p xs μ μ1)(k:∀ μ',eE b μ μ'->Q d μ'):RT Q d μ1:=⟨_,QE μ1 p,k _ h.fin⟩
theorem kR {p:Addr}{G:GTr}{tt:TTr}{te:ETr}{ρc:ST}{K:Mu->Prop}(P:List D->Mu->Prop)(hnil:∀ μ,P [] μ->K μ)
  (hcons:∀ d r μ (N:Mu->Prop),P (d::r) μ->(∀ μ',P r μ'->N μ')->G d ρc μ λρ1 μ1=>tt ρ1 μ1 λb μ2=>kIf b (te ρ1 μ2 λy μ3=>kL μ3 p λzs=>zs.length < 1000000/\N (up μ3 p (.lst (zs++[y])))) (N μ2)) :
  ∀ (ds:List D) (μ:Mu),P ds μ->ka p G tt te ρc K ds μ
 | [],μ,h=>hnil μ h
 | d::r,μ,h=>hcons d r μ _ h λμ' q=>kR P hnil hcons r μ' q
theorem Ka (kvs:List (Str×D))(e:ETr)(ρ:ST)(μ:Mu)(Q:DK):tX kvs e ρ μ Q=e ρ μ λx μ1=>GN x λs=>kO (bx kvs s) λd=>Q d μ1:=propext UH
theorem GL (n:Bool)(kvs:List (Str×D))(e:ETr)(ρ:ST)(μ:Mu)(Q:DK):sX n kvs e ρ μ Q=e ρ μ λx μ1=>GN x λs=>Q (.bl (if n then !(bx kvs s).isSome else (bx kvs s).isSome)) μ1:=propext UH
theorem Kq (s:Str)(f:Str->Prop):GN (.str s) f=f s:=propext UH
theorem IK (a b:ETr)(ρ:ST)(μ:Mu)(Q:DK):Dr a b ρ μ Q=a ρ μ λx μ1=>Fu μ1 x λ_=>b ρ μ1 λy μ2=>Fu μ2 x λds=>(ck 38 ds=true/\okD 38 y=true)/\kN (Fs ds y) λj=>j < 1000000/\Q (.int j) μ2:=propext UH
theorem QC (a:ETr)(ρ:ST)(μ:Mu)(Q:List D->Mu->Prop):fk a ρ μ Q=a ρ μ λx μ1=>kS x λds=>Q ds μ1:=propext UH
theorem Ll (t:ATr)(ρ:ST)(μ:Mu)(Q:List D->Mu->Prop):Em t ρ μ Q=t ρ μ λvs μ1=>k2 vs λx y=>kS x λds=>kS y λes=>Q (YC (λd e=>.tup [d,e]) ds es) μ1:=propext UH
theorem QJ (n:Bool)(x:D)(ds:List D)(μ:Mu)(Q:DK):CT n x (.tup ds) μ Q=((ck 38 ds=true/\okD 38 x=true)/\Q (.bl (if n then !inG x ds else inG x ds)) μ):=propext UH
theorem O7 (n:Bool)(x:D)(ds:List D)(μ:Mu)(Q:DK):CT n x (.ls ds) μ Q=((ck 38 ds=true/\okD 38 x=true)/\Q (.bl (if n then !inG x ds else inG x ds)) μ):=propext UH
theorem Qh (μ:Mu)(ds:List D)(f:List D->Prop):Fu μ (.ls ds) f=f ds:=propext UH
theorem JH (d0:D)(r:List D)(f:D->Prop):kO (atD (d0::r) 0) f=f d0:=by rw[Eb];rfl
theorem Jq (d0 d1:D)(r:List D)(f:D->Prop):kO (atD (d0::d1::r) 1) f=f d1:=by rw[Eo];rfl
theorem JZ (d0 d1 d2:D)(r:List D)(f:D->Prop):kO (atD (d0::d1::d2::r) 2) f=f d2:=by rw[Ea];rfl
theorem G8 (d0 d1 d2 d3:D)(r:List D)(f:D->Prop):kO (atD (d0::d1::d2::d3::r) 3) f=f d3:=by rw[EG];rfl
theorem Hg (d0 d1 d2 d3 d4:D)(r:List D)(f:D->Prop):kO (atD (d0::d1::d2::d3::d4::r) 4) f=f d4:=by rw[EL];rfl
theorem JY (d0 d1 d2 d3 d4 d5:D)(r:List D)(f:D->Prop):kO (atD (d0::d1::d2::d3::d4::d5::r) 5) f=f d5:=by rw[ER];rfl
def wU (G:GTr)(tt:TTr)(te:ETr)(ρc:ST)(ds:List D)(μ:Mu)(Q:DK):Prop:=∀ p,μ p=none->ka p G tt te ρc (λμ'=>kL μ' p λzs=>Q (.ls zs) (dn μ' p)) ds (up μ p (.lst []))
theorem M0 (it:ATr)(G:GTr)(tt:TTr)(te:ETr)(n:Nat)(caps:List Nat)(ρ:ST)(μ:Mu)(Q:DK):cp it G tt te n caps ρ μ Q=it ρ μ λds μ1=>wU G tt te (ml ρ n caps) ds μ1 Q:=propext UH
theorem Oo (ρ:ST)(μ:Mu)(Q:Bool->Mu->Prop):fe ρ μ Q=Q true μ:=propext UH
theorem t7 {μ:Mu}{a:Addr}{o:MO}(h:μ a=none):dn (up μ a o) a=μ:=Kt h
section
variable {G:GTr} {tt:TTr} {te:ETr} {ρc:ST} {ds:List D} {μ:Mu} {Q:DK}
theorem Na (f:D->Option D)(hl:ds.length<=999999)
  (step:∀ d∈ds,∀ μ',Sub μ μ'->∀ (N:Option D->Mu->Prop),N (f d) μ'->G d ρc μ' λρ1 μ1=>tt ρ1 μ1 λb μ2=>kIf b (te ρ1 μ2 λy μ3=>N (some y) μ3) (N none μ2))
  (k:Q (.ls (ds.filterMap f)) μ):wU G tt te ρc ds μ Q:=by
 intro p hp
 refine kR (λr μ'=>∃ done,ds=done++r/\μ'=up μ p (.lst (done.filterMap f))) ?_ ?_ _ _ ⟨[],rfl,rfl⟩
 ·rintro μ' ⟨done,e,rfl⟩
  rw[Ve] at e
  subst e
  refine e7 bh ?_
  rw[Kt hp];exact k
 ·rintro d r μ' N ⟨done,e,rfl⟩ hN
  have hd:d∈ds:=by rw[e];simp
  have e':ds=(done++[d])++r:=by rw[e];simp
  have lf:(done.filterMap f).length < 1000000:=by
   have h1:=List.length_filterMap_le f done
   have h2:ds.length=done.length+(d::r).length:=by rw[e,UY]
   rw[UX] at h2;omega
  refine step d hd _ (Sub.new hp) (λoy μ3=>match oy with
   | some y=>kL μ3 p λzs=>zs.length < 1000000/\N (up μ3 p (.lst (zs++[y])))
   | none=>N μ3) ?_
  cases hf:f d with
  | none=>
   refine hN _ ⟨done++[d],e',?_⟩
   rw[X4];simp[hf]
  | some y=>
   refine e7 bh ⟨lf,hN _ ⟨done++[d],e',?_⟩⟩
   rw[X4,lF];simp[hf]
theorem comp_map (f:D->D)(hl:ds.length<=999999)
  (step:∀ d∈ds,∀ μ',Sub μ μ'->∀ (N:DK),N (f d) μ'->G d ρc μ' λρ1 μ1=>te ρ1 μ1 N)
  (k:Q (.ls (ds.map f)) μ):wU G fe te ρc ds μ Q:=by
 refine Na (λd=>some (f d)) hl (λd hd μ' s N n=>?_) (by rw[show (λd=>some (f d))=some ∘ f from rfl,ZW];exact k)
 exact step d hd μ' s (λy μ3=>N (some y) μ3) n
theorem GJ (I:List D->List D->Prop)(h0:I ds [])(hl:ds.length<=999999)
  (step:∀ d r zs μ',Sub μ μ'->I (d::r) zs->∀ (N:Option D->Mu->Prop),(∀ oy,I r (zs++oy.toList)->N oy μ')->G d ρc μ' λρ1 μ1=>tt ρ1 μ1 λb μ2=>kIf b (te ρ1 μ2 λy μ3=>N (some y) μ3) (N none μ2))
  (k:∀ zs,I [] zs->Q (.ls zs) μ):wU G tt te ρc ds μ Q:=by
 intro p hp
 refine kR (λr μ'=>∃ zs,I r zs/\zs.length+r.length<=ds.length/\μ'=up μ p (.lst zs)) ?_ ?_ _ _ ⟨[],h0,by simp,rfl⟩
 ·rintro μ' ⟨zs,hI,_,rfl⟩
  refine e7 bh ?_
  rw[Kt hp];exact k zs hI
 ·rintro d r μ' N ⟨zs,hI,hz,rfl⟩ hN
  rw[UX] at hz
  refine step d r zs _ (Sub.new hp) hI (λoy μ3=>match oy with
   | some y=>kL μ3 p λzs=>zs.length < 1000000/\N (up μ3 p (.lst (zs++[y])))
   | none=>N μ3) ?_
  intro oy hoy
  cases oy with
  | none=>exact hN _ ⟨zs,by simpa using hoy,by omega,rfl⟩
  | some y=>
   refine e7 bh ⟨by omega,hN _ ⟨zs++[y],hoy,by rw[UY];simp;omega,?_⟩⟩
   rw[lF]
theorem Jk {α:Type}(xs:List α)(t:α->D)(h:α->Option D)(hds:ds=xs.map t)(hl:xs.length<=999999)
  (step:∀ x∈xs,∀ μ',Sub μ μ'->∀ (N:Option D->Mu->Prop),N (h x) μ'->G (t x) ρc μ' λρ1 μ1=>tt ρ1 μ1 λb μ2=>kIf b (te ρ1 μ2 λy μ3=>N (some y) μ3) (N none μ2))
  (k:Q (.ls (xs.filterMap h)) μ):wU G tt te ρc ds μ Q:=by
 subst hds
 refine GJ (λr zs=>∃ a c,xs=a++c/\r=c.map t/\zs=a.filterMap h) ⟨[],xs,rfl,rfl,rfl⟩ (by simpa using hl) ?_ ?_
 ·rintro d r zs μ' sb ⟨a,c,e,er,rfl⟩ N hN
  cases c with
  | nil=>cases er
  | cons x c=>
  cases er
  refine step x (by rw[e];simp) μ' sb N (hN _ ⟨a++[x],c,by rw[e];simp,rfl,?_⟩)
  rw[X4]
  cases hx:h x<;>simp[hx]
 ·rintro zs ⟨a,c,e,er,rfl⟩
  have:c=[]:=by cases c with | nil=>rfl | cons=>cases er
  subst this
  rw[Ve] at e
  subst e;exact k
theorem kK {α:Type}(xs:List α)(t:α->D)(h:α->D)(hds:ds=xs.map t)(hl:xs.length<=999999)
  (step:∀ x∈xs,∀ μ',Sub μ μ'->∀ (N:DK),N (h x) μ'->G (t x) ρc μ' λρ1 μ1=>te ρ1 μ1 N)
  (k:Q (.ls (xs.map h)) μ):wU G fe te ρc ds μ Q:=by
 refine Jk xs t (λx=>some (h x)) hds hl (λx hx μ' s N n=>?_) (by rw[show (λx=>some (h x))=some ∘ h from rfl,ZW];exact k)
 exact step x hx μ' s (λy μ3=>N (some y) μ3) n
end
section
open PySem PySem.Spec PyProof.Rows L2
section
variable {X:Cx} {o i e:U5} {apos cpos:Pos} {To Ti Te:ETr}
end
end
section
open PySem PySem.Spec PyProof.Rows L2
section
variable {X:Cx} {a b m o i:U5} {p1 p2 pos apos cpos:Pos} {ta tb tm:TE} {Ta Tb Tm To Ti:ETr}
def kIn (x:D)(f:Int->Prop):Prop:=match x with
 | .int i=>i.natAbs.log2 < 1920/\f i
 | _=>False
def RO (x:D)(f:Str->Prop):Prop:=match x with
 | .str z=>f z
 | _=>False
theorem Oz (ha:PE X a ta):PE X (.JoinedStr [.FormattedValue a (-1) none p1] pos) (λσ H Q=>ta σ H λx H1=>∃ i,x=.int i/\i.natAbs.log2 < 1920/\Q (.str (toString i)) H1):=by
 intro pins s σ H Q I h
 refine JoinedStr_one (Yk (thn (ha pins s σ H _ I h) λv s1 ⟨x,H1,I1,r1,j,ex,hj,q⟩=>?_))
 subst ex
 obtain ⟨t,rfl⟩:=r1
 exact X5 hj ⟨.str _,H1,I1.tok _,⟨_,rfl⟩,q⟩
def Qx (Ta:ETr):ETr:=λρ μ Q=>Ta ρ μ λx μ1=>kIn x λi=>Q (.str (toString i)) μ1
theorem OS (ha:LE X a Ta):LE X (.JoinedStr [.FormattedValue a (-1) none p1] pos) (Qx Ta):=by
 obtain ⟨ta,pa,sa⟩:=ha.ex
 refine ⟨_,Oz pa,λσ H ρ μ Q Q' rl h k=>sa σ H ρ μ _ _ rl h λx H1 dx μ1 t1 m1 p1 h1=>?_⟩
 cases p1 with
 | int j=>exact ⟨j,rfl,h1.1,k _ H1 _ μ1 t1 m1 (.str _) h1.2⟩
 | _=>exact UG h1
theorem DW {i:Int}(h:i.natAbs.log2 < 1920):(toString i:Str).length<=1921:=int_text_len_1921 h
theorem O2:sizeLine=16777216:=by decide
theorem N5 (ha:PE X a ta)(hm:PE X m tm)(hb:PE X b tb):PE X (.JoinedStr [.FormattedValue a (-1) none p1,m,.FormattedValue b (-1) none p2] pos)
  (λσ H Q=>ta σ H λx H1=>∃ i,x=.int i/\i.natAbs.log2 < 1920/\tm σ H1 λy H2=>∃ z,y=.str z/\z.length<=1000/\tb σ H2 λw H3=>∃ j,w=.int j/\j.natAbs.log2 < 1920/\Q (.str (XC++(toString i:Str)++z++(toString j:Str))) H3):=by
 intro pins s σ H Q I h
 have e0:(XC:Str).length=0:=rfl
 have l24:=O2
 refine JoinedStr_many ?_
 refine Z8 (Yk (thn (ha pins s σ H _ I h) λv s1 ⟨x,H1,I1,r1,i,ex,hi,q⟩=>?_))
 subst ex
 obtain ⟨t,rfl⟩:=r1
 have li:=DW hi
 refine X5 hi ⟨by rw[WB,e0];omega,?_⟩
 refine Z8 (thn (hm pins _ σ H1 _ (I1.tok _) q) λv s2 ⟨y,H2,I2,r2,z,ez,hz,q⟩=>?_)
 subst ez
 obtain ⟨t2,rfl⟩:=r2
 refine ⟨by rw[WB,WB,e0];omega,?_⟩
 refine Z8 (Yk (thn (hb pins s2 σ H2 _ I2 q) λv s3 ⟨w,H3,I3,r3,j,ew,hj,q⟩=>?_))
 subst ew
 obtain ⟨t3,rfl⟩:=r3
 have lj:=DW hj
 refine X5 hj ⟨by rw[WB,WB,WB,e0];omega,?_⟩
 exact joinParts_nil ⟨.str _,H3,(I3.tok _).tok _,⟨_,rfl⟩,q⟩ (by rw[WB,WB,WB,e0];omega)
def Pc (Ta Tm Tb:ETr):ETr:=λρ μ Q=>Ta ρ μ λx μ1=>kIn x λi=>Tm ρ μ1 λy μ2=>RO y λz=>z.length<=1000/\Tb ρ μ2 λw μ3=>kIn w λj=>Q (.str (XC++(toString i:Str)++z++(toString j:Str))) μ3
theorem OJ (ha:LE X a Ta)(hm:LE X m Tm)(hb:LE X b Tb):LE X (.JoinedStr [.FormattedValue a (-1) none p1,m,.FormattedValue b (-1) none p2] pos) (Pc Ta Tm Tb):=by
 obtain ⟨ta,pa,sa⟩:=ha.ex
 obtain ⟨tm,pm,sm⟩:=hm.ex
 obtain ⟨tb,pb,sb⟩:=hb.ex
 refine ⟨_,N5 pa pm pb,λσ H ρ μ Q Q' rl h k=>sa σ H ρ μ _ _ rl h λx H1 dx μ1 t1 m1 q1 h1=>?_⟩
 cases q1 with
 | int j=>
  refine ⟨j,rfl,h1.1,sm σ H1 ρ μ1 _ _ (rl.go t1 m1) h1.2 λy H2 dy μ2 t2 m2 q2 h2=>?_⟩
  cases q2 with
  | str z=>
   refine ⟨z,rfl,h2.1,sb σ H2 ρ μ2 _ _ ((rl.go t1 m1).go t2 m2) h2.2 λw H3 dw μ3 t3 m3 q3 h3=>?_⟩
   cases q3 with
   | int j2=>exact ⟨j2,rfl,h3.1,k _ H3 _ μ3 (t1.trans (t2.trans t3)) m3 (.str _) h3.2⟩
   | _=>exact UG h3
  | _=>exact UG h2
 | _=>exact UG h1
theorem FF:cj X (.type "str") (λxs H Q=>∃ z,xs=[.str z]/\Q (.str z) H):=by
 intro pins s σ H xs us Q I rx ⟨z,e,q⟩
 subst e
 obtain ⟨u,rfl,ru⟩:=vals1 rx
 obtain ⟨t,rfl⟩:=(show ∃ t,u=XB z t from ru)
 exact PySem.P.str_of_str ⟨.str z,H,I,⟨t,rfl⟩,q⟩
def fu:FSp:=λds μ Q=>match ds with
 | [.str z]=>Q (.str z) μ
 | [.int i]=>i.natAbs.log2 < 1920/\Q (.str (toString i)) μ
 | _=>False
theorem cB {K:UB}:uV K (λxs H Q=>(∃ i,xs=[.int i]/\i.natAbs.log2 < 1920/\Q (.str (toString i)) H)∨∃ z,xs=[.str z]/\Q (.str z) H) fu:=λH μ xs ds Q Q' m p h k=>by
 unfold fu at h
 split at h
 ·cases p with | cons p1 p2=>cases p2;cases p1;exact .inr ⟨_,rfl,k _ H _ μ (.refl H) m (.str _) h⟩
 ·cases p with | cons p1 p2=>cases p2;cases p1;exact .inl ⟨_,rfl,h.1,k _ H _ μ (.refl H) m (.str _) h.2⟩
 ·exact h.elim
theorem bN:cj X (.type "str") (λxs H Q=>(∃ i,xs=[.int i]/\i.natAbs.log2 < 1920/\Q (.str (toString i)) H)∨∃ z,xs=[.str z]/\Q (.str z) H):=cj.or xi FF
theorem ud:∀ {zs:List Str} {us:List UC},Vals (zs.map V.str) us->XW us zs
 | [],_,.nil=>.nil
 | z::zs,_,.cons ⟨t,e⟩ r=>by rw[e];exact .cons z t (ud r)
theorem JA:MtM X "str.join" (λx vs H Q=>∃ sep p zs,x=.str sep/\vs=[.ref p]/\SqT X.K H p (zs.map V.str)/\(zs.map (·.length)).sum+zs.length*sep.length<=16777216/\Q (.str (Txt.join sep zs)) H):=by
 intro pins s σ H x vs v us Q I rx rv h
 obtain ⟨sep,p,zs,rfl,rfl,sq,ok,q⟩:=h
 obtain ⟨t,rfl⟩:=rx
 obtain ⟨u,rfl,ru⟩:=rv.one
 cases (show u=Vs p from ru)
 obtain ⟨its,r,pl,_⟩:=I.tuple sq
 exact join_tuple pl (by rw[List.toList_toArray];exact ud r) ok λt' k=>⟨.str _,H,I.tok _,⟨_,rfl⟩,q⟩
def sC (To Ti:ETr):ETr:=λρ μ Q=>To ρ μ λx μ1=>RO x λsep=>Ti ρ μ1 λy μ2=>match y with
  | .tup ds=>∃ zs,gB ds=some zs/\(zs.map (·.length)).sum+zs.length*sep.length<=16777216/\Q (.str (Txt.join sep zs)) μ2
  | _=>False
theorem Ab (ho:LE X o To)(hi:LE X i Ti)
  (hbase:WX o "join" X.env (VI o X.env)=VI o X.env:=by rfl)
  (hfew:((Vr cpos (UI [i] X.env)).all (λx=>!x.1)&&(YN cpos (Xl [] X.env)).all (λx=>x.1.isSome)
   && decide (([i]:List U5).length+([]:List WZ).length+(if ([]:List WZ).isEmpty then 0 else 1) < 30))=true:=by rfl)
  (hline:(apos.endLine == cpos.line)=true:=by rfl) (hs:UI [i] X.env=(false,VI i X.env)::UI [] X.env:=by rfl) (hplain:(Vr cpos (UI [] X.env)).any (·.1)=false:=by rfl) :
  LE X (.Call (.Attribute o "join" apos) [i] [] cpos) (sC To Ti):=by
 obtain ⟨to,po,so⟩:=ho.ex
 obtain ⟨ti,pi,si⟩:=hi.ex
 refine ⟨_,DQ ZR ZS JA po (cG pi gf hs) hbase hfew hline hs hplain,λσ H ρ μ Q Q' rl h k=>so σ H ρ μ _ _ rl h λx H1 dx μ1 t1 m1 p1 h1=>?_⟩
 cases p1 with
 | str z=>
  refine ⟨⟨z,rfl⟩,si σ H1 ρ μ1 _ _ (rl.go t1 m1) h1 λy H2 dy μ2 t2 m2 p2 h2=>?_⟩
  cases p2 with
  | @tup a xs ds sq l=>
   obtain ⟨zs,e,ok,h2⟩:=h2
   have:=xR l e
   subst this
   exact ⟨z,a,zs,rfl,rfl,sq,ok,k _ H2 _ μ2 (t1.trans t2) m2 (.str _) h2⟩
  | _=>exact UG h2
 | _=>exact UG h1
end
end
theorem wR {x y:Str}(hx:UL x=true)(hy:UL y=true):UL (x++y)=true:=by
 unfold UL at *
 show (x.cps++y.cps).all _=true
 rw[Array.all_append,hx,hy];rfl
theorem iG (sep:Str)(zs:List Str):Txt.join sep zs=Vk sep zs:=StrLaws.glued_eq_join sep zs
theorem qE {sep:Str}(hs:UL sep=true):∀ {zs:List Str},(∀ z∈zs,UL z=true)->UL (Vk sep zs)=true
 | [],_=>by show UL XC=true;decide +kernel
 | [x],h=>h x UK
 | x::y::r,h=>by
  show UL (x++sep++Vk sep (y::r))=true
  exact wR (wR (h x UK) hs) (qE hs λz k=>h z (UN _ k))
theorem JD {n:Nat}:∀ {zs:List Str},(∀ z∈zs,z.length<=n)->(zs.map (·.length)).sum<=zs.length*n
 | [],_=>Wz _
 | x::r,h=>by
  have ih:=JD λz k=>h z (UN x k)
  have:=h x UK
  rw[Vt,List.sum_cons,UX,zce]
  omega
theorem me {n m k:Nat}{sep:Str}{zs:List Str}(h:∀ z∈zs,z.length<=n)(hz:zs.length<=m)(hs:sep.length<=k):(zs.map (·.length)).sum+zs.length*sep.length<=m*(n+k):=by
 have h1:=JD h
 have h2:zs.length*sep.length<=zs.length*k:=Nat.mul_le_mul_left _ hs
 have h3:zs.length*(n+k)<=m*(n+k):=Nat.mul_le_mul_right _ hz
 rw[Nat.mul_add] at h3
 omega
theorem strs_map (zs:List Str):gB (zs.map .str)=some zs:=by
 induction zs with
 | nil=>rfl
 | cons z r ih=>rw[Vt,gB,ih];rfl
def itS (i:Int):Str:=toString i
theorem nS {i:Int}(h0:0<=i)(h1:i < 10000000000):(itS i).length<=10:=X1 h0 (by decide) (by simpa using h1)
theorem dR {i:Int}(h0:0<=i)(h1:i < 10000000000):i.natAbs.log2 < 1920:=by
 have:i.natAbs < 2 ^ 34:=U4 (show i.natAbs < 10000000000 by omega) (by decide)
 by_cases z:i.natAbs=0
 ·rw[z];decide
 ·exact XX ((Nat.log2_lt z).mpr this) (by decide)
theorem Es (i:Int):UL (itS i)=true:=by
 unfold UL
 refine Vh.mpr λc hc=>decide_eq_true ?_
 refine Classical.byContradiction λh=>?_
 exact zbE c ⟨by omega,.inr (by omega)⟩ i (WV.mpr hc)
def shw:D->Str
 | .str z=>z
 | .int i=>itS i
 | .tup [.int a,.int b]=>if b=1 then itS a else itS a++OF "/" ++ itS b
 | _=>OF "-"
def kY (d:D):Prop:=(∃ i:Int,d=.int i/\0<=i/\i < 10000000000)∨∃ a b:Int,d=.tup [.int a,.int b]/\(0<=a/\a < 10000000000)/\0<=b/\b < 10000000000
def ur (d:D):Prop:=d=.non∨(∃ z,d=.str z/\UL z=true/\z.length<=200)∨kY d
theorem nV:(OF "/").length=1:=by decide +kernel
theorem HZ:(OF "-").length=1:=by decide +kernel
theorem Sd {d:D}(h:kY d):(shw d).length<=200/\UL (shw d)=true:=by
 rcases h with ⟨i,rfl,h0,h1⟩ | ⟨a,b,rfl,⟨a0,a1⟩,b0,b1⟩
 ·exact ⟨Vy (nS h0 h1) (by decide),Es i⟩
 ·have la:=nS a0 a1
  have lb:=nS b0 b1
  show (if b=1 then itS a else itS a++OF "/" ++ itS b).length<=200/\UL (if b=1 then itS a else itS a++OF "/" ++ itS b)=true
  split
  ·exact ⟨by omega,Es a⟩
  ·exact ⟨by rw[Y3,Y3,nV];omega,wR (wR (Es a) (by decide +kernel)) (Es b)⟩
theorem NW {d:D}(h:ur d):(shw d).length<=200/\UL (shw d)=true:=by
 rcases h with rfl | ⟨z,rfl,h1,h2⟩ | h
 ·exact ⟨by show (OF "-").length<=200;rw[HZ];decide,by show UL (OF "-")=true;decide +kernel⟩
 ·exact ⟨h2,h1⟩
 ·exact Sd h
structure WT where
 nm:Str
 p:Int
 r:Int
 m:Option Int
 so:Str
def oD:Option Int->D
 | none=>.non
 | some i=>.int i
def WT.toD (w:WT):D:=.tup [.str w.nm,.int w.p,.int w.r,oD w.m,.str w.so]
structure nZ (z:Str):Prop where
 o:UL z=true
 l:z.length<=8
structure kA (i:Int):Prop where
 l:0<=i
 u:i < 10000000000
structure WT.Ok (w:WT):Prop where
 n:nZ w.nm
 p:kA w.p
 r:kA w.r
 m:∀ i,w.m=some i->kA i
 s:nZ w.so
structure ST' where
 nm:Str
 rd:List Str
 bt:Int
 bg:Int
 mn:Option Int
 wd:Str
 ps:List D
def ST'.toD (s:ST'):D:=.tup [.str s.nm,.tup (s.rd.map .str),.int s.bt,.int s.bg,oD s.mn,.tup (.str s.wd::s.ps)]
structure ST'.Ok (s:ST'):Prop where
 n:nZ s.nm
 r:∀ z∈s.rd,nZ z
 rl:s.rd.length<=8
 b:kA s.bt
 g:kA s.bg
 m:∀ i,s.mn=some i->kA i
 w:nZ s.wd
 p:∀ d∈s.ps,kY d
 pl:s.ps.length<=6
def sp1:Str:=OF " "
def WT.ds (w:WT):List D:=[.str "way", .str w.nm,.int w.p,.int w.r,oD w.m,.str w.so]
def ST'.ds (s:ST'):List D:=[.str "sender", .str s.nm,.str (Vk (OF ",") s.rd),.int s.bt,.int s.bg,oD s.mn,.str s.wd]++s.ps
theorem Rg {o:Option Int}(h:∀ i,o=some i->kA i):ur (oD o):=by
 cases o with
 | none=>exact .inl rfl
 | some i=>exact .inr (.inr (.inl ⟨i,rfl,(h i rfl).l,(h i rfl).u⟩))
theorem CD {z:Str}(h:nZ z):ur (.str z):=.inr (.inl ⟨z,rfl,h.o,Vy h.l (by decide)⟩)
theorem J3 {i:Int}(h:kA i):ur (.int i):=.inr (.inr (.inl ⟨i,rfl,h.l,h.u⟩))
theorem WT.Ok.pt {w:WT}(h:w.Ok):∀ d∈w.ds,ur d:=av (CD ⟨by decide +kernel,by decide +kernel⟩) (av (CD h.n) (av (J3 h.p) (av (J3 h.r) (av (Rg h.m) (av (CD h.s) bo)))))
theorem hZ:(OF ",").length=1:=by decide +kernel
theorem ST'.Ok.road {s:ST'}(h:s.Ok):UL (Vk (OF ",") s.rd)=true/\(Vk (OF ",") s.rd).length<=200:=by
 refine ⟨qE (by decide +kernel) λz k=>(h.r z k).o,?_⟩
 have h1:=Xa (OF ",") s.rd
 have h2:=me (n:=8) (m:=8) (k:=1) (sep:=OF ",") (zs:=s.rd) (λz k=>(h.r z k).l) h.rl (by rw[hZ];decide)
 omega
theorem ST'.Ok.pt {s:ST'}(h:s.Ok):∀ d∈s.ds,ur d:=λd hd=>by
 rcases Vo.mp hd with z | z
 ·exact (av (CD ⟨by decide +kernel,by decide +kernel⟩) (av (CD h.n) (av (.inr (.inl ⟨_,rfl,h.road.1,h.road.2⟩)) (av (J3 h.b) (av (J3 h.g) (av (Rg h.m) (av (CD h.w) bo))))))) d z
 ·exact .inr (.inr (h.p d z))
def dY (ds:List D):Str:=Vk sp1 (ds.map shw)
theorem GS:sp1.length=1:=by decide +kernel
theorem Sl:UL sp1=true:=by decide +kernel
theorem qN {ds:List D}(h:∀ d∈ds,ur d)(hl:ds.length<=20):((ds.map shw).map (·.length)).sum+(ds.map shw).length*sp1.length<=4020:=by
 have:=me (n:=200) (m:=20) (k:=1) (sep:=sp1) (zs:=ds.map shw) (λz k=>by
  obtain ⟨d,hd,rfl⟩:=U3.mp k
  exact (NW (h d hd)).1) (by rw[UJ];exact hl) (by rw[GS];decide)
 omega
theorem xT {ds:List D}(h:∀ d∈ds,ur d)(hl:ds.length<=20):UL (dY ds)=true/\(dY ds).length<=4020:=by
 refine ⟨qE Sl λz k=>?_,Vy (Xa _ _) (qN h hl)⟩
 obtain ⟨d,hd,rfl⟩:=U3.mp k
 exact (NW (h d hd)).2
structure PT where
 g:Int
 ws:List WT
 ss:List ST'
def PT.toD (p:PT):D:=.tup [.int p.g,.tup (p.ws.map WT.toD),.tup (p.ss.map ST'.toD)]
structure PT.Ok (p:PT):Prop where
 g:kA p.g
 w:∀ w∈p.ws,w.Ok
 s:∀ s∈p.ss,s.Ok
 wl:p.ws.length<=8
 sl:p.ss.length<=8
def PT.gd (p:PT):List D:=[.str "grid", .int p.g]
def PT.rows (p:PT):List Str:=dY p.gd::(p.ws.map (λw=>dY w.ds)++p.ss.map λs=>dY s.ds)
theorem PT.Ok.gd {p:PT}(h:p.Ok):∀ d∈p.gd,ur d:=av (CD ⟨by decide +kernel,by decide +kernel⟩) (av (J3 h.g) bo)
theorem Df {s:ST'}(h:s.Ok):s.ds.length<=20:=by
 have:=h.pl
 unfold ST'.ds
 rw[UY]
 show 7+s.ps.length<=20
 omega
theorem PT.Ok.row {p:PT}(h:p.Ok):∀ z∈p.rows,UL z=true/\z.length<=4020:=λz k=>by
 rcases UQ.mp k with rfl | k
 ·exact xT h.gd (by show 2<=20;decide)
 ·rcases Vo.mp k with k | k
  ·obtain ⟨w,hw,rfl⟩:=U3.mp k
   exact xT (h.w w hw).pt (by show 6<=20;decide)
  ·obtain ⟨s,hs,rfl⟩:=U3.mp k
   exact xT (h.s s hs).pt (Df (h.s s hs))
theorem PT.Ok.len {p:PT}(h:p.Ok):p.rows.length<=17:=by
 have:=h.wl
 have:=h.sl
 unfold PT.rows
 rw[UX,UY,UJ,UJ]
 omega
def nl:Str:=OF "\n"
def PT.text (p:PT):Str:=Vk nl p.rows
theorem CH:nl.length=1:=by decide +kernel
theorem PT.Ok.tot {p:PT}(h:p.Ok):(p.rows.map (·.length)).sum+p.rows.length*nl.length<=16777216:=by
 have:=me (n:=4020) (m:=17) (k:=1) (sep:=nl) (λz k=>(h.row z k).2) h.len (by rw[CH];decide)
 omega
theorem PT.Ok.txt {p:PT}(h:p.Ok):UL p.text=true:=qE (by decide +kernel) λz k=>(h.row z k).1
theorem Kz (i:Int):OF "grid " ++ itS i=dY [.str "grid", .int i]:=by
 show _=OF "grid" ++ sp1++itS i
 rw[show OF "grid" ++ sp1=OF "grid " by decide +kernel]
theorem AW:bu "NoneType" "int" = false:=by decide +kernel
theorem vT:bu "NoneType" "bool" = false:=by decide +kernel
theorem Bo:bu "NoneType" "str" = false:=by decide +kernel
theorem tj:bu "NoneType" "tuple" = false:=by decide +kernel
theorem BN:bu "bool" "int" = true:=by decide +kernel
theorem wm:bu "bool" "bool" = true:=by decide +kernel
theorem zN:bu "bool" "str" = false:=by decide +kernel
theorem rk:bu "bool" "tuple" = false:=by decide +kernel
theorem Bv:bu "int" "int" = true:=by decide +kernel
theorem wM:bu "int" "bool" = false:=by decide +kernel
theorem AF:bu "int" "str" = false:=by decide +kernel
theorem rU:bu "int" "tuple" = false:=by decide +kernel
theorem Au:bu "str" "int" = false:=by decide +kernel
theorem vP:bu "str" "bool" = false:=by decide +kernel
theorem zI:bu "str" "str" = true:=by decide +kernel
theorem rG:bu "str" "tuple" = false:=by decide +kernel
theorem BA:bu "tuple" "int" = false:=by decide +kernel
theorem wD:bu "tuple" "bool" = false:=by decide +kernel
theorem z7:bu "tuple" "str" = false:=by decide +kernel
theorem sO:bu "tuple" "tuple" = true:=by decide +kernel
theorem zS:bu "list" "int" = false:=by decide +kernel
theorem wu:bu "list" "bool" = false:=by decide +kernel
theorem zF:bu "list" "str" = false:=by decide +kernel
theorem rA:bu "list" "tuple" = false:=by decide +kernel
theorem AV:bu "dict" "int" = false:=by decide +kernel
theorem wj:bu "dict" "bool" = false:=by decide +kernel
theorem BK:bu "dict" "str" = false:=by decide +kernel
theorem sJ:bu "dict" "tuple" = false:=by decide +kernel
def kTx (x:D)(f:Str->Prop):Prop:=match x with
 | .str z=>f z
 | _=>False
section
variable (c:String) (μ:Mu) (Q:DK)
theorem RC:dU c .non μ Q=Q (.bl (bu "NoneType" c)) μ:=propext UH
theorem SD (b:Bool):dU c (.bl b) μ Q=Q (.bl (bu "bool" c)) μ:=propext UH
theorem SK (b:Int):dU c (.int b) μ Q=Q (.bl (bu "int" c)) μ:=propext UH
theorem RV (b:Str):dU c (.str b) μ Q=Q (.bl (bu "str" c)) μ:=propext UH
theorem Q5 (b:List D):dU c (.tup b) μ Q=Q (.bl (bu "tuple" c)) μ:=propext UH
theorem Q8 (b:List D):dU c (.ls b) μ Q=Q (.bl (bu "list" c)) μ:=propext UH
theorem nJ {c μ Q}{a:Addr}{k:List (L2.Key×D)}(e:μ a=some (.dct k)):dU c (.obj a) μ Q=Q (.bl (bu "dict" c)) μ:=by unfold dU;simp only[tyO,e]
theorem K2 (b:Bool):rIs (.bl b) .non μ Q=Q (.bl false) μ:=propext UH
theorem Nb (b:Str):rIs (.str b) .non μ Q=Q (.bl false) μ:=propext UH
theorem Nj (b:List D):rIs (.ls b) .non μ Q=Q (.bl false) μ:=propext UH
theorem Ng (b:Addr):rIs (.obj b) .non μ Q=Q (.bl false) μ:=propext UH
theorem O4 (x y:Str):Km (.str x) (.str y) μ Q=Q (.bl (Cf y x)) μ:=propext UH
theorem Ml (x:Str)(i:Int):rR (.str x) (.int i) μ Q=(x.length<=1000000/\kN (L2.atI x.cps.toList i) λc=>Q (.str ⟨#[c]⟩) μ):=propext UH
theorem L6 (x:Str)(i:Int):rJ (.str x) (.int i) μ Q=((i<=1000/\-1000<=i/\x.length<=1000)/\Q (.str (sj x i.toNat)) μ):=propext UH
theorem Jo (a:ETr)(ρ:ST)(Q:List D->Mu->Prop):Ib a ρ μ Q=a ρ μ λx μ1=>kTx x λz=>z.cps.all (· < 128)=true/\Q (uE z) μ1:=by
 unfold Ib kTx;rfl
theorem Jw (a:ETr)(lo hi:OTr)(ρ:ST):Rk a lo hi ρ μ Q=a ρ μ λx μ1=>lo ρ μ1 λi μ2=>hi ρ μ2 λj μ3=>kTx x λz=>z.length<=1000000/\Q (.str (Txt.slice z i j)) μ3:=by
 unfold Rk kTx;rfl
theorem SW (z:Str)(f:Str->Prop):kTx (.str z) f=f z:=propext UH
end
theorem R5 (z:List D)(f:List D->Prop):kLz (.ls z) f=f z:=propext UH
theorem DL (a:ETr)(ρ:ST)(μ:Mu)(Q:DK):tJ a ρ μ Q=a ρ μ λx μ1=>kLz x λxs=>∃ ss:List Str,(xs=ss.map .str/\ss.length < 4000/\(ddT ss).length < 64)/\∀ ss':List Str,ss'.Perm (ddT ss)->ss'.Pairwise (λa b=>ltS b a=false)->Q (.ls (ss'.map .str)) μ1:=propext UH
theorem E2 (a:ETr)(ρ:ST)(μ:Mu)(Q:DK):xc a ρ μ Q=a ρ μ λx μ1=>kLz x λxs=>∃ ss:List Str,(xs=ss.map .str/\ss.length < 4000)/\Q (.int (ddT ss).length) μ1:=propext UH
theorem EJ (a i:ETr)(ρ:ST)(μ:Mu)(Q:DK):pP a i ρ μ Q=a ρ μ λx μ1=>kTx x λsep=>i ρ μ1 λy μ2=>kLz y λds=>∃ zs,gB ds=some zs/\JoinOk sep zs=true/\Q (.str (Txt.join sep zs)) μ2:=by
 unfold pP kTx kLz;rfl
def kTz (x:D)(f:List D->Prop):Prop:=match x with
 | .tup z=>f z
 | _=>False
theorem S0 (z:List D)(f:List D->Prop):kTz (.tup z) f=f z:=propext UH
theorem zW (a i:ETr)(ρ:ST)(μ:Mu)(Q:DK):sC a i ρ μ Q=a ρ μ λx μ1=>kTx x λsep=>i ρ μ1 λy μ2=>kTz y λds=>∃ zs,gB ds=some zs/\(zs.map (·.length)).sum+zs.length*sep.length<=16777216/\Q (.str (Txt.join sep zs)) μ2:=by
 unfold sC kTx kTz;rfl
def QV:=Jn @DL <| Jn @E2 <| Jn @R5 <| Jn @S0 <| Jn @RC <| Jn @SD <| Jn @SK <| Jn @RV <| Jn @Q5 <| Jn @Q8 <| Jn @K2 <| Jn @Nb <| Jn @Nj <| Jn @Ng <| Jn @O4 <| Jn @Ml <| Jn @L6 <| Jn @SW <| Jn @M0 <| Jn @Oo <| Jn @Ka <| Jn @GL <| Jn @Kq <| Jn @IK <| Jn @QC <| Jn @Ll <| Jn @QJ <| Jn @O7 <| Jn @Qh <| @SN
local macro_rules | `(tactic| walk_at "go")=>zzS "↓L3.QV L3.M1 ↓L3.EJ ↓L3.zW ↓L3.Jo ↓L3.Jw ↓L3.JH ↓L3.Jq ↓L3.JZ ↓L3.G8 ↓L3.Hg ↓L3.JY ↓L3.qD ↓L3.ma L3.dF L3.cM L3.dN L3.du L3.dH L3.dO L3.eL L3.eJ L3.cR L3.dM L3.dA L3.dJ L3.dE L3.d8 L3.dI L3.dX L3.dB L3.eN L3.dG L3.dZ L3.mR L3.AW L3.vT L3.Bo L3.tj L3.BN L3.wm L3.zN L3.rk L3.Bv L3.wM L3.AF L3.rU L3.Au L3.vP L3.zI L3.rG L3.BA L3.wD L3.z7 L3.sO L3.zS L3.wu L3.zF L3.rA L3.AV L3.wj L3.BK L3.sJ L3.ml List.map_cons List.map_nil List.replicate List.cons_append List.nil_append L3.lk L3.Mq L3.Md L3.L4 L3.L8 L3.K4 L3.KU L3.qT L3.mY L3.ub L3.nR L3.ES L3.zp L3.qH L3.j7 L3.yk L3.wV L3.yn L3.qW L3.qK L3.qL L3.qI true_and and_true and_self Bool.not_true Bool.not_false decide_true decide_false Bool.or_true Bool.or_false Bool.true_or Bool.false_or Bool.and_false Bool.false_and Bool.and_true Bool.true_and Int.reduceToNat Int.reducePow Int.reduceNeg Int.reduceSub Int.reduceAdd Int.reduceMul Int.reduceEq Int.reduceLT Int.reduceLE Int.reduceBEq L3.lF L3.i8 L3.ja L3.jg L3.iE L3.iK L3.iY L3.jc if_true if_false Bool.false_eq_true reduceCtorEq decide_eq_true_eq"
inductive Any (μ:Mu):D->Prop
 | non:Any μ .non
 | bl (b:Bool):Any μ (.bl b)
 | int {i:Int} (h:bE i):Any μ (.int i)
 | str {z:Str} (h:z.cps.all (· < 128)=true) (hl:z.length<=1000):Any μ (.str z)
 | tup {ds:List D} (h:∀ d∈ds,Any μ d) (hl:ds.length<=1000):Any μ (.tup ds)
 | ls (ds:List D):Any μ (.ls ds)
 | dct {a:Addr} {k:List (L2.Key×D)} (e:μ a=some (.dct k)):Any μ (.obj a)
theorem Any.cE {μ:Mu}{ds:List D}(h:Any μ (.tup ds)):∀ d∈ds,Any μ d:=by cases h;assumption
theorem Any.sub {μ μ':Mu}{d:D}(s:Sub μ μ')(h:Any μ d):Any μ' d:=by
 induction h with
 | non=>exact .non
 | bl b=>exact .bl b
 | int h=>exact .int h
 | str h hl=>exact .str h hl
 | tup _ hl ih=>exact .tup ih hl
 | ls ds=>exact .ls ds
 | dct e=>exact .dct (s _ _ e)
theorem Any.m {μ:Mu}{i:Int}(h:Any μ (.int i)):bE i:=by cases h;assumption
theorem bE.mul {p q:Int}(h:bE p)(h':bE q):MulOk p q:=.inr ⟨h,h'⟩
def isI:D->Bool
 | .int _=>true
 | _=>false
def wiI (lo hi:Int):D->Bool
 | .int i=>decide (lo<=i)&&decide (i<=hi)
 | _=>false
def isT (m:Int):D->Bool
 | .tup ds=>decide ((ds.length:Int)=m)
 | _=>false
theorem gw {c:Bool}{A B:Prop}(h1:c=true->B)(h2:c=false->A):kIf (!c) A B:=by
 cases c with
 | true=>exact h1 rfl
 | false=>exact h2 rfl
def cC:FSp:=λds μ Q=>kcA ds λd ds=>kcN ds (Any μ d/\Q (.bl (isI d)) μ)
theorem rQ:∀ ds μ Q,cC ds μ Q->ds.length=1:=λ_ _ _ h=>lcA h λ_ _ h=>by rw[(ecN h).1];rfl
def nL:STr:=aK (dD (TUn (dU "int") (ah 0)) (mS (TUn (dU "bool") (ah 0))))
theorem u5:∀ ds μ Q,cC ds μ Q->nL { nx:=λ_ μ'=>RT Q .non μ',rt:=RT Q } (ini 1 ds) μ:=by
 intro ds μ Q h
 replace h:=ecA h
 obtain ⟨d,ds,rfl,h⟩:=h
 replace h:=ecN h
 obtain ⟨rfl,h⟩:=h
 walk_at "ini"
 unfold nL
 walk_at "go"
 obtain ⟨t,k⟩:=h
 cases t
 all_goals
  walk_at "go"
  try (rw[nJ (by assumption)];walk_at "go")
  exact ⟨_,.refl _,k⟩
def aP:FSp:=λds μ Q=>kcA ds λd ds=>kcI ds λlo ds=>kcI ds λhi ds=>kcN ds (Any μ d/\Q (.bl (wiI lo hi d)) μ)
theorem jI:∀ ds μ Q,aP ds μ Q->ds.length=3:=λ_ _ _ h=>lcA h λ_ _ h=>lcI h λ_ _ h=>lcI h λ_ _ h=>by rw[(ecN h).1];rfl
def fo:STr:=aK (dD (ao cC (af (ah 0) (ar))) (gu rLe rLe (ah 1) (ah 0) (ah 2)))
theorem j9:∀ ds μ Q,aP ds μ Q->fo { nx:=λ_ μ'=>RT Q .non μ',rt:=RT Q } (ini 3 ds) μ:=by
 intro ds μ Q h
 replace h:=ecA h
 obtain ⟨d,ds,rfl,h⟩:=h
 replace h:=ecI h
 obtain ⟨lo,ds,rfl,h⟩:=h
 replace h:=ecI h
 obtain ⟨hi,ds,rfl,h⟩:=h
 replace h:=ecN h
 obtain ⟨rfl,h⟩:=h
 walk_at "ini"
 unfold fo
 walk_at "go"
 obtain ⟨t,k⟩:=h
 refine ⟨t,?_⟩
 cases t with
 | int hi'=>
  walk_at "go"
  simp only[isI]
  walk_at "go"
  simp only[wiI] at k
  refine kif (λh=>?_) λh=>?_
  ·rw[decide_eq_true h,U7] at k;exact ⟨_,.refl _,k⟩
  ·rw[decide_eq_false h,U6] at k;exact ⟨_,.refl _,k⟩
 | _=>
  walk_at "go"
  simp only[isI]
  walk_at "go"
  exact ⟨_,.refl _,k⟩
def bG:FSp:=λds μ Q=>kcA ds λd ds=>kcI ds λm ds=>kcN ds (Any μ d/\Q (.bl (isT m d)) μ)
theorem nI:∀ ds μ Q,bG ds μ Q->ds.length=2:=λ_ _ _ h=>lcA h λ_ _ h=>lcI h λ_ _ h=>by rw[(ecN h).1];rfl
def ju:STr:=aK (dD (TUn (dU "tuple") (ah 0)) (aq rEq (ao cI (af (ah 0) (ar))) (ah 1)))
theorem om:∀ ds μ Q,bG ds μ Q->ju { nx:=λ_ μ'=>RT Q .non μ',rt:=RT Q } (ini 2 ds) μ:=by
 intro ds μ Q h
 replace h:=ecA h
 obtain ⟨d,ds,rfl,h⟩:=h
 replace h:=ecI h
 obtain ⟨m,ds,rfl,h⟩:=h
 replace h:=ecN h
 obtain ⟨rfl,h⟩:=h
 walk_at "ini"
 unfold ju
 walk_at "go"
 obtain ⟨t,k⟩:=h
 cases t with
 | tup hd hl=>
  walk_at "go"
  exact ⟨_,.refl _,k⟩
 | _=>
  walk_at "go"
  try (rw[nJ (by assumption)];walk_at "go")
  exact ⟨_,.refl _,k⟩
def sm (c:Nat):Bool:=decide (97<=c)&&decide (c<=122)
def nmS (z:Str):Bool:=(decide (1<=z.cps.toList.length)&&decide (z.cps.toList.length<=8))&&z.cps.toList.all sm
def nmB:D->Bool
 | .str z=>nmS z
 | _=>false
def LET:Str:=OF "abcdefghijklmnopqrstuvwxyz"
theorem Lo:∀ c:Nat,c < 128->Cf LET ⟨#[c]⟩=sm c:=by
 have:∀ c:Fin 128,Cf LET ⟨#[c.val]⟩=sm c.val:=by decide +kernel
 exact λc h=>this ⟨c,h⟩
theorem gU (z:Str):z.cps.toList.length=z.length:=VS
def sgB:D->D
 | .str ⟨a⟩=>.bl (sm (a.getD 0 0))
 | d=>d
def bT:FSp:=λds μ Q=>kcA ds λd ds=>kcN ds (Any μ d/\Q (.bl (nmB d)) μ)
theorem vx:∀ ds μ Q,bT ds μ Q->ds.length=1:=λ_ _ _ h=>lcA h λ_ _ h=>by rw[(ecN h).1];rfl
def pW:STr:=aD (bp (TOr (bL (TB (TUn (dU "str") (ah 0)))) (bL (TB (gu rLe rLe (TC (.int 1)) (ao cI (af (ah 0) (ar))) (TC (.int 8)))))) (aK (TC (.bl false))) (aU)) (aK (ao yG (af (cp (Ib (ah 0)) (ax 0) (fe) (aq Km (ah 0) (TC (.str "abcdefghijklmnopqrstuvwxyz"))) 1 []) (ar))))
theorem yV:∀ ds μ Q,bT ds μ Q->pW { nx:=λ_ μ'=>RT Q .non μ',rt:=RT Q } (ini 1 ds) μ:=by
 intro ds μ Q h
 replace h:=ecA h
 obtain ⟨d,ds,rfl,h⟩:=h
 replace h:=ecN h
 obtain ⟨rfl,h⟩:=h
 walk_at "ini"
 unfold pW
 walk_at "go"
 obtain ⟨t,k⟩:=h
 cases t with
 | @str z hz hl=>
  walk_at "go"
  refine ⟨by omega,?_⟩
  walk_at "go"
  have e1:((1:Int)<=(z.length:Nat))↔1<=z.cps.toList.length:=by rw[gU];omega
  have e2:(((z.length:Nat):Int)<=8)↔z.cps.toList.length<=8:=by rw[gU];omega
  have no:¬ (1<=z.cps.toList.length/\z.cps.toList.length<=8)->RT Q (.bl false) μ:=λh=>by
   have:nmB (.str z)=false:=by
    show nmS z=false
    unfold nmS
    rw[← zbB,decide_eq_false h,U6]
   rw[this] at k
   exact ⟨_,.refl _,k⟩
  refine kif (λh1=>?_) λh1=>no λh=>h1 (e1.mpr h.1)
  refine yh (λh2=>no λh=>h2 (e2.mpr h.2)) λh2=>?_
  refine ⟨hz,?_⟩
  refine comp_map sgB (by rw[qS];have:z.cps.size=z.length:=rfl;omega) (λd hd μ' _ N n=>?_) ?_
  ·unfold uE at hd
   obtain ⟨c,hc,rfl⟩:=U3.mp hd
   have c1:c < 128:=by
    have:=Vh.mp hz c (by simpa using hc)
    simpa using this
   walk_at "go"
   rw[show Cf (OF "abcdefghijklmnopqrstuvwxyz") ⟨#[c]⟩=sm c from Lo c c1]
   exact n
  ·walk_at "go"
   refine ⟨z.cps.toList.map sm,?_,_,.refl _,?_⟩
   ·unfold uE
    rw[Vg,Vg];rfl
   ·have:nmB (.str z)=(z.cps.toList.map sm).all id:=by
     show nmS z=_
     unfold nmS
     rw[decide_eq_true (e1.mp h1),decide_eq_true (e2.mp h2),U7,U7,Xp];rfl
    rw[this] at k;exact k
 | _=>
  walk_at "go"
  try (rw[nJ (by assumption)];walk_at "go")
  exact ⟨_,.refl _,k⟩
def isF:D->Bool
 | .tup [.int p,.int q]=>decide (0 < q)&&decide (Vx p q=1)
 | _=>false
theorem two {d:D}(h:isT 2 d=true):∃ a b,d=.tup [a,b]:=by
 unfold isT at h
 split at h
 ·rename_i ds
  have h:=of_decide_eq_true h
  match ds,(show ds.length=2 by omega) with
  | [n,p],_=>exact ⟨n,p,rfl⟩
 ·cases h
theorem Kv {d:D}(h:isI d=true):∃ i,d=.int i:=by
 cases d with
 | int i=>exact ⟨i,rfl⟩
 | _=>cases h
theorem Sz {d:D}(h:isT 2 d=false):isF d=false:=by
 unfold isF
 split
 ·simp[isT] at h
 ·rfl
theorem RX {a b:D}(h:isI a=false):isF (.tup [a,b])=false:=by
 cases a with
 | int i=>cases h
 | _=>rfl
theorem RM {a b:D}(h:isI b=false):isF (.tup [a,b])=false:=by
 cases b with
 | int i=>cases h
 | _=>cases a<;>rfl
def cn:FSp:=λds μ Q=>kcA ds λd ds=>kcN ds (Any μ d/\Q (.bl (isF d)) μ)
theorem nC:∀ ds μ Q,cn ds μ Q->ds.length=1:=λ_ _ _ h=>lcA h λ_ _ h=>by rw[(ecN h).1];rfl
def jo:STr:=aD (bp (TOr (bL (TB (ao bG (af (ah 0) (af (TC (.int 2)) (ar)))))) (TOr (bL (TB (ao cC (af (aq L3.rIx (ah 0) (TC (.int 0))) (ar))))) (bL (TB (ao cC (af (aq L3.rIx (ah 0) (TC (.int 1))) (ar))))))) (aK (TC (.bl false))) (aU)) (aK (dD (aq rGt (aq L3.rIx (ah 0) (TC (.int 1))) (TC (.int 0))) (aq rEq (ao fR (af (aq L3.rIx (ah 0) (TC (.int 0))) (af (aq L3.rIx (ah 0) (TC (.int 1))) (ar)))) (TC (.int 1)))))
theorem oh:∀ ds μ Q,cn ds μ Q->jo { nx:=λ_ μ'=>RT Q .non μ',rt:=RT Q } (ini 1 ds) μ:=by
 intro ds μ Q h
 replace h:=ecA h
 obtain ⟨d,ds,rfl,h⟩:=h
 replace h:=ecN h
 obtain ⟨rfl,h⟩:=h
 walk_at "ini"
 unfold jo
 walk_at "go"
 obtain ⟨t,k⟩:=h
 have fin:∀ {b},isF d=b->RT Q (.bl b) μ:=λ{b} e=>by rw[e] at k;exact ⟨_,.refl _,k⟩
 refine ⟨t,?_⟩
 walk_at "go"
 refine gw (λh=>?_) λh=>fin (Sz h)
 obtain ⟨a,b,rfl⟩:=two h
 have ta:=t.cE a (by simp)
 have tb:=t.cE b (by simp)
 walk_at "go"
 refine ⟨ta,?_⟩
 walk_at "go"
 refine gw (λh1=>?_) λh1=>fin (RX h1)
 refine ⟨tb,?_⟩
 walk_at "go"
 refine gw (λh2=>?_) λh2=>fin (RM h2)
 obtain ⟨p,rfl⟩:=Kv h1
 obtain ⟨q,rfl⟩:=Kv h2
 walk_at "go"
 refine kif (λh=>?_) λh=>fin (by simp only[isF,decide_eq_false h,U6])
 refine ⟨rfl,fin ?_⟩
 simp only[isF,decide_eq_true h,U7,ub]
 exact decide_eq_decide.mpr (by omega)
def cD:FSp:=λds μ Q=>match ds with
 | [.tup [.int p,.int q],.tup [.int r,.int s]]=>((bE p/\bE q)/\bE r/\bE s)/\Q (.bl (decide (p*s < r*q))) μ
 | _=>False
theorem Dq:∀ ds μ Q,cD ds μ Q->ds.length=2:=by
 unfold cD
 walk_at "ln"
def zu:STr:=aK (aq rLt (aq iN (aq L3.rIx (ah 0) (TC (.int 0))) (aq L3.rIx (ah 1) (TC (.int 1)))) (aq iN (aq L3.rIx (ah 1) (TC (.int 0))) (aq L3.rIx (ah 0) (TC (.int 1)))))
theorem FH:∀ ds μ Q,cD ds μ Q->zu { nx:=λ_ μ'=>RT Q .non μ',rt:=RT Q } (ini 2 ds) μ:=by
 intro ds μ Q h
 unfold cD at h
 split at h
 case h_2=>exact h.elim
 rename_i p q r s
 walk_at "ini"
 unfold zu
 walk_at "go"
 obtain ⟨⟨⟨h1,h2⟩,h3,h4⟩,k⟩:=h
 exact ⟨h1.mul h4,h3.mul h2,_,.refl _,k⟩
theorem Hx {xs:List D}{c:Int}(c0:0<=c):atD xs c=xs[c.toNat]?:=by
 have:=bY c.toNat xs
 rwa [Int.toNat_of_nonneg c0] at this
def dS:FSp:=λds μ Q=>kcT ds λxs ds=>kcN ds (∃ d,(xs[xs.length - 1]? = some d/\xs≠[]/\xs.length<=1000)/\Q d μ)
theorem xY:∀ ds μ Q,dS ds μ Q->ds.length=1:=λ_ _ _ h=>lcT h λ_ _ h=>by rw[(ecN h).1];rfl
def rO:STr:=aK (aq L3.rIx (ah 0) (aq Bw (ao cI (af (ah 0) (ar))) (TC (.int 1))))
theorem Bm:∀ ds μ Q,dS ds μ Q->rO { nx:=λ_ μ'=>RT Q .non μ',rt:=RT Q } (ini 1 ds) μ:=by
 intro ds μ Q h
 replace h:=ecT h
 obtain ⟨xs,ds,rfl,h⟩:=h
 replace h:=ecN h
 obtain ⟨rfl,h⟩:=h
 walk_at "ini"
 unfold rO
 walk_at "go"
 obtain ⟨d,⟨h1,h2,h3⟩,k⟩:=h
 have l0:0 < xs.length:=zao.mpr h2
 rw[Hx (by omega),show ((xs.length:Int) - 1).toNat=xs.length - 1 by omega,h1]
 exact ⟨_,.refl _,k⟩
def geF (a b:Int):D->Bool
 | .tup [.int p,.int q]=>decide (a*q<=p*b)
 | _=>false
def leF (c e:Int):D->Bool
 | .tup [.int p,.int q]=>decide (p*e<=c*q)
 | _=>false
def gtF (a b:Int):D->Bool
 | .tup [.int p,.int q]=>decide (a*q < p*b)
 | _=>false
def wiF (a b c e:Int)(d:D):Bool:=isF d&&(geF a b d&&leF c e d)
def aJ:FSp:=λds μ Q=>match ds with
 | [d,.tup [.int a,.int b],.tup [.int c,.int e]]=>(Any μ d/\(bE a/\bE b)/\bE c/\bE e)/\Q (.bl (wiF a b c e d)) μ
 | _=>False
theorem rE (x y:Int):(!decide (x < y))=decide (y<=x):=by
 rw[← decide_not];exact decide_eq_decide.mpr (by omega)
theorem N7 {d:D}(h:isF d=true):∃ p q,d=.tup [.int p,.int q]:=by
 unfold isF at h
 split at h
 ·exact ⟨_,_,rfl⟩
 ·cases h
theorem Any.two {μ:Mu}{p q:Int}(t:Any μ (.tup [.int p,.int q])):bE p/\bE q:=⟨(t.cE (.int p) (by simp)).m,(t.cE (.int q) (by simp)).m⟩
theorem gN:∀ ds μ Q,aJ ds μ Q->ds.length=3:=by
 unfold aJ
 walk_at "ln"
def eO:STr:=aK (dD (ao cn (af (ah 0) (ar))) (dD (mS (ao cD (af (ah 0) (af (ah 1) (ar))))) (mS (ao cD (af (ah 2) (af (ah 0) (ar)))))))
theorem ik:∀ ds μ Q,aJ ds μ Q->eO { nx:=λ_ μ'=>RT Q .non μ',rt:=RT Q } (ini 3 ds) μ:=by
 intro ds μ Q h
 unfold aJ at h
 split at h
 case h_2=>exact h.elim
 rename_i d a b c e
 walk_at "ini"
 unfold eO
 walk_at "go"
 obtain ⟨⟨t,⟨ha,hb⟩,hc,he⟩,k⟩:=h
 refine ⟨t,?_⟩
 walk_at "go"
 unfold wiF at k
 refine sR (λh=>?_) λh=>?_
 ·rw[h,U7] at k
  obtain ⟨p,q,rfl⟩:=N7 h
  obtain ⟨h1,h2⟩:=t.two
  refine ⟨⟨⟨h1,h2⟩,ha,hb⟩,?_⟩
  walk_at "go"
  rw[rE]
  refine kif (λh'=>?_) λh'=>?_
  ·simp only[geF,decide_eq_true h',U7,leF] at k
   refine ⟨⟨⟨hc,he⟩,h1,h2⟩,?_⟩
   walk_at "go"
   rw[rE]
   exact ⟨_,.refl _,k⟩
  ·simp only[geF,decide_eq_false h',U6] at k
   exact ⟨_,.refl _,k⟩
 ·rw[h,U6] at k;exact ⟨_,.refl _,k⟩
def aM:FSp:=λds μ Q=>match ds with
 | [d,.tup [.int a,.int b],.tup [.int c,.int e]]=>(Any μ d/\(bE a/\bE b)/\bE c/\bE e)/\Q (.bl (wiF a b c e d&&gtF a b d)) μ
 | _=>False
theorem Dl {a b c e:Int}{d:D}(h:wiF a b c e d=true):∃ p q,d=.tup [.int p,.int q]:=by
 unfold wiF isF at h
 split at h
 ·exact ⟨_,_,rfl⟩
 ·cases h
theorem hW:∀ ds μ Q,aM ds μ Q->ds.length=3:=by
 unfold aM
 walk_at "ln"
def eQ:STr:=aK (dD (ao aJ (af (ah 0) (af (ah 1) (af (ah 2) (ar))))) (ao cD (af (ah 1) (af (ah 0) (ar)))))
theorem iO:∀ ds μ Q,aM ds μ Q->eQ { nx:=λ_ μ'=>RT Q .non μ',rt:=RT Q } (ini 3 ds) μ:=by
 intro ds μ Q h
 unfold aM at h
 split at h
 case h_2=>exact h.elim
 rename_i d a b c e
 walk_at "ini"
 unfold eQ
 walk_at "go"
 obtain ⟨⟨t,⟨ha,hb⟩,hc,he⟩,k⟩:=h
 refine ⟨⟨t,⟨ha,hb⟩,hc,he⟩,?_⟩
 walk_at "go"
 refine sR (λh=>?_) λh=>?_
 ·rw[h,U7] at k
  obtain ⟨p,q,rfl⟩:=Dl h
  exact ⟨⟨⟨ha,hb⟩,t.two⟩,_,.refl _,k⟩
 ·rw[h,U6] at k;exact ⟨_,.refl _,k⟩
theorem ND {w:Str}(h:w∈b8):UL w=true:=by
 simp only[b8,UQ,U2,or_false] at h
 rcases h with rfl | rfl | rfl | rfl | rfl
 ·exact oE
 ·exact rh
 ·exact nY
 ·exact tI
 ·exact sS
def lo2 (w:Str):Int:=if w=OF "swell" then 1 else 0
def grw (w:Str)(a u t:D):Bool:=wiF 1 1 60 1 t&&((match t with
 | .tup [.int r,.int s]=>wiF 1 1 r s a
 | _=>false)&&(wiF (lo2 w) 1 60 1 u&&gtF (lo2 w) 1 u))
def bO:FSp:=λds μ Q=>match ds with
 | [.tup (.str w::a::u::xs)]=>∃ t,(w∈b8/\xs[xs.length - 1]? = some t/\(xs≠[]/\xs.length<=50)/\Any μ a/\Any μ u/\Any μ t)/\Q (.bl (grw w a u t)) μ
 | _=>False
theorem nU:∀ ds μ Q,bO ds μ Q->ds.length=1:=by
 unfold bO
 walk_at "ln"
def kh:STr:=aD (aZ (bw (af (TC (.int 60)) (af (TC (.int 1)) (ar)))) (ax 1)) (aD (bp (bL (TB (ao aJ (af (ao dS (af (ah 0) (ar))) (af (TC (.tup [.int 1,.int 1])) (af (ah 1) (ar))))))) (aK (TC (.bl false))) (aU)) (aD (aZ (oo (TB (aq rEq (aq L3.rIx (ah 0) (TC (.int 0))) (TC (.str "swell")))) (TC (.tup [.int 1,.int 1])) (TC (.tup [.int 0,.int 1]))) (ax 2)) (aK (dD (ao aJ (af (aq L3.rIx (ah 0) (TC (.int 1))) (af (TC (.tup [.int 1,.int 1])) (af (ao dS (af (ah 0) (ar))) (ar))))) (ao aM (af (aq L3.rIx (ah 0) (TC (.int 2))) (af (ah 2) (af (ah 1) (ar)))))))))
theorem qd:∀ ds μ Q,bO ds μ Q->kh { nx:=λ_ μ'=>RT Q .non μ',rt:=RT Q } (ini 3 ds) μ:=by
 intro ds μ Q h
 unfold bO at h
 split at h
 case h_2=>exact h.elim
 rename_i w a u xs
 walk_at "ini"
 unfold kh
 walk_at "go"
 obtain ⟨t,⟨hw,hx,⟨hx0,hx1⟩,ta,tu,tt⟩,k⟩:=h
 have hl:((.str w:D)::a::u::xs)[((.str w:D)::a::u::xs).length - 1]? = some t:=by
  have:xs.length≠0:=λz=>hx0 (Wm.mp z)
  rw[show ((.str w:D)::a::u::xs).length - 1=(xs.length - 1)+3 by simp;omega]
  simpa using hx
 have n1:bE 1:=by unfold bE;omega
 have n0:bE 0:=by unfold bE;omega
 have n60:bE 60:=by unfold bE;omega
 refine ⟨t,⟨hl,by simp,by simp;omega⟩,?_⟩
 refine ⟨⟨tt,⟨n1,n1⟩,n60,n1⟩,?_⟩
 walk_at "go"
 unfold grw at k
 refine gw (λh=>?_) λh=>?_
 rotate_left
 ·rw[h,U6] at k;exact ⟨_,.refl _,k⟩
 rw[h,U7] at k
 obtain ⟨r,s,rfl⟩:=Dl h
 obtain ⟨h1,h2⟩:=tt.two
 refine ⟨ND hw,?_⟩
 have key:∀ lw,lo2 w=lw->bE lw->gZ dS [.tup (.str w::a::u::xs)] μ λx μ1=>gZ aJ [a,.tup [.int 1,.int 1],x] μ1 λx μ1=>kB x λc=>kIf c (gZ aM [u,.tup [.int lw,.int 1],.tup [.int 60,.int 1]] μ1 (RT Q)) (RT Q (.bl false) μ1):=λlw el nl=>by
  rw[el] at k
  refine ⟨_,⟨hl,by simp,by simp;omega⟩,⟨ta,⟨n1,n1⟩,h1,h2⟩,?_⟩
  walk_at "go"
  refine sR (λh'=>?_) λh'=>?_
  ·simp only[h',U7] at k
   exact ⟨⟨tu,⟨nl,n1⟩,n60,n1⟩,_,.refl _,k⟩
  ·simp only[h',U6] at k
   exact ⟨_,.refl _,k⟩
 exact kif (λc=>key 1 (by unfold lo2;rw[if_pos c]) n1) λc=>key 0 (by unfold lo2;rw[if_neg c]) n0
def Ec (l h:D):Bool:=wiI 0 60 h&&(match h with
 | .int i=>wiI 0 i l
 | _=>false)
def cF:FSp:=λds μ Q=>kcA ds λl ds=>kcA ds λh ds=>kcN ds ((Any μ l/\Any μ h)/\Q (.bl (Ec l h)) μ)
theorem mj:∀ ds μ Q,cF ds μ Q->ds.length=2:=λ_ _ _ h=>lcA h λ_ _ h=>lcA h λ_ _ h=>by rw[(ecN h).1];rfl
def ir:STr:=aK (dD (ao aP (af (ah 1) (af (TC (.int 0)) (af (TC (.int 60)) (ar))))) (ao aP (af (ah 0) (af (TC (.int 0)) (af (ah 1) (ar))))))
theorem mU:∀ ds μ Q,cF ds μ Q->ir { nx:=λ_ μ'=>RT Q .non μ',rt:=RT Q } (ini 2 ds) μ:=by
 intro ds μ Q h
 replace h:=ecA h
 obtain ⟨l,ds,rfl,h⟩:=h
 replace h:=ecA h
 obtain ⟨hx,ds,rfl,h⟩:=h
 replace h:=ecN h
 obtain ⟨rfl,h⟩:=h
 walk_at "ini"
 unfold ir
 walk_at "go"
 obtain ⟨⟨tl,th⟩,k⟩:=h
 unfold Ec at k
 refine ⟨th,?_⟩
 walk_at "go"
 refine sR (λh'=>?_) λh'=>?_
 ·simp only[h',U7] at k
  cases hx with
  | int i=>exact ⟨tl,_,.refl _,k⟩
  | _=>cases h'
 ·simp only[h',U6] at k
  exact ⟨_,.refl _,k⟩
def four (w:Str):Prop:=w=OF "step" ∨ w=OF "swell" ∨ w=OF "heed"
def abF (d:D):Bool:=wiF 0 1 1 1 d&&gtF 0 1 d
def Nu:D->Bool
 | .tup [.int p,.int q]=>decide (p*1 < 1*q)
 | _=>false
def okR (w:Str):List D->Bool
 | [a]=>wiF 1 1 60 1 a
 | [a,u,g,t]=>grw w a u t&&(if w=OF "heed" then abF g else abF g&&Nu g)
 | [a,u,l,h,t]=>grw w a u t&&Ec l h
 | _=>false
abbrev iM:List (Str×D):=[((OF "still"),(.int 2:D)),((OF "step"),(.int 5:D)),((OF "swell"),(.int 5:D)),((OF "heed"),(.int 5:D)),((OF "calm"),(.int 6:D))]
def MV (o:Option D)(xs:List D):Bool:=match o with
 | some d=>eqD (.int ((xs.length+1:Nat):Int)) d
 | none=>false
def gq:D->Bool
 | .tup (.str w::xs)=>MV (bx iM w) xs&&okR w xs
 | _=>false
theorem qO (w:Str)(xs:List D):gq (.tup (.str w::xs))=(MV (bx iM w) xs&&okR w xs):=rfl
theorem NS {w:Str}{d:D}(h:bx iM w=some d):(w=OF "still" /\ d=.int 2)∨(four w/\d=.int 5)∨(w=OF "calm" /\ d=.int 6):=by
 unfold bx iM at h
 rw[Option.map_eq_some_iff] at h
 obtain ⟨x,hx,rfl⟩:=h
 have h1:=List.mem_of_find?_eq_some hx
 have h2:x.1=w:=by have:=List.find?_some hx;simpa using this
 simp only[UQ,U2,or_false] at h1
 rcases h1 with rfl | rfl | rfl | rfl | rfl<;>simp only at h2<;>subst h2
 ·exact .inl ⟨rfl,rfl⟩
 ·exact .inr (.inl ⟨.inl rfl,rfl⟩)
 ·exact .inr (.inl ⟨.inr (.inl rfl),rfl⟩)
 ·exact .inr (.inl ⟨.inr (.inr rfl),rfl⟩)
 ·exact .inr (.inr ⟨rfl,rfl⟩)
theorem JI {w:Str}{xs:List D}(h:bx iM w=none):gq (.tup (.str w::xs))=false:=by rw[qO,h];rfl
theorem iD {w:Str}{xs:List D}{n:Int}(h:bx iM w=some (.int n))(hl:¬ ((xs.length+1:Nat):Int)=n):gq (.tup (.str w::xs))=false:=by rw[qO,h];simp only[MV,ub,decide_eq_false hl,U6]
theorem cA {w:Str}{xs:List D}{n:Int}(h:bx iM w=some (.int n))(hl:((xs.length+1:Nat):Int)=n):gq (.tup (.str w::xs))=okR w xs:=by rw[qO,h];simp only[MV,ub,decide_eq_true hl,U7]
theorem EY {w:Str}(h:four w):w∈b8:=by rcases h with rfl | rfl | rfl<;>simp[b8]
def fN:FSp:=λds μ Q=>kcA ds λd ds=>kcN ds (Any μ d/\Q (.bl (gq d)) μ)
theorem vt:∀ ds μ Q,fN ds μ Q->ds.length=1:=λ_ _ _ h=>lcA h λ_ _ h=>by rw[(ecN h).1];rfl
def oZ:STr:=aD (bp (TOr (bL (TB (TUn (dU "tuple") (ah 0)))) (TOr (TB (aq rEq (ao cI (af (ah 0) (ar))) (TC (.int 0)))) (bL (TB (TUn (dU "str") (aq L3.rIx (ah 0) (TC (.int 0)))))))) (aK (TC (.bl false))) (aU)) (aD (aZ (aq L3.rIx (ah 0) (TC (.int 0))) (ax 1)) (aD (bp (TOr (TB (sX true [((OF "still"),(.int 2:D)),((OF "step"),(.int 5:D)),((OF "swell"),(.int 5:D)),((OF "heed"),(.int 5:D)),((OF "calm"),(.int 6:D))] (ah 1))) (TB (aq rNe (ao cI (af (ah 0) (ar))) (tX [((OF "still"),(.int 2:D)),((OF "step"),(.int 5:D)),((OF "swell"),(.int 5:D)),((OF "heed"),(.int 5:D)),((OF "calm"),(.int 6:D))] (ah 1))))) (aK (TC (.bl false))) (aU)) (aD (bp (TB (aq rEq (ah 1) (TC (.str "still")))) (aK (ao aJ (af (aq L3.rIx (ah 0) (TC (.int 1))) (af (TC (.tup [.int 1,.int 1])) (af (bw (af (TC (.int 60)) (af (TC (.int 1)) (ar)))) (ar)))))) (aU)) (aD (bp (bL (TB (ao bO (af (ah 0) (ar))))) (aK (TC (.bl false))) (aU)) (aD (bp (TB (aq rEq (ah 1) (TC (.str "calm")))) (aK (ao cF (af (aq L3.rIx (ah 0) (TC (.int 3))) (af (aq L3.rIx (ah 0) (TC (.int 4))) (ar))))) (aU)) (aD (bp (TB (aq rEq (ah 1) (TC (.str "heed")))) (aK (ao aM (af (aq L3.rIx (ah 0) (TC (.int 3))) (af (TC (.tup [.int 0,.int 1])) (af (TC (.tup [.int 1,.int 1])) (ar)))))) (aU)) (aK (dD (ao aM (af (aq L3.rIx (ah 0) (TC (.int 3))) (af (TC (.tup [.int 0,.int 1])) (af (TC (.tup [.int 1,.int 1])) (ar))))) (ao cD (af (aq L3.rIx (ah 0) (TC (.int 3))) (af (TC (.tup [.int 1,.int 1])) (ar))))))))))))
theorem yS:∀ ds μ Q,fN ds μ Q->oZ { nx:=λ_ μ'=>RT Q .non μ',rt:=RT Q } (ini 2 ds) μ:=by
 intro ds μ Q h
 replace h:=ecA h
 obtain ⟨d,ds,rfl,h⟩:=h
 replace h:=ecN h
 obtain ⟨rfl,h⟩:=h
 walk_at "ini"
 unfold oZ
 walk_at "go"
 obtain ⟨t,k⟩:=h
 have fin:∀ {b},gq d=b->RT Q (.bl b) μ:=λ{b} e=>by rw[e] at k;exact ⟨_,.refl _,k⟩
 have n1:bE 1:=by unfold bE;omega
 have n0:bE 0:=by unfold bE;omega
 have n60:bE 60:=by unfold bE;omega
 cases t with
 | @tup ds hd hl=>
  cases ds with
  | nil=>
   walk_at "go"
   exact fin rfl
  | cons x xs=>
   walk_at "go"
   refine Bf (by simp;omega) ?_
   have tx:=hd x UK
   cases tx with
   | @str w hw hwl=>
    walk_at "go"
    cases e:bx iM w with
    | none=>exact fin (JI e)
    | some d=>
     have hx:∀ d∈xs,Any μ d:=λd h=>hd d (UN _ h)
     rcases NS e with ⟨rfl,rfl⟩ | ⟨h4,rfl⟩ | ⟨rfl,rfl⟩
     ·walk_at "go"
      refine yh (λhne=>fin (iD e (by simpa using hne))) λhe=>?_
      obtain ⟨a,rfl⟩:∃ a,xs=[a]:=by
       simp only[UX] at he
       match xs,(show xs.length=1 by omega) with
       | [a],_=>exact ⟨a,rfl⟩
      have ta:=hx a (by simp)
      walk_at "go"
      exact ⟨⟨ta,⟨n1,n1⟩,n60,n1⟩,fin (cA e rfl)⟩
     ·have h5:=EY h4
      have h6:=ND h5
      have gr:((xs.length+1:Nat):Int)=5->∃ a u g t,xs=[a,u,g,t]/\(Any μ a/\Any μ u/\Any μ g/\Any μ t):=λhe=>by
       match xs,(show xs.length=4 by omega) with
       | [a,u,g,t],_=>exact ⟨a,u,g,t,rfl,hx a (by simp),hx u (by simp),hx g (by simp),hx t (by simp)⟩
      have two:∀ g t a u,xs=[a,u,g,t]->Any μ g->grw w a u t=true->¬ w=OF "heed" -> gZ aM [g,.tup [.int 0,.int 1],.tup [.int 1,.int 1]] μ λx μ1=>kB x λc=>kIf c (gZ cD [g,.tup [.int 1,.int 1]] μ1 (RT Q)) (RT Q (.bl false) μ1):=λg t a u ex tg hg nh=>by
       subst ex
       have ek:=cA (xs:=[a,u,g,t]) e rfl
       simp only[okR,hg,U7,nh,if_false] at ek
       refine ⟨⟨tg,⟨n0,n1⟩,n1,n1⟩,?_⟩
       show kIf (abF g) _ _
       refine sR (λh2=>?_) λh2=>fin (by rw[ek,h2];rfl)
       obtain ⟨p,q,rfl⟩:=Dl (Bool.and_eq_true_iff.mp h2).1
       obtain ⟨h3,h4⟩:=tg.two
       exact ⟨⟨⟨h3,h4⟩,n1,n1⟩,fin (by rw[ek,h2];rfl)⟩
      have grow:∀ (a u g t:D) (A B:Mu->Prop),xs=[a,u,g,t]->Any μ a->Any μ u->Any μ t->(grw w a u t=true->B μ)->(grw w a u t=false->A μ)->gZ bO [.tup (.str w::xs)] μ λx μ1=>kB x λc=>kIf (!c) (A μ1) (B μ1):=λa u g t A B ex ta tu tt h1 h2=>by
       subst ex
       refine ⟨t,⟨h5,rfl,⟨by simp,by simp⟩,ta,tu,tt⟩,?_⟩
       show kIf _ _ _
       exact gw h1 h2
      rcases h4 with rfl | rfl | rfl
      ·walk_at "go"
       refine yh (λhne=>fin (iD e (by simpa using hne))) λhe=>?_
       obtain ⟨a,u,g,t,ex,ta,tu,tg,tt⟩:=gr (by simpa using he)
       refine grow a u g t _ _ ex ta tu tt (λh=>?_) λh=>fin (by subst ex;rw[cA e rfl];simp only[okR,h,U6])
       have tw2:=two g t a u ex tg h (of_eq_false d7)
       subst ex
       walk_at "go"
       exact tw2
      ·walk_at "go"
       refine yh (λhne=>fin (iD e (by simpa using hne))) λhe=>?_
       obtain ⟨a,u,g,t,ex,ta,tu,tg,tt⟩:=gr (by simpa using he)
       refine grow a u g t _ _ ex ta tu tt (λh=>?_) λh=>fin (by subst ex;rw[cA e rfl];simp only[okR,h,U6])
       have tw2:=two g t a u ex tg h (of_eq_false dq)
       subst ex
       walk_at "go"
       exact tw2
      ·walk_at "go"
       refine yh (λhne=>fin (iD e (by simpa using hne))) λhe=>?_
       obtain ⟨a,u,g,t,ex,ta,tu,tg,tt⟩:=gr (by simpa using he)
       refine grow a u g t _ _ ex ta tu tt (λh=>?_) λh=>fin (by subst ex;rw[cA e rfl];simp only[okR,h,U6])
       subst ex
       walk_at "go"
       exact ⟨⟨tg,⟨n0,n1⟩,n1,n1⟩,fin (by rw[cA e rfl];simp only[okR,h,U7,if_true];rfl)⟩
     ·walk_at "go"
      refine yh (λhne=>fin (iD e (by simpa using hne))) λhe=>?_
      obtain ⟨a,u,l,h,t,rfl⟩:∃ a u l h t,xs=[a,u,l,h,t]:=by
       simp only[UX] at he
       match xs,(show xs.length=5 by omega) with
       | [a,u,l,h,t],_=>exact ⟨a,u,l,h,t,rfl⟩
      have ta:=hx a (by simp)
      have tu:=hx u (by simp)
      have tl:=hx l (by simp)
      have th:=hx h (by simp)
      have tt:=hx t (by simp)
      have ek:=cA (xs:=[a,u,l,h,t]) e rfl
      walk_at "go"
      refine ⟨t,⟨by simp[b8],rfl,⟨by simp,by simp⟩,ta,tu,tt⟩,?_⟩
      show kIf _ _ _
      refine gw (λh=>?_) λh=>fin (by rw[ek];simp only[okR,h,U6])
      walk_at "go"
      exact ⟨⟨tl,th⟩,fin (by rw[ek];simp only[okR,h,U7])⟩
   | _=>
    walk_at "go"
    try (rw[nJ (by assumption)];walk_at "go")
    exact fin rfl
 | _=>
  walk_at "go"
  try (rw[nJ (by assumption)];walk_at "go")
  exact fin rfl
def nwB (hi:Int):D->Bool
 | .non=>true
 | d=>wiI 0 hi d
def bC:FSp:=λds μ Q=>kcA ds λd ds=>kcI ds λhi ds=>kcN ds (Any μ d/\Q (.bl (nwB hi d)) μ)
theorem ip:∀ ds μ Q,bC ds μ Q->ds.length=2:=λ_ _ _ h=>lcA h λ_ _ h=>lcI h λ_ _ h=>by rw[(ecN h).1];rfl
def eP:STr:=aK (Am (aq rIs (ah 0) (TC .non)) (ao aP (af (ah 0) (af (TC (.int 0)) (af (ah 1) (ar))))))
theorem i9:∀ ds μ Q,bC ds μ Q->eP { nx:=λ_ μ'=>RT Q .non μ',rt:=RT Q } (ini 2 ds) μ:=by
 intro ds μ Q h
 replace h:=ecA h
 obtain ⟨d,ds,rfl,h⟩:=h
 replace h:=ecI h
 obtain ⟨hi,ds,rfl,h⟩:=h
 replace h:=ecN h
 obtain ⟨rfl,h⟩:=h
 walk_at "ini"
 unfold eP
 walk_at "go"
 obtain ⟨t,k⟩:=h
 have t':=t
 cases t with
 | non=>
  walk_at "go"
  exact ⟨_,.refl _,k⟩
 | _=>
  walk_at "go"
  exact ⟨t',_,.refl _,k⟩
def soB:D->Bool
 | .str z=>decide (z=OF "line") || decide (z=OF "turns")
 | _=>false
def eM:FSp:=λds μ Q=>kcA ds λd ds=>kcN ds (Any μ d/\Q (.bl (soB d)) μ)
theorem nX {z:Str}(h:z.cps.all (· < 128)=true):UL z=true:=by
 unfold UL
 rw[Vh] at h ⊢
 intro c hc
 have:=h c hc
 simp only[decide_eq_true_eq] at this ⊢
 omega
theorem Ld:UL (OF "line")=true:=by decide +kernel
theorem Jp:UL (OF "turns")=true:=by decide +kernel
theorem vH:∀ ds μ Q,eM ds μ Q->ds.length=1:=λ_ _ _ h=>lcA h λ_ _ h=>by rw[(ecN h).1];rfl
def oR:STr:=aK (dD (TUn (dU "str") (ah 0)) (aq (CT false) (ah 0) (bw (af (TC (.str "line")) (af (TC (.str "turns")) (ar))))))
theorem xo:∀ ds μ Q,eM ds μ Q->oR { nx:=λ_ μ'=>RT Q .non μ',rt:=RT Q } (ini 1 ds) μ:=by
 intro ds μ Q h
 replace h:=ecA h
 obtain ⟨d,ds,rfl,h⟩:=h
 replace h:=ecN h
 obtain ⟨rfl,h⟩:=h
 walk_at "ini"
 unfold oR
 walk_at "go"
 obtain ⟨t,k⟩:=h
 cases t with
 | @str z hz hl=>
  walk_at "go"
  refine ⟨⟨by simp[ck,okD,Ld,Jp],by simp[okD,nX hz]⟩,?_⟩
  have e:inG (.str z) [.str "line", .str "turns"]=soB (.str z):=by
   simp only[inG,soB,Yd,List.any_nil,nR,zas]
   first | rfl | (congr 1<;>exact decide_eq_decide.mpr ⟨Eq.symm,Eq.symm⟩)
  rw[← e] at k
  exact ⟨_,.refl _,k⟩
 | _=>
  walk_at "go"
  try (rw[nJ (by assumption)];walk_at "go")
  exact ⟨_,.refl _,k⟩
def dW:D->Bool
 | .tup [n,p,r,m,s]=>nmB n&&(wiI 1 20 p&&(wiI 1 60 r&&(nwB 60 m&&soB s)))
 | _=>false
theorem Tq {d:D}(h:isT 5 d=true):∃ n p r m s,d=.tup [n,p,r,m,s]:=by
 unfold isT at h
 split at h
 ·rename_i ds
  have h:=of_decide_eq_true h
  match ds,(show ds.length=5 by omega) with
  | [n,p,r,m,s],_=>exact ⟨n,p,r,m,s,rfl⟩
 ·cases h
theorem TR {d:D}(h:isT 5 d=false):dW d=false:=by
 unfold dW
 split
 ·simp[isT] at h
 ·rfl
def gF:FSp:=λds μ Q=>kcA ds λd ds=>kcN ds (Any μ d/\Q (.bl (dW d)) μ)
theorem xS:∀ ds μ Q,gF ds μ Q->ds.length=1:=λ_ _ _ h=>lcA h λ_ _ h=>by rw[(ecN h).1];rfl
def tW:STr:=aD (bp (TOr (bL (TB (ao bG (af (ah 0) (af (TC (.int 5)) (ar)))))) (bL (TB (ao bT (af (aq L3.rIx (ah 0) (TC (.int 0))) (ar)))))) (aK (TC (.bl false))) (aU)) (aD (bp (TOr (bL (TB (ao aP (af (aq L3.rIx (ah 0) (TC (.int 1))) (af (TC (.int 1)) (af (TC (.int 20)) (ar))))))) (bL (TB (ao aP (af (aq L3.rIx (ah 0) (TC (.int 2))) (af (TC (.int 1)) (af (TC (.int 60)) (ar)))))))) (aK (TC (.bl false))) (aU)) (aK (dD (ao bC (af (aq L3.rIx (ah 0) (TC (.int 3))) (af (TC (.int 60)) (ar)))) (ao eM (af (aq L3.rIx (ah 0) (TC (.int 4))) (ar))))))
theorem zR:∀ ds μ Q,gF ds μ Q->tW { nx:=λ_ μ'=>RT Q .non μ',rt:=RT Q } (ini 1 ds) μ:=by
 intro ds μ Q h
 replace h:=ecA h
 obtain ⟨d,ds,rfl,h⟩:=h
 replace h:=ecN h
 obtain ⟨rfl,h⟩:=h
 walk_at "ini"
 unfold tW
 walk_at "go"
 obtain ⟨t,k⟩:=h
 have fin:∀ {b},dW d=b->RT Q (.bl b) μ:=λ{b} e=>by rw[e] at k;exact ⟨_,.refl _,k⟩
 refine ⟨t,?_⟩
 walk_at "go"
 refine gw (λh=>?_) λh=>fin (TR h)
 obtain ⟨n,p,r,m,s,rfl⟩:=Tq h
 have tn:=t.cE n (by simp)
 have tp:=t.cE p (by simp)
 have tr:=t.cE r (by simp)
 have tm:=t.cE m (by simp)
 have ts:=t.cE s (by simp)
 walk_at "go"
 refine ⟨tn,?_⟩
 walk_at "go"
 refine gw (λh1=>?_) λh1=>fin (by simp[dW,h1])
 refine ⟨tp,?_⟩
 walk_at "go"
 refine gw (λh2=>?_) λh2=>fin (by simp[dW,h2])
 refine ⟨tr,?_⟩
 walk_at "go"
 refine gw (λh3=>?_) λh3=>fin (by simp[dW,h3])
 refine ⟨tm,?_⟩
 walk_at "go"
 refine sR (λh4=>?_) λh4=>fin (by simp[dW,h4])
 refine ⟨ts,?_⟩
 exact fin (by simp[dW,h1,h2,h3,h4])
def nmD:D->Str
 | .tup (.str z::_)=>z
 | _=>XC
theorem Hz {κ:Type} [DecidableEq κ]:∀ (ks σ:List κ),(ddS σ ks).length<=σ.length+ks.length:=by
 intro ks
 induction ks with
 | nil=>intro σ;exact U0 _
 | cons k r ih=>
  intro σ
  unfold ddS
  have:=ih (if k∈σ then σ else σ++[k])
  rw[UX]
  split at this
  ·rename_i h;rw[if_pos h];omega
  ·rename_i h;rw[if_neg h];rw[UY,Xg] at this;omega
theorem Ku {κ:Type} [DecidableEq κ]:∀ (ks σ:List κ),(σ++ks).Nodup->ddS σ ks=σ++ks:=by
 intro ks
 induction ks with
 | nil=>intro σ _;simp[ddS]
 | cons k r ih=>
  intro σ h
  unfold ddS
  have nk:k ∉ σ:=λhk=>(Xj.mp h).2.2 k hk k UK rfl
  rw[if_neg nk,ih _ (by rw[V7];exact h),V7];rfl
theorem Hv {κ:Type} [DecidableEq κ]:∀ (ks σ:List κ),σ.Nodup->(ddS σ ks).length=σ.length+ks.length->(σ++ks).Nodup:=by
 intro ks
 induction ks with
 | nil=>intro σ h _;rw[Ve];exact h
 | cons k r ih=>
  intro σ h e
  unfold ddS at e
  by_cases hk:k∈σ
  ·rw[if_pos hk] at e
   have:=Hz r σ
   rw[UX] at e
   omega
  ·rw[if_neg hk] at e
   have:=ih (σ++[k]) (Xj.mpr ⟨h,by simp,λx hx y hy e=>hk (by rw[UZ] at hy;rw[← hy,← e];exact hx)⟩) (by rw[e,UY,UX];simp;omega)
   simp only[V7] at this
   exact this
theorem La (ss:List Str):(ddT ss).length=ss.length↔ss.Nodup:=by
 constructor
 ·intro h;have:=Hv ss [] .nil (by rw[Yv,Nat.zero_add];exact h);exact this
 ·intro h;rw[show ddT ss=ss from Ku ss [] h]
def jx:D->Bool
 | .tup ds=>(decide (1<=ds.length)&&decide (ds.length<=6))&&(ds.all dW&&decide ((ds.map nmD).Nodup))
 | _=>false
theorem yZ {d:D}(h:dW d=true):∃ z r,d=.tup (.str z::r)/\nmS z=true:=by
 unfold dW at h
 split at h
 ·rename_i n p r m s
  cases n with
  | str z=>rw[UM] at h;exact ⟨z,_,rfl,h.1⟩
  | _=>simp[nmB] at h
 ·cases h
def eZ:FSp:=λds μ Q=>kcA ds λd ds=>kcN ds (Any μ d/\Q (.bl (jx d)) μ)
theorem sD:∀ ds μ Q,eZ ds μ Q->ds.length=1:=λ_ _ _ h=>lcA h λ_ _ h=>by rw[(ecN h).1];rfl
def nz:STr:=aD (bp (TOr (bL (TB (TUn (dU "tuple") (ah 0)))) (bL (TB (gu rLe rLe (TC (.int 1)) (ao cI (af (ah 0) (ar))) (TC (.int 6)))))) (aK (TC (.bl false))) (aU)) (aD (bp (bL (TB (ao yG (af (cp (fk (ah 0)) (ax 0) (fe) (ao gF (af (ah 0) (ar))) 1 []) (ar))))) (aK (TC (.bl false))) (aU)) (aK (aq rEq (xc (cp (fk (ah 0)) (ax 0) (fe) (aq L3.rIx (ah 0) (TC (.int 0))) 1 [])) (ao cI (af (ah 0) (ar))))))
theorem vh:∀ ds μ Q,eZ ds μ Q->nz { nx:=λ_ μ'=>RT Q .non μ',rt:=RT Q } (ini 1 ds) μ:=by
 intro ds μ Q h
 replace h:=ecA h
 obtain ⟨d,ds,rfl,h⟩:=h
 replace h:=ecN h
 obtain ⟨rfl,h⟩:=h
 walk_at "ini"
 unfold nz
 walk_at "go"
 obtain ⟨t,k⟩:=h
 have fin:∀ {b},jx d=b->RT Q (.bl b) μ:=λ{b} e=>by rw[e] at k;exact ⟨_,.refl _,k⟩
 cases t with
 | @tup ds hd hl=>
  walk_at "go"
  have e1:((1:Int)<=(ds.length:Nat))↔1<=ds.length:=by omega
  have e2:(((ds.length:Nat):Int)<=6)↔ds.length<=6:=by omega
  refine kif (λh1=>?_) λh1=>fin (by simp only[jx];rw[decide_eq_false (λz=>h1 (e1.mpr z))];rfl)
  refine yh (λh2=>fin (by simp only[jx];rw[decide_eq_false (λz=>h2 (e2.mpr z)),WJ];rfl)) λh2=>?_
  have eb:jx (.tup ds)=(ds.all dW&&decide ((ds.map nmD).Nodup)):=by simp only[jx];rw[decide_eq_true (e1.mp h1),decide_eq_true (e2.mp h2)];rfl
  refine comp_map (λd=>.bl (dW d)) (by omega) (λd hd' μ' sb N n=>?_) ?_
  ·walk_at "go"
   exact ⟨(hd d hd').sub sb,n⟩
  ·walk_at "go"
   refine ⟨ds.map dW,by rw[Vg];rfl,?_⟩
   walk_at "go"
   have ea:(ds.map dW).all id=ds.all dW:=by rw[Xp];rfl
   rw[ea]
   refine gw (λh3=>?_) λh3=>fin (by rw[eb,h3];rfl)
   have hw:=Vv.mp h3
   refine comp_map (λd=>.str (nmD d)) (by omega) (λd hd' μ' sb N n=>?_) ?_
   ·obtain ⟨z,r,rfl,_⟩:=yZ (hw d hd')
    walk_at "go"
    exact n
   ·walk_at "go"
    refine ⟨ds.map nmD,⟨by rw[Vg];rfl,by rw[UJ];omega⟩,?_⟩
    walk_at "go"
    refine fin ?_
    rw[eb,h3,U7]
    refine decide_eq_decide.mpr ?_
    rw[← La,UJ]
    omega
 | _=>
  walk_at "go"
  try (rw[nJ (by assumption)];walk_at "go")
  exact fin rfl
theorem kc {a b:Str}(h:a.cps.toList=b.cps.toList):a=b:=by
 cases a with | mk x=>cases b with | mk y=>exact congrArg Str.mk (Array.toList_inj.mp h)
theorem Ih (w:Str)(os:List Str):inG (.str w) (os.map .str)=decide (w∈os):=by
 unfold inG
 rw[List.any_map]
 refine zbx.mpr ?_
 rw[X9,decide_eq_true_eq]
 constructor
 ·rintro ⟨x,hx,q⟩
  simp only[Yx,nR,decide_eq_true_eq] at q
  rw[← q];exact hx
 ·intro h
  exact ⟨w,h,by simp only[Yx,nR,decide_true]⟩
theorem mM {k:Nat}{zs:List Str}(h:∀ z∈zs,UL z=true):ck k (zs.map .str)=true:=by
 induction zs with
 | nil=>rfl
 | cons z r ih=>
  rw[Vt,ck,UM]
  exact ⟨by cases k<;>simpa[okD] using h z UK,ih λy q=>h y (UN _ q)⟩
def xB (ns:List Str)(z:Str):Nat:=ns.findIdx λy=>decide (y=z)
theorem G4 {ns:List Str}{z:Str}(h:z∈ns):Fs (ns.map .str) (.str z)=some (xB ns z):=by
 unfold Fs xB
 rw[List.findIdx?_map,List.findIdx?_eq_some_iff_findIdx_eq]
 have e:((λy=>eqD y (D.str z)) ∘ D.str)=λy=>decide (y=z):=by funext y;simp only[Yx,nR]
 rw[e]
 exact ⟨X0 ⟨z,h,by simp⟩,rfl⟩
def fH (ns:List Str):Nat->List D->Bool
 | _,[]=>true
 | b,.str z::r=>nmS z&&(decide (z∈ns.drop b)&&fH ns (xB ns z+1) r)
 | _,_::_=>false
def jC (ns:List Str):D->Bool
 | .tup ds=>decide (ds≠[])&&fH ns 0 ds
 | _=>false
theorem xg {z:Str}(h:nmS z=true):UL z=true:=by
 refine nX ?_
 unfold nmS at h
 simp only[UM,Vv] at h
 rw[Vh]
 intro c hc
 have:=h.2 c (WV.mpr hc)
 simp only[sm,UM,decide_eq_true_eq] at this
 exact decide_eq_true (show _ by omega)
theorem IT {ns:List Str}{b:Nat}{x:D}{r:List D}(h:nmB x=false):fH ns b (x::r)=false:=by
 cases x with
 | str z=>have h:nmS z=false:=h;simp only[fH,h,U6]
 | _=>rfl
def fO:FSp:=λds μ Q=>kcA ds λd ds=>kcL ds λxs ds=>kcN ds (∃ ns:List Str,(Any μ d/\xs=ns.map .str/\(∀ n∈ns,UL n=true)/\ns.length<=1000)/\Q (.bl (jC ns d)) μ)
theorem uP:∀ ds μ Q,fO ds μ Q->ds.length=2:=λ_ _ _ h=>lcA h λ_ _ h=>lcL h λ_ _ h=>by rw[(ecN h).1];rfl
def pF:STr:=aD (bp (TOr (bL (TB (TUn (dU "tuple") (ah 0)))) (TB (aq rEq (ao cI (af (ah 0) (ar))) (TC (.int 0))))) (aK (TC (.bl false))) (aU)) (aD (aZ (TC (.int 0)) (ax 2)) (aD (oN (fk (ah 0)) (ax 3) (aD (bp (TOr (bL (TB (ao bT (af (ah 3) (ar))))) (TB (aq (CT true) (ah 3) (TSl (ah 1) (mP (ah 2)) (ONo))))) (aK (TC (.bl false))) (aU)) (aZ (aq aY (Dr (ah 1) (ah 3)) (TC (.int 1))) (ax 2)))) (aK (TC (.bl true)))))
theorem yY:∀ ds μ Q,fO ds μ Q->pF { nx:=λ_ μ'=>RT Q .non μ',rt:=RT Q } (ini 4 ds) μ:=by
 intro ds μ Q h
 replace h:=ecA h
 obtain ⟨d,ds,rfl,h⟩:=h
 replace h:=ecL h
 obtain ⟨xs,ds,rfl,h⟩:=h
 replace h:=ecN h
 obtain ⟨rfl,h⟩:=h
 walk_at "ini"
 unfold pF
 walk_at "go"
 obtain ⟨ns,⟨t,rfl,hn,hl⟩,k⟩:=h
 have fin:∀ {b},jC ns d=b->RT Q (.bl b) μ:=λ{b} e=>by rw[e] at k;exact ⟨_,.refl _,k⟩
 cases t with
 | @tup ds hd hl'=>
  walk_at "go"
  refine kif (λh0=>fin ?_) λh0=>?_
  ·have:ds=[]:=Wm.mp (by omega)
   subst this;rfl
  have ne:ds≠[]:=λz=>h0 (by rw[z];rfl)
  have e0:jC ns (.tup ds)=fH ns 0 ds:=by simp only[jC];rw[decide_eq_true ne];rfl
  refine eI (λr ρ μ'=>∃ (b:Nat) (v3:Option D),jC ns (.tup ds)=fH ns b r/\(∀ d∈r,Any μ d)/\ρ=[some (.tup ds),some (.ls (ns.map .str)),some (.int b),v3]/\μ'=μ) ?_ ?_ _ _ _ ⟨0,_,e0,hd,rfl,rfl⟩
  ·rintro ρ μ' ⟨b,v3,eb,_,rfl,rfl⟩
   walk_at "go"
   exact fin eb
  ·rintro x r ρ μ' N ⟨b,v3,eb,hr,rfl,rfl⟩ hN
   walk_at "go"
   refine ⟨hr x UK,?_⟩
   walk_at "go"
   refine gw (λh1=>?_) λh1=>fin (by rw[eb];exact IT h1)
   cases x with
   | str z=>
    have h1:nmS z=true:=h1
    have ok:=xg h1
    rw[kG]
    have em:(ns.map D.str).drop b=(ns.drop b).map D.str:=by rw[List.map_drop]
    rw[em,Ih]
    refine ⟨⟨mM λy q=>hn y (Z9 q),by simpa[okD] using ok⟩,?_⟩
    walk_at "go"
    refine yh (λh2=>fin ?_) λh2=>?_
    ·rw[eb];simp only[fH,h1,decide_eq_false h2,U6,WJ]
    refine ⟨⟨mM hn,by simpa[okD] using ok⟩,?_⟩
    have hm:=Z9 h2
    rw[G4 hm]
    walk_at "go"
    have lt:xB ns z < ns.length:=X0 ⟨z,hm,by simp⟩
    exact ⟨by omega,hN _ _ ⟨xB ns z+1,_,by rw[eb];simp only[fH,h1,decide_eq_true h2,U7],λd hd=>hr d (UN _ hd),rfl,rfl⟩⟩
   | _=>cases h1
 | _=>
  walk_at "go"
  try (rw[nJ (by assumption)];walk_at "go")
  exact fin rfl
def b7 (ns:List Str):D->Bool
 | .tup [n,r,b,g,m,u]=>nmB n&&(jC ns r&&(wiI 1 8 b&&(wiI 0 1000000 g&&(nwB 1000000 m&&gq u))))
 | _=>false
theorem six {d:D}(h:isT 6 d=true):∃ n r b g m u,d=.tup [n,r,b,g,m,u]:=by
 unfold isT at h
 split at h
 ·rename_i ds
  have h:=of_decide_eq_true h
  match ds,(show ds.length=6 by omega) with
  | [n,r,b,g,m,u],_=>exact ⟨n,r,b,g,m,u,rfl⟩
 ·cases h
theorem Tu {ns:List Str}{d:D}(h:isT 6 d=false):b7 ns d=false:=by
 unfold b7
 split
 ·simp[isT] at h
 ·rfl
theorem Hk {ws:List D}(h:jx (.tup ws)=true):(1<=ws.length/\ws.length<=6)/\(∀ d∈ws,dW d=true)/\(ws.map nmD).Nodup:=by
 simp only[jx,UM,decide_eq_true_eq,Vv] at h
 exact ⟨h.1,h.2.1,h.2.2⟩
theorem Kw {ws:List D}(h:∀ d∈ws,dW d=true):∀ n∈ws.map nmD,UL n=true:=λn hn=>by
 obtain ⟨d,hd,rfl⟩:=U3.mp hn
 obtain ⟨z,r,rfl,hz⟩:=yZ (h d hd)
 exact xg hz
def eC:FSp:=λds μ Q=>kcA ds λd ds=>kcT ds λws ds=>kcN ds ((Any μ d/\jx (.tup ws)=true)/\Q (.bl (b7 (ws.map nmD) d)) μ)
theorem qz:∀ ds μ Q,eC ds μ Q->ds.length=2:=λ_ _ _ h=>lcA h λ_ _ h=>lcT h λ_ _ h=>by rw[(ecN h).1];rfl
def lJ:STr:=aD (bp (TOr (bL (TB (ao bG (af (ah 0) (af (TC (.int 6)) (ar)))))) (bL (TB (ao bT (af (aq L3.rIx (ah 0) (TC (.int 0))) (ar)))))) (aK (TC (.bl false))) (aU)) (aD (bp (TOr (bL (TB (ao fO (af (aq L3.rIx (ah 0) (TC (.int 1))) (af (cp (fk (ah 1)) (ax 0) (fe) (aq L3.rIx (ah 0) (TC (.int 0))) 1 []) (ar)))))) (bL (TB (ao aP (af (aq L3.rIx (ah 0) (TC (.int 2))) (af (TC (.int 1)) (af (TC (.int 8)) (ar)))))))) (aK (TC (.bl false))) (aU)) (aD (bp (TOr (bL (TB (ao aP (af (aq L3.rIx (ah 0) (TC (.int 3))) (af (TC (.int 0)) (af (TC (.int 1000000)) (ar))))))) (bL (TB (ao bC (af (aq L3.rIx (ah 0) (TC (.int 4))) (af (TC (.int 1000000)) (ar))))))) (aK (TC (.bl false))) (aU)) (aK (ao fN (af (aq L3.rIx (ah 0) (TC (.int 5))) (ar))))))
theorem qZ:∀ ds μ Q,eC ds μ Q->lJ { nx:=λ_ μ'=>RT Q .non μ',rt:=RT Q } (ini 2 ds) μ:=by
 intro ds μ Q h
 replace h:=ecA h
 obtain ⟨d,ds,rfl,h⟩:=h
 replace h:=ecT h
 obtain ⟨ws,ds,rfl,h⟩:=h
 replace h:=ecN h
 obtain ⟨rfl,h⟩:=h
 walk_at "ini"
 unfold lJ
 walk_at "go"
 obtain ⟨⟨t,hw⟩,k⟩:=h
 have fin:∀ {b},b7 (ws.map nmD) d=b->RT Q (.bl b) μ:=λ{b} e=>by rw[e] at k;exact ⟨_,.refl _,k⟩
 obtain ⟨⟨w1,w6⟩,wa,wn⟩:=Hk hw
 refine ⟨t,?_⟩
 walk_at "go"
 refine gw (λh=>?_) λh=>fin (Tu h)
 obtain ⟨n,r,b,g,m,u,rfl⟩:=six h
 have tn:=t.cE n (by simp)
 have tr:=t.cE r (by simp)
 have tb:=t.cE b (by simp)
 have tg:=t.cE g (by simp)
 have tm:=t.cE m (by simp)
 have tu:=t.cE u (by simp)
 walk_at "go"
 refine ⟨tn,?_⟩
 walk_at "go"
 refine gw (λh1=>?_) λh1=>fin (by simp only[b7,h1,U6])
 refine comp_map (λd=>.str (nmD d)) (by omega) (λd hd' μ' sb N n=>?_) ?_
 ·obtain ⟨z,r,rfl,_⟩:=yZ (wa d hd')
  walk_at "go"
  exact n
 walk_at "go"
 refine ⟨ws.map nmD,⟨tr,by rw[Vg];rfl,Kw wa,by rw[UJ];omega⟩,?_⟩
 walk_at "go"
 refine gw (λh2=>?_) λh2=>fin (by simp only[b7,h1,h2,U7,U6])
 refine ⟨tb,?_⟩
 walk_at "go"
 refine gw (λh3=>?_) λh3=>fin (by simp only[b7,h1,h2,h3,U7,U6])
 refine ⟨tg,?_⟩
 walk_at "go"
 refine gw (λh4=>?_) λh4=>fin (by simp only[b7,h1,h2,h3,h4,U7,U6])
 refine ⟨tm,?_⟩
 walk_at "go"
 refine gw (λh5=>?_) λh5=>fin (by simp only[b7,h1,h2,h3,h4,h5,U7,U6])
 exact ⟨tu,fin (by simp only[b7,h1,h2,h3,h4,h5,U7])⟩
theorem E9 (a:Str):ltS a a=false:=by unfold ltS;simp
theorem HN {a b:Str}(h:ltS a b=true):ltS b a=false:=by
 unfold ltS at *
 have h1:a.cps.toList < b.cps.toList:=by simpa using h
 simpa using λq=>List.lt_irrefl _ (List.lt_trans h1 q)
theorem D1 {a b:Str}(h1:ltS b a=false)(h2:ltS a b=false):a=b:=by
 unfold ltS at *
 rw[decide_eq_false_iff_not,zcr] at h1 h2
 exact kc (List.le_antisymm h1 h2)
def Jb (ss:List Str):Bool:=decide (ss.Pairwise λa b=>ltS a b=true)
theorem OX {ss:List Str}(h:ss.Pairwise λa b=>ltS a b=true):ss.Nodup:=h.imp λ{a b} h e=>by rw[e,E9] at h;cases h
theorem HF {ss:List Str}(h:ss.Pairwise λa b=>ltS b a=false)(nd:ss.Nodup):ss.Pairwise λa b=>ltS a b=true:=
 (h.and nd).imp λ{a b} h=>by
  by_cases q:ltS a b=true
  ·exact q
  ·exact absurd (D1 h.1 (by simpa using q)) h.2
theorem AK:∀ (a b:List Str),hX (a.map .str) (b.map .str)=decide (a=b)
 | [],[]=>rfl
 | [],_::_=>rfl
 | _::_,[]=>rfl
 | x::a,y::b=>by
  rw[Vt,Vt,j7,AK a b,nR,← zbB]
  exact decide_eq_decide.mpr (by rw[Xc])
theorem OD {ss ss':List Str}(p:ss'.Perm (ddT ss))(h:ss'.Pairwise λa b=>ltS b a=false):eqD (.ls (ss.map .str)) (.ls (ss'.map .str))=Jb ss:=by
 rw[zp,AK]
 refine decide_eq_decide.mpr ⟨λe=>?_,λe=>?_⟩
 ·subst e
  exact HF h ((p.nodup_iff).mpr (HE _))
 ·have nd:=OX e
  rw[show ddT ss=ss from Ku ss [] nd] at p
  exact (p.eq_of_pairwise (λa b _ _ h1 h2=>D1 h1 h2) h (e.imp HN)).symm
def hU (ns:List Str):D->Bool
 | .tup ds=>decide (ds.length<=8)&&(ds.all (b7 ns)&&Jb (ds.map nmD))
 | _=>false
theorem BD {ns:List Str}{d:D}(h:b7 ns d=true):∃ z r,d=.tup (.str z::r)/\nmS z=true:=by
 unfold b7 at h
 split at h
 ·rename_i n _ _ _ _ _
  cases n with
  | str z=>rw[UM] at h;exact ⟨z,_,rfl,h.1⟩
  | _=>simp[nmB] at h
 ·cases h
def cT:FSp:=λds μ Q=>kcA ds λd ds=>kcT ds λws ds=>kcN ds ((Any μ d/\Any μ (.tup ws)/\jx (.tup ws)=true)/\Q (.bl (hU (ws.map nmD) d)) μ)
theorem mv:∀ ds μ Q,cT ds μ Q->ds.length=2:=λ_ _ _ h=>lcA h λ_ _ h=>lcT h λ_ _ h=>by rw[(ecN h).1];rfl
def jq:STr:=aD (bp (TOr (bL (TB (TUn (dU "tuple") (ah 0)))) (TB (aq rGt (ao cI (af (ah 0) (ar))) (TC (.int 8))))) (aK (TC (.bl false))) (aU)) (aD (bp (bL (TB (ao yG (af (cp (fk (ah 0)) (ax 0) (fe) (ao eC (af (ah 0) (af (ah 1) (ar)))) 1 [1]) (ar))))) (aK (TC (.bl false))) (aU)) (aD (aZ (cp (fk (ah 0)) (ax 0) (fe) (aq L3.rIx (ah 0) (TC (.int 0))) 1 []) (ax 2)) (aK (aq rEq (ah 2) (tJ (ah 2))))))
theorem oA:∀ ds μ Q,cT ds μ Q->jq { nx:=λ_ μ'=>RT Q .non μ',rt:=RT Q } (ini 3 ds) μ:=by
 intro ds μ Q h
 replace h:=ecA h
 obtain ⟨d,ds,rfl,h⟩:=h
 replace h:=ecT h
 obtain ⟨ws,ds,rfl,h⟩:=h
 replace h:=ecN h
 obtain ⟨rfl,h⟩:=h
 walk_at "ini"
 unfold jq
 walk_at "go"
 obtain ⟨⟨t,tw,hw⟩,k⟩:=h
 have fin:∀ {b},hU (ws.map nmD) d=b->RT Q (.bl b) μ:=λ{b} e=>by rw[e] at k;exact ⟨_,.refl _,k⟩
 cases t with
 | @tup ds hd hl=>
  walk_at "go"
  refine kif (λh1=>fin ?_) λh1=>?_
  ·simp only[hU];rw[decide_eq_false (by omega)];rfl
  have eb:hU (ws.map nmD) (.tup ds)=(ds.all (b7 (ws.map nmD))&&Jb (ds.map nmD)):=by simp only[hU];rw[decide_eq_true (by omega)];rfl
  refine comp_map (λd=>.bl (b7 (ws.map nmD) d)) (by omega) (λd hd' μ' sb N n=>?_) ?_
  ·walk_at "go"
   exact ⟨⟨(hd d hd').sub sb,hw⟩,n⟩
  walk_at "go"
  refine ⟨ds.map (b7 (ws.map nmD)),by rw[Vg];rfl,?_⟩
  walk_at "go"
  have ea:(ds.map (b7 (ws.map nmD))).all id=ds.all (b7 (ws.map nmD)):=by rw[Xp];rfl
  rw[ea]
  refine gw (λh3=>?_) λh3=>fin (by rw[eb,h3];rfl)
  have ha:=Vv.mp h3
  refine comp_map (λd=>.str (nmD d)) (by omega) (λd hd' μ' sb N n=>?_) ?_
  ·obtain ⟨z,r,rfl,_⟩:=BD (ha d hd')
   walk_at "go"
   exact n
  have em:ds.map (λd=>D.str (nmD d))=(ds.map nmD).map .str:=by rw[Vg];rfl
  rw[em]
  walk_at "go"
  have dl:(ddT (ds.map nmD)).length<=0+(ds.map nmD).length:=Hz (ds.map nmD) []
  have ln:(ds.map nmD).length<=8:=by rw[UJ];omega
  refine ⟨ds.map nmD,⟨rfl,by omega,by omega⟩,λss' p1 p2=>?_⟩
  have oks:∀ n∈ds.map nmD,UL n=true:=λn hn=>by
   obtain ⟨d,hd,rfl⟩:=U3.mp hn
   obtain ⟨z,r,rfl,hz⟩:=BD (ha d hd)
   exact xg hz
  walk_at "go"
  refine ⟨⟨mM oks,mM λn hn=>oks n (MB.mp (p1.mem_iff.mp hn))⟩,fin ?_⟩
  rw[eb,h3,U7]
  exact (OD p1 p2).symm
 | _=>
  walk_at "go"
  try (rw[nJ (by assumption)];walk_at "go")
  exact fin rfl
def Je:D->List Str
 | .tup ws=>ws.map nmD
 | _=>[]
def nN:D->Bool
 | .tup [g,w,s]=>wiI 1 60 g&&(jx w&&hU (Je w) s)
 | _=>false
theorem three {d:D}(h:isT 3 d=true):∃ g w s,d=.tup [g,w,s]:=by
 unfold isT at h
 split at h
 ·rename_i ds
  have h:=of_decide_eq_true h
  match ds,(show ds.length=3 by omega) with
  | [g,w,s],_=>exact ⟨g,w,s,rfl⟩
 ·cases h
theorem Tx {d:D}(h:isT 3 d=false):nN d=false:=by
 unfold nN
 split
 ·simp[isT] at h
 ·rfl
theorem GA {d:D}(h:jx d=true):∃ ws,d=.tup ws:=by
 cases d with
 | tup ws=>exact ⟨ws,rfl⟩
 | _=>cases h
def fY:FSp:=λds μ Q=>kcA ds λd ds=>kcN ds (Any μ d/\Q (.bl (nN d)) μ)
theorem vg:∀ ds μ Q,fY ds μ Q->ds.length=1:=λ_ _ _ h=>lcA h λ_ _ h=>by rw[(ecN h).1];rfl
def pT:STr:=aD (bp (TOr (bL (TB (ao bG (af (ah 0) (af (TC (.int 3)) (ar)))))) (bL (TB (ao aP (af (aq L3.rIx (ah 0) (TC (.int 0))) (af (TC (.int 1)) (af (TC (.int 60)) (ar)))))))) (aK (TC (.bl false))) (aU)) (aK (dD (ao eZ (af (aq L3.rIx (ah 0) (TC (.int 1))) (ar))) (ao cT (af (aq L3.rIx (ah 0) (TC (.int 2))) (af (aq L3.rIx (ah 0) (TC (.int 1))) (ar))))))
theorem xK:∀ ds μ Q,fY ds μ Q->pT { nx:=λ_ μ'=>RT Q .non μ',rt:=RT Q } (ini 1 ds) μ:=by
 intro ds μ Q h
 replace h:=ecA h
 obtain ⟨d,ds,rfl,h⟩:=h
 replace h:=ecN h
 obtain ⟨rfl,h⟩:=h
 walk_at "ini"
 unfold pT
 walk_at "go"
 obtain ⟨t,k⟩:=h
 have fin:∀ {b},nN d=b->RT Q (.bl b) μ:=λ{b} e=>by rw[e] at k;exact ⟨_,.refl _,k⟩
 refine ⟨t,?_⟩
 walk_at "go"
 refine gw (λh=>?_) λh=>fin (Tx h)
 obtain ⟨g,w,s,rfl⟩:=three h
 have tg:=t.cE g (by simp)
 have tw:=t.cE w (by simp)
 have ts:=t.cE s (by simp)
 walk_at "go"
 refine ⟨tg,?_⟩
 walk_at "go"
 refine gw (λh1=>?_) λh1=>fin (by simp only[nN,h1,U6])
 refine ⟨tw,?_⟩
 walk_at "go"
 refine sR (λh2=>?_) λh2=>fin (by simp only[nN,h1,h2,U7,U6])
 obtain ⟨ws,rfl⟩:=GA h2
 exact ⟨⟨ts,tw,h2⟩,fin (by simp only[nN,h1,h2,U7,Je])⟩
def qF:FSp:=λds μ Q=>kcL ds λxs ds=>kcI ds λk ds=>kcN ds ((∃ ns:List Int,xs=ns.map .int/\0<=k/\k<=1000)/\∀ p μ',μ p=none->Box μ' p->(∀ a,a≠p->μ' a=μ a)->Q (.obj p) μ')
theorem JN:∀ ds μ Q,qF ds μ Q->ds.length=2:=λ_ _ _ h=>lcL h λ_ _ h=>lcI h λ_ _ h=>by rw[(ecN h).1];rfl
def G3:STr:=aD (aZ (TC (.int 0)) (ax 2)) (aD (bp (TB (aq rLt (ah 1) (ao cI (af (ah 0) (ar))))) (aZ (aq L3.rIx (ah 0) (ah 1)) (ax 2)) (aU)) (aK (mh (af (aq iN (aq jk (ao xJ (af (ah 2) (ar))) (aq Cw (TC (.int 10)) (TC (.int 60)))) (ao Gu (af (aq rGe (ao xJ (af (ah 2) (ar))) (aq Cw (TC (.int 10)) (TC (.int 18)))) (ar)))) (af (aq jk (aq aY (aq aY (ah 2) (aq iN (aq iN (TC (.int 613)) (ah 1)) (ah 1))) (aq iN (TC (.int 29)) (ah 1))) (TC (.int 2147483647))) (af (TC (.int 0)) (ar)))))))
theorem Li:∀ ds μ Q,qF ds μ Q->G3 { nx:=λ_ μ'=>RT Q .non μ',rt:=RT Q } (ini 3 ds) μ:=by
 intro ds μ Q h
 replace h:=ecL h
 obtain ⟨xs,ds,rfl,h⟩:=h
 replace h:=ecI h
 obtain ⟨k,ds,rfl,h⟩:=h
 replace h:=ecN h
 obtain ⟨rfl,h⟩:=h
 walk_at "ini"
 unfold G3
 walk_at "go"
 obtain ⟨⟨ns,rfl,k0,k1⟩,hk⟩:=h
 have go:∀ g s:Int,0<=s->s < 2147483647->∀ p,μ p=none->RT Q (.obj p) (up μ p (.lst [.int g,.int s,.int 0])):=λg s s0 s1 p hp=>
  ⟨_,.refl _,hk p _ hp ⟨g,s,0,bh,s0,by omega⟩ λa ha=>bQ ha⟩
 have m1:MulOk 613 k:=by walk_at "ok"
 have m2:L3.MulOk ((613:Int)*k) k:=.inl (.inr (by unfold S64;omega))
 have m3:MulOk 29 k:=by walk_at "ok"
 have p1:sP 10 60:=by walk_at "ok"
 have p2:sP 10 18:=by walk_at "ok"
 refine kif (λhlt=>?_) λ_=>?_
 ·rw[UJ] at hlt
  obtain ⟨z,ez⟩:=GQ k0 hlt
  refine fL ez ?_
  walk_at "go"
  exact ⟨p1,by decide,p2,.inl (.inr (by unfold S64;split<;>omega)),m1,m2,m3,by decide,λp hp=>go _ _ (fm0 (by decide)) (fm1 (by decide)) p hp⟩
 ·exact ⟨p1,by decide,p2,.inl (.inr (by unfold S64;omega)),m1,m2,m3,by decide,λp hp=>go _ _ (fm0 (by decide)) (fm1 (by decide)) p hp⟩
def aC:FSp:=λds μ Q=>kcO ds λb ds=>kcI ds λn ds=>kcN ds ((Box μ b/\0 < n/\n < 18446744073709551616)/\∀ k μ',0<=k->k < n->eE b μ μ'->Q (.int k) μ')
theorem Ou (a b c x:D):[a,b,c].set 0 x=[x,b,c]:=rfl
theorem PF (a b c x:D):[a,b,c].set 1 x=[a,x,c]:=rfl
theorem QX (a b c x:D):[a,b,c].set 2 x=[a,b,x]:=rfl
theorem ytk {μ:Mu}{b:Addr}{n:Int}{Q:DK}(hB:Box μ b)(h0:0 < n)(h1:n < 18446744073709551616)(h:∀ k μ',0<=k->k < n->eE b μ μ'->Q (.int k) μ'):gZ aC [.obj b,.int n] μ Q:=⟨⟨hB,h0,h1⟩,h⟩
theorem Gh:∀ ds μ Q,aC ds μ Q->ds.length=2:=λ_ _ _ h=>lcO h λ_ _ h=>lcI h λ_ _ h=>by rw[(ecN h).1];rfl
def t8:STr:=aD (aZ (aq jk (aq aY (aq aY (aq iN (aq L3.rIx (ah 0) (TC (.int 1))) (TC (.int 48271))) (aq iN (TC (.int 8191)) (aq L3.rIx (ah 0) (TC (.int 2))))) (TC (.int 17))) (TC (.int 2147483647))) (ax 3)) (aD (eT (ah 0) (TC (.int 1)) (aq jk (aq aY (aq iN (ah 3) (ah 3)) (aq L3.rIx (ah 0) (TC (.int 2)))) (TC (.int 2147483629)))) (aK (aq jk (aq kW (aq L3.rIx (ah 0) (TC (.int 1))) (TC (.int 13))) (ah 1))))
def El:STr:=aD (bp (TB (aq rGt (aq L3.rIx (ah 0) (TC (.int 0))) (TC (.int 0)))) (aD (aZ (aq jk (aq L3.rIx (ah 0) (TC (.int 0))) (ah 1)) (ax 2)) (aD (eT (ah 0) (TC (.int 0)) (aq kW (aq L3.rIx (ah 0) (TC (.int 0))) (ah 1))) (aK (ah 2)))) (aU)) (aD (eT (ah 0) (TC (.int 2)) (aq aY (aq L3.rIx (ah 0) (TC (.int 2))) (TC (.int 1)))) (t8))
theorem GC:∀ ds μ Q,aC ds μ Q->El { nx:=λ_ μ'=>RT Q .non μ',rt:=RT Q } (ini 4 ds) μ:=by
 intro ds μ Q h
 replace h:=ecO h
 obtain ⟨b,ds,rfl,h⟩:=h
 replace h:=ecI h
 obtain ⟨n,ds,rfl,h⟩:=h
 replace h:=ecN h
 obtain ⟨rfl,h⟩:=h
 walk_at "ini"
 unfold El
 walk_at "go"
 unfold t8
 walk_at "go"
 obtain ⟨⟨⟨g,s,c,hb,s0,s1⟩,n0,n1⟩,k⟩:=h
 repeat (first | (simp only[NX hb];walk_at "go") | (simp only[Eh,Ep,EC,UX,Yv,Za,ZF,if_true,wC];walk_at "go") | (simp only[Ou,PF,QX];walk_at "go"))
 have dv:jW n:=by walk_at "ok"
 have n2:n≠0:=by omega
 have d13:jW 13:=by walk_at "ok"
 have fin:∀ μ':Mu,∀ d:Int,0<=d->d < n->Box μ' b->(∀ a,a≠b->μ' a=μ a)->RT Q (.int d) μ':=λμ' d h3 h4 h5 h6=>
  ⟨_,.refl _,k d _ h3 h4 ⟨h5,h6⟩⟩
 have m1:MulOk s 48271:=by walk_at "ok"
 have m2:MulOk 8191 (c+1):=.inl (.inl (by unfold S64;omega))
 have z0:=fm0 (a:=s*48271+8191*(c+1)+17) (n:=2147483647) (by decide)
 have z1:=fm1 (a:=s*48271+8191*(c+1)+17) (n:=2147483647) (by decide)
 refine kif (λ_=>?_) λ_=>?_
 ·exact ⟨n2,dv,fin _ _ (fm0 n0) (fm1 n0) ⟨_,_,_,bh,s0,s1⟩ λa ha=>bQ ha⟩
 ·generalize (s*48271+8191*(c+1)+17).fmod 2147483647=z at *
  have m3:MulOk z z:=.inr ⟨by unfold bE;omega,by unfold bE;omega⟩
  have y0:=fm0 (a:=z*z+(c+1)) (n:=2147483629) (by decide)
  have y1:=fm1 (a:=z*z+(c+1)) (n:=2147483629) (by decide)
  refine ⟨m1,m2,by decide,m3,by decide,d13,n2,fin _ _ (fm0 n0) (fm1 n0) ⟨_,_,_,bh,y0,by omega⟩ λa ha=>by simp only[bQ ha]⟩
theorem EN {o:Option Nat}{c:Nat}{f:Nat->Prop}(e:o=some c)(h:f c):kN o f:=by rw[e];exact h
theorem C8 {i:Int}(i0:0<=i)(i1:i < 26):L2.atI (OF "abcdefghijklmnopqrstuvwxyz").cps.toList i=some (97+i.toNat):=by
 have:∀ j:Fin 26,L2.atI (OF "abcdefghijklmnopqrstuvwxyz").cps.toList (j.val:Int)=some (97+j.val):=by decide +kernel
 obtain ⟨j,rfl⟩:=Wl i0
 exact this ⟨j,by omega⟩
theorem wW:(OF "abcdefghijklmnopqrstuvwxyz").length<=1000000:=by decide +kernel
theorem app_list (x y:Str):(x++y).cps.toList=x.cps.toList++y.cps.toList:=by
 show (x.cps++y.cps).toList=_
 exact zam
theorem rep1 (c n:Nat):(sj ⟨#[c]⟩ n).cps.toList=Vb n c:=by
 rw[Gp];simp
theorem xx (c n:Nat):(sj ⟨#[c]⟩ n).length=n:=by rw[← gU,rep1,We]
theorem xH (x y:Str):(x++y).length=x.length+y.length:=by rw[← gU,app_list,UY,gU,gU]
def nmL (sz a f w:Int)(j:Int):List Nat:=
 if w=0 then Vb a.toNat (97+a.toNat)++[97+((f+3*j).fmod 26).toNat]++Vb (sz - 1 - a).toNat (97+a.toNat)
 else if w=1 then Vb (1+(f+5*j).fmod 8).toNat (97+((f+3*j).fmod 26).toNat)
 else Vb (1+j).toNat (97+f.toNat)
structure JW (sz a f w:Int):Prop where
 s1:1<=sz
 s8:sz<=8
 a0:0<=a
 a1:a < sz
 f0:0<=f
 f1:f < 26
theorem NN {i:Nat}(h:i < 26):sm (97+i)=true:=by unfold sm;rw[UM,decide_eq_true_eq,decide_eq_true_eq];omega
theorem P7 {sz a f w j:Int}(N:JW sz a f w)(j0:0<=j)(j8:j < 8):(1<=(nmL sz a f w j).length/\(nmL sz a f w j).length<=8)/\∀ c∈nmL sz a f w j,sm c=true:=by
 obtain ⟨s1,s8,a0,a1,f0,f1⟩:=N
 have g0:=fm0 (a:=f+3*j) (n:=26) (by decide)
 have g1:=fm1 (a:=f+3*j) (n:=26) (by decide)
 have h0:=fm0 (a:=f+5*j) (n:=8) (by decide)
 have h1:=fm1 (a:=f+5*j) (n:=8) (by decide)
 have rep:∀ {i n:Nat} {c:Nat},i < 26->c∈Vb n (97+i)->sm c=true:=λhi hc=>by rw[(List.mem_replicate.mp hc).2];exact NN hi
 unfold nmL
 split
 ·refine ⟨by simp;omega,λc hc=>?_⟩
  rcases Vo.mp hc with h | h
  ·rcases Vo.mp h with (h | h)
   ·exact rep (by omega) h
   ·rw[UZ.mp h];exact NN (by omega)
  ·exact rep (by omega) h
 ·split
  ·exact ⟨by simp;omega,λc hc=>rep (by omega) hc⟩
  ·exact ⟨by simp;omega,λc hc=>rep (by omega) hc⟩
theorem Nd {f i j:Int}(i0:0<=i)(ij:i < j)(j8:j < 8):(f+3*i).fmod 26≠(f+3*j).fmod 26:=by
 rw[YU _ (by decide),YU _ (by decide)]
 omega
theorem ON {sz a f w i j:Int}(N:JW sz a f w)(i0:0<=i)(ij:i < j)(j8:j < 8):nmL sz a f w i≠nmL sz a f w j:=by
 obtain ⟨s1,s8,a0,a1,f0,f1⟩:=N
 have ne:=Nd (f:=f) i0 ij j8
 have g0:=fm0 (a:=f+3*i) (n:=26) (by decide)
 have g1:=fm0 (a:=f+3*j) (n:=26) (by decide)
 have h0:=fm0 (a:=f+5*i) (n:=8) (by decide)
 have h1:=fm0 (a:=f+5*j) (n:=8) (by decide)
 unfold nmL
 split
 ·intro e
  have e:=List.append_inj_left e (by simp)
  have e:=List.append_inj_right e rfl
  simp only[Xc,and_true] at e
  omega
 ·split
  ·intro e
   have e:=congrArg List.head? e
   rw[zaa,zaa,if_neg (by omega),if_neg (by omega)] at e
   simp only[za3] at e
   omega
  ·intro e
   have e:=congrArg VQ e
   rw[We,We] at e
   omega
def nmT (sz a f w:Int)(j:Int):Str:=⟨(nmL sz a f w j).toArray⟩
theorem Rp {sz a f w j:Int}(N:JW sz a f w)(j0:0<=j)(j8:j < 8):nmS (nmT sz a f w j)=true:=by
 obtain ⟨⟨h1,h8⟩,ha⟩:=P7 N j0 j8
 have e:(nmT sz a f w j).cps.toList=nmL sz a f w j:=rfl
 unfold nmS
 rw[e,decide_eq_true h1,decide_eq_true h8,Vv.mpr ha];rfl
theorem Oh {z:Str}{l:List Nat}(e:z.cps.toList=l):z=⟨l.toArray⟩:=kc (by rw[e])
def nB (sz a f w:Int)(n:Nat):List Str:=(Wo n).map λi=>nmT sz a f w (i:Nat)
theorem IX {sz a f w:Int}(N:JW sz a f w){n:Nat}(h:n<=8):(nB sz a f w n).Nodup:=by
 unfold nB
 refine List.pairwise_map.mpr ?_
 have:(Wo n).Pairwise λi j=>i < j/\j < n:=by
  have h1:=List.pairwise_lt_range (n:=n)
  exact h1.imp_of_mem λ{a b} _ hb h=>⟨h,W2.mp hb⟩
 exact this.imp λ{i j} ⟨h1,h2⟩ e=>ON N (i:=(i:Nat)) (j:=(j:Nat)) (by omega) (by omega) (by omega) (by
  have:=congrArg (λz:Str=>z.cps.toList) e
  exact this)
def ie:FSp:=λds μ Q=>kcO ds λb ds=>kcI ds λn ds=>kcN ds ((Box μ b/\0<=n/\n<=8)/\∀ (zs:List Str) μ',(zs.length:Int)=n->(∀ z∈zs,nmS z=true)->zs.Nodup->eE b μ μ'->Q (.ls (zs.map .str)) μ')
theorem BZ:∀ ds μ Q,ie ds μ Q->ds.length=2:=λ_ _ _ h=>lcO h λ_ _ h=>lcI h λ_ _ h=>by rw[(ecN h).1];rfl
def y8:STr:=aD (aZ (TC (.str "abcdefghijklmnopqrstuvwxyz")) (ax 2)) (aD (aZ (aq aY (TC (.int 1)) (ao aC (af (ah 0) (af (TC (.int 8)) (ar))))) (ax 3)) (aD (aZ (ao aC (af (ah 0) (af (ah 3) (ar)))) (ax 4)) (aD (aZ (ao aC (af (ah 0) (af (TC (.int 26)) (ar)))) (ax 5)) (aD (aZ (ao aC (af (ah 0) (af (TC (.int 3)) (ar)))) (ax 6)) (aD (aZ (mh (ar)) (ax 7)) (aD (oN (iI (ah 1)) (ax 8) (aD (aZ (aq rR (ah 2) (aq jk (aq aY (ah 5) (aq iN (TC (.int 3)) (ah 8))) (TC (.int 26)))) (ax 9)) (bp (TB (aq rEq (ah 6) (TC (.int 0)))) (aD (aZ (aq rR (ah 2) (ah 4)) (ax 10)) (fA (mH (ah 7) (aq aY (aq aY (aq rJ (ah 10) (ah 4)) (ah 9)) (aq rJ (ah 10) (aq Bw (aq Bw (ah 3) (TC (.int 1))) (ah 4))))))) (bp (TB (aq rEq (ah 6) (TC (.int 1)))) (fA (mH (ah 7) (aq rJ (ah 9) (aq aY (TC (.int 1)) (aq jk (aq aY (ah 5) (aq iN (TC (.int 5)) (ah 8))) (TC (.int 8))))))) (fA (mH (ah 7) (aq rJ (aq rR (ah 2) (ah 5)) (aq aY (TC (.int 1)) (ah 8))))))))) (aK (uS (ah 7)))))))))
theorem Gv:∀ ds μ Q,ie ds μ Q->y8 { nx:=λ_ μ'=>RT Q .non μ',rt:=RT Q } (ini 11 ds) μ:=by
 intro ds μ Q h
 replace h:=ecO h
 obtain ⟨b,ds,rfl,h⟩:=h
 replace h:=ecI h
 obtain ⟨n,ds,rfl,h⟩:=h
 replace h:=ecN h
 obtain ⟨rfl,h⟩:=h
 walk_at "ini"
 unfold y8
 walk_at "go"
 obtain ⟨⟨hB,n1,n8⟩,k⟩:=h
 refine ytk hB (by decide) (by decide) λk1 μ1 k10 k11 B1=>?_
 walk_at "go"
 refine ytk B1.box (by omega) (by omega) λk2 μ2 k20 k21 B2=>?_
 walk_at "go"
 refine ytk B2.box (by decide) (by decide) λk3 μ3 k30 k31 B3=>?_
 walk_at "go"
 refine ytk B3.box (by decide) (by decide) λk4 μ4 k40 k41 B4=>?_
 walk_at "go"
 intro q hq
 walk_at "go"
 refine ⟨⟨by omega,by omega⟩,?_⟩
 have B5:eE b μ μ4:=((B1.trans B2).trans B3).trans B4
 have NI:JW (1+k1) k2 k3 k4:=⟨by omega,by omega,k20,k21,k30,k31⟩
 obtain ⟨nn,rfl⟩:=Wl n1
 rw[Vn]
 refine eI (λr ρ μ'=>∃ (i c:Nat) (v8 v9 v10:Option D),r=dQ (i:Int) c/\i+c=nn/\ρ=[some (.obj b),some (.int nn),some (.str "abcdefghijklmnopqrstuvwxyz"),some (.int (1+k1)),some (.int k2),some (.int k3),some (.int k4),some (.obj q),v8,v9,v10]/\μ'=up μ4 q (.lst ((nB (1+k1) k2 k3 k4 i).map .str))) ?_ ?_ _ _ _ ⟨0,nn,_,_,_,rfl,by omega,rfl,rfl⟩
 ·rintro ρ μ' ⟨i,c,v8,v9,v10,er,ei,rfl,rfl⟩
  have c0:c=0:=by
   have:=congrArg VQ er
   rw[gj] at this
   simpa using this.symm
  have ei:i=nn:=by omega
  subst ei
  walk_at "go"
  rw[t7 hq]
  refine ⟨_,.refl _,k (nB (1+k1) k2 k3 k4 i) _ (by simp[nB]) (λz hz=>?_) (IX NI (by omega)) B5⟩
  obtain ⟨j,hj,rfl⟩:=U3.mp hz
  have:=W2.mp hj
  exact Rp NI (by omega) (by omega)
 ·rintro d r ρ μ' N ⟨i,c,v8,v9,v10,er,ei,rfl,rfl⟩ hN
  cases c with
  | zero=>cases er
  | succ c=>
  rw[kD] at er
  cases er
  have put:∀ (z:Str) (v9 v10:Option D),z.cps.toList=nmL (1+k1) k2 k3 k4 i->((nB (1+k1) k2 k3 k4 i).map D.str).length < 1000000/\N [some (.obj b),some (.int nn),some (.str "abcdefghijklmnopqrstuvwxyz"),some (.int (1+k1)),some (.int k2),some (.int k3),some (.int k4),some (.obj q),some (.int i),v9,v10] (up μ4 q (.lst ((nB (1+k1) k2 k3 k4 i).map .str++[.str z]))):=λz v9 v10 hz=>by
   refine ⟨by simp[nB];omega,hN _ _ ⟨i+1,c,_,_,_,by rw[Int.natCast_add];rfl,by omega,rfl,?_⟩⟩
   rw[Oh hz]
   simp[nB,List.range_succ,nmT]
  walk_at "go"
  have g0:=fm0 (a:=k3+3*(i:Int)) (n:=26) (by decide)
  have g1:=fm1 (a:=k3+3*(i:Int)) (n:=26) (by decide)
  have ec:=C8 g0 g1
  refine ⟨by walk_at "ok", by decide,wW,EN ec ?_⟩
  walk_at "go"
  have ln:∀ m:Nat,(⟨#[m]⟩:Str).length=1:=λ_=>rfl
  refine kif (λw0=>?_) λw0=>?_
  ·have ec2:=C8 (i:=k2) k20 (by omega)
   refine ⟨wW,EN ec2 ?_⟩
   walk_at "go"
   refine ⟨⟨by omega,by omega,by rw[ln];omega⟩,?_⟩
   rw[xx,ln]
   refine ⟨by omega,⟨by omega,by omega,by rw[ln];omega⟩,?_⟩
   rw[xH,xx,xx,ln]
   refine ⟨by omega,put _ _ _ ?_⟩
   rw[app_list,app_list,rep1,rep1]
   unfold nmL
   rw[if_pos w0]
  ·refine kif (λw1=>?_) λw1=>?_
   ·have f0:=fm0 (a:=k3+5*(i:Int)) (n:=8) (by decide)
    have f1:=fm1 (a:=k3+5*(i:Int)) (n:=8) (by decide)
    refine ⟨by walk_at "ok", by decide,⟨by omega,by omega,by rw[ln];omega⟩,put _ _ _ ?_⟩
    rw[rep1]
    unfold nmL
    rw[if_neg w0,if_pos w1]
   ·have ec2:=C8 (i:=k3) k30 (by omega)
    refine ⟨wW,EN ec2 ?_⟩
    walk_at "go"
    refine ⟨⟨by omega,by omega,by rw[ln];omega⟩,put _ _ _ ?_⟩
    rw[rep1]
    unfold nmL
    rw[if_neg w0,if_neg w1]
def e9:FSp:=λds μ Q=>kcI ds λa ds=>kcI ds λb ds=>kcN ds ((0 < b/\bE b)/\Q (fr (a.fdiv (Vx a b)) (b.fdiv (Vx a b))) μ)
theorem Fx:∀ ds μ Q,e9 ds μ Q->ds.length=2:=λ_ _ _ h=>lcI h λ_ _ h=>lcI h λ_ _ h=>by rw[(ecN h).1];rfl
def Er:STr:=aD (Di 2 3 (af (ao xJ (af (ah 0) (ar))) (af (ah 1) (ar)))) (aD (Cv (TB (aq rGt (ah 3) (TC (.int 0)))) (Di 2 3 (af (ah 3) (af (aq jk (ah 2) (ah 3)) (ar))))) (aK (bw (af (aq kW (ah 0) (ah 2)) (af (aq kW (ah 1) (ah 2)) (ar))))))
theorem Jr:∀ ds μ Q,e9 ds μ Q->Er { nx:=λ_ μ'=>RT Q .non μ',rt:=RT Q } (ini 4 ds) μ:=by
 intro ds μ Q h
 replace h:=ecI h
 obtain ⟨a,ds,rfl,h⟩:=h
 replace h:=ecI h
 obtain ⟨b,ds,rfl,h⟩:=h
 replace h:=ecN h
 obtain ⟨rfl,h⟩:=h
 walk_at "ini"
 unfold Er
 walk_at "go"
 obtain ⟨⟨b0,b1⟩,k⟩:=h
 have ea:(if a < 0 then -a else a)=(a.natAbs:Int):=by split<;>omega
 rw[ea]
 refine ⟨λρ μ'=>μ'=μ/\∃ x y:Int,ρ=[some (.int a),some (.int b),some (.int x),some (.int y)]/\0<=x/\0<=y/\Vx x y=Vx a b,mz 3,⟨rfl,a.natAbs,b,rfl,YS _,by omega,by simp[Vx]⟩,?_⟩
 rintro ρ _ ⟨rfl,x,y,rfl,x0,y0,e⟩
 walk_at "go"
 refine kif (λhy=>?_) λhy=>?_
 ·walk_at "go"
  refine ⟨by omega,⟨_,_,rfl,y0,fm0 hy,?_⟩,?_⟩
  ·rw[Br];exact e
  ·have:=fm1 (a:=x) hy
   have:=fm0 (a:=x) hy
   simp only[mz,lk]
   omega
 ·have hy0:y=0:=by omega
  subst hy0
  rw[zaM] at e
  have hx:x=(Vx a b:Int):=by omega
  subst hx
  have gp:0 < Vx a b:=Yr a (by omega)
  have gl:(Vx a b:Int)<=b:=Int.gcd_le_right a b0
  have dv:jW (Vx a b:Int):=⟨by omega,by unfold bE at *;omega⟩
  walk_at "go"
  exact ⟨dv,dv,_,.refl _,k⟩
theorem D2 {a b:Int}(b0:0 < b)(b1:b<=10000002){lo hi:Int}(h0:lo*b<=a)(h1:a<=hi*b):FrB lo hi (a.fdiv (Vx a b)) (b.fdiv (Vx a b)):=by
 obtain ⟨g,p,q,g0,ea,eb,e1,e2,q0,qb,gg⟩:=ow (a:=a) b0
 rw[e1,e2]
 rw[ea,eb] at h0 h1
 refine ⟨q0,by omega,gg,?_,?_⟩
 ·rw[Y4] at h0
  exact YX h0 g0
 ·rw[Y4] at h1
  exact YX h1 g0
theorem Eu {a b:Int}(b0:0 < b)(b1:b<=10000002){lo hi:Int}(h0:lo*b < a)(h1:a<=hi*b):FrA lo hi (a.fdiv (Vx a b)) (b.fdiv (Vx a b)):=by
 refine ⟨D2 b0 b1 (by omega) h1,?_⟩
 obtain ⟨g,p,q,g0,ea,eb,e1,e2,q0,qb,gg⟩:=ow (a:=a) b0
 rw[e1,e2]
 rw[ea,eb,Y4] at h0
 exact Int.lt_of_mul_lt_mul_left h0 (by omega)
theorem Qt {a b:Int}(b0:0 < b):b.fdiv (Vx a b)<=b:=by
 obtain ⟨g,p,q,g0,ea,eb,e1,e2,q0,qb,gg⟩:=ow (a:=a) b0
 rw[e2];exact qb
def cv:FSp:=λds μ Q=>kcO ds λb ds=>kcI ds λlo ds=>kcI ds λhi ds=>kcN ds ((Box μ b/\0<=lo/\lo<=hi/\hi<=1000)/\∀ p q μ',FrB lo hi p q->q<=7->eE b μ μ'->Q (fr p q) μ')
theorem uA:∀ ds μ Q,cv ds μ Q->ds.length=3:=λ_ _ _ h=>lcO h λ_ _ h=>lcI h λ_ _ h=>lcI h λ_ _ h=>by rw[(ecN h).1];rfl
def pI:STr:=aD (aZ (aq L3.rIx (fb (af (TC (.int 1)) (af (TC (.int 1)) (af (TC (.int 2)) (af (TC (.int 3)) (af (TC (.int 4)) (af (TC (.int 7)) (ar)))))))) (ao aC (af (ah 0) (af (TC (.int 6)) (ar))))) (ax 3)) (aK (ao e9 (af (aq aY (aq iN (ah 1) (ah 3)) (ao aC (af (ah 0) (af (aq aY (aq iN (aq Bw (ah 2) (ah 1)) (ah 3)) (TC (.int 1))) (ar))))) (af (ah 3) (ar)))))
theorem yi:∀ ds μ Q,cv ds μ Q->pI { nx:=λ_ μ'=>RT Q .non μ',rt:=RT Q } (ini 4 ds) μ:=by
 intro ds μ Q h
 replace h:=ecO h
 obtain ⟨b,ds,rfl,h⟩:=h
 replace h:=ecI h
 obtain ⟨lo,ds,rfl,h⟩:=h
 replace h:=ecI h
 obtain ⟨hi,ds,rfl,h⟩:=h
 replace h:=ecN h
 obtain ⟨rfl,h⟩:=h
 walk_at "ini"
 unfold pI
 walk_at "go"
 obtain ⟨⟨hB,l0,lh,h1⟩,k⟩:=h
 refine ytk hB (by decide) (by decide) λc μ1 c0 c1 B1=>?_
 have al:∀ d∈([.int 1,.int 1,.int 2,.int 3,.int 4,.int 7]:List D),IsI 1 7 d:=by
  repeat' (first | exact bo | refine av ⟨_,rfl,by decide,by decide⟩ ?_)
 obtain ⟨_,e1,n,rfl,n0,n1⟩:=dj al c0 c1
 walk_at "go"
 rw[e1]
 walk_at "go"
 have a0:0<=(hi - lo)*n:=zab (by omega) (by omega)
 have a1:(hi - lo)*n<=1000*7:=Int.mul_le_mul (by omega) n1 (by omega) (by omega)
 refine ⟨.inl (.inr (by unfold S64;omega)),.inl (.inr (by unfold S64;omega)),?_⟩
 refine ytk B1.box (by omega) (by omega) λd μ2 d0 d1 B2=>?_
 walk_at "go"
 refine ⟨⟨by omega,by unfold bE;omega⟩,?_⟩
 have F:=D2 (a:=lo*n+d) (b:=n) (lo:=lo) (hi:=hi) (by omega) (by omega) (by omega) (by rw[Int.sub_mul] at d1;omega)
 have q7:=Qt (a:=lo*n+d) (b:=n) (by omega)
 exact ⟨_,.refl _,k _ _ _ F (by omega) (B1.trans B2)⟩
theorem FrB.isF {lo hi p q:Int}(h:FrB lo hi p q):L3.isF (fr p q)=true:=by
 show (decide (0 < q)&&decide (Vx p q=1))=true
 rw[decide_eq_true h.q0,decide_eq_true h.g];rfl
theorem FrB.wi {p q:Int}(h:FrB 1 60 p q):wiF 1 1 60 1 (fr p q)=true:=by
 have:=h.ge
 have:=h.le
 unfold wiF
 rw[h.isF]
 show (decide (1*q<=p*1)&&decide (p*1<=60*q))=true
 rw[decide_eq_true (by omega),decide_eq_true (by omega)];rfl
theorem FrB.wt {p q r s:Int}(h:FrB 1 60 p q)(wt:p*s<=r*q):wiF 1 1 r s (fr p q)=true:=by
 have:=h.ge
 unfold wiF
 rw[h.isF]
 show (decide (1*q<=p*1)&&decide (p*s<=r*q))=true
 rw[decide_eq_true (by omega),decide_eq_true wt];rfl
theorem FrA.up {lo x y:Int}(h:FrA lo 60 x y):(wiF lo 1 60 1 (fr x y)&&gtF lo 1 (fr x y))=true:=by
 have h1:=h.ge
 have h2:=h.le
 have h3:=h.ab
 unfold wiF
 rw[h.toFrB.isF]
 show ((decide (lo*y<=x*1)&&decide (x*1<=60*y))&&decide (lo*y < x*1))=true
 rw[Int.mul_one,decide_eq_true h1,decide_eq_true h2,decide_eq_true h3];rfl
theorem FrA.ab1 {x y:Int}(h:FrA 0 1 x y):abF (fr x y)=true:=by
 have h1:=h.ge
 have h2:=h.le
 have h3:=h.ab
 unfold abF wiF
 rw[h.toFrB.isF]
 show ((decide (0*y<=x*1)&&decide (x*1<=1*y))&&decide (0*y < x*1))=true
 rw[decide_eq_true (by omega),decide_eq_true (by omega),decide_eq_true (by omega)];rfl
theorem FrL.ab1 {x y:Int}(h:FrL 1 x y):(abF (fr x y)&&Nu (fr x y))=true:=by
 have h1:=h.ab
 have h2:=h.be
 have:FrA 0 1 x y:=⟨⟨h.q0,h.q1,h.g,by omega,by omega⟩,by omega⟩
 rw[this.ab1]
 show decide (x*1 < 1*y)=true
 exact decide_eq_true (show _ by omega)
theorem JM:bx iM (OF "still")=some (.int 2):=by simp[bx,iM]
theorem Mj:bx iM (OF "step")=some (.int 5):=by simp[bx,iM,Vp,hE]
theorem Ii:bx iM (OF "swell")=some (.int 5):=by simp[bx,iM,Vp,gh,e6]
theorem Mb:bx iM (OF "heed")=some (.int 5):=by simp[bx,iM,Vp,gT,d7,dq]
theorem M5:bx iM (OF "calm")=some (.int 6):=by simp[bx,iM,Vp,g9,iU,g6,jj]
theorem wX {w:Str}{p q r s:Int}{u:D}(hw:FrB 1 60 p q)(ht:FrB 1 60 r s)(wt:p*s<=r*q)(hu:(wiF (lo2 w) 1 60 1 u&&gtF (lo2 w) 1 u)=true):grw w (fr p q) u (fr r s)=true:=by
 show (wiF 1 1 60 1 (fr r s)&&(wiF 1 1 r s (fr p q)&&(wiF (lo2 w) 1 60 1 u&&gtF (lo2 w) 1 u)))=true
 rw[ht.wi,hw.wt wt,hu];rfl
theorem p9.b {w:Str}{d:D}(h:p9 w d):gq d=true:=by
 cases h with
 | iw w=>rw[cA JM rfl];exact w.wi
 | calm w t wt u l0 lh h1=>
  rw[cA M5 rfl]
  show (grw _ _ _ _&&Ec _ _)=true
  rw[wX w t wt (by unfold lo2;rw[if_neg (of_eq_false lP)];exact u.up)]
  show ((decide (_<=_)&&decide (_<=_))&&(decide (_<=_)&&decide (_<=_)))=true
  rw[decide_eq_true (by omega),decide_eq_true h1,decide_eq_true l0,decide_eq_true lh];rfl
 | yL w t wt u g=>
  rw[cA Mb rfl]
  show (grw _ _ _ _&&(if _ then _ else _))=true
  rw[wX w t wt (by unfold lo2;rw[if_neg (of_eq_false lW)];exact u.up),if_pos rfl,g.ab1];rfl
 | step w t wt u g=>
  rw[cA Mj rfl]
  show (grw _ _ _ _&&(if _ then _ else _))=true
  rw[wX w t wt (by unfold lo2;rw[if_neg (of_eq_false e6)];exact u.up),if_neg (of_eq_false d7),g.ab1];rfl
 | jn w t wt u g=>
  rw[cA Ii rfl]
  show (grw _ _ _ _&&(if _ then _ else _))=true
  rw[wX w t wt (by unfold lo2;rw[if_pos rfl];exact u.up),if_neg (of_eq_false dq),g.ab1];rfl
def kb:FSp:=λds μ Q=>kcO ds λb ds=>kcI ds λm ds=>kcN ds ((Box μ b/\1<=m/\m<=60)/\∀ (wd:Str) (ps:List D) μ',nZ wd->(∀ d∈ps,kY d)->ps.length<=6->p9 wd (.tup (.str wd::ps))->eE b μ μ'->Q (.tup (.str wd::ps)) μ')
theorem EZ {lo hi p q:Int}(h:FrB lo hi p q)(l0:0<=lo)(hh:hi<=900):kY (fr p q):=by
 have:=h.q0
 have:=h.q1
 have:=h.ge
 have:=h.le
 have:0<=lo*q:=zab l0 (by omega)
 have:hi*q<=900*q:=Vw hh (by omega)
 exact .inr ⟨p,q,rfl,⟨by omega,by omega⟩,by omega,by omega⟩
def EK:List Str:=[OF "still", OF "step", OF "swell", OF "heed", OF "calm"]
theorem D3:∀ z∈EK,UL z=true/\z.length<=8:=by decide +kernel
theorem Fd:∀ ds μ Q,kb ds μ Q->ds.length=2:=λ_ _ _ h=>lcO h λ_ _ h=>lcI h λ_ _ h=>by rw[(ecN h).1];rfl
def tS:STr:=aD (bp (TB (aq rEq (ah 2) (TC (.str "still")))) (aK (bw (af (ah 2) (af (ah 4) (ar))))) (aU)) (aD (aZ (ao e9 (af (aq aY (TC (.int 1)) (ao aC (af (ah 0) (af (TC (.int 6)) (ar))))) (af (aq aY (TC (.int 1)) (ao aC (af (ah 0) (af (TC (.int 3)) (ar))))) (ar)))) (ax 5)) (aD (aZ (aq L3.rIx (fb (af (bw (af (TC (.int 1)) (af (TC (.int 2)) (ar)))) (af (bw (af (TC (.int 2)) (af (TC (.int 3)) (ar)))) (af (bw (af (TC (.int 1)) (af (TC (.int 7)) (ar)))) (af (bw (af (TC (.int 7)) (af (TC (.int 8)) (ar)))) (ar)))))) (ao aC (af (ah 0) (af (TC (.int 4)) (ar))))) (ax 6)) (aD (bp (TB (aq rEq (ah 2) (TC (.str "swell")))) (aK (bw (af (ah 2) (af (ah 4) (af (ao e9 (af (aq aY (aq L3.rIx (ah 5) (TC (.int 0))) (aq L3.rIx (ah 5) (TC (.int 1)))) (af (aq L3.rIx (ah 5) (TC (.int 1))) (ar)))) (af (ah 6) (af (ah 3) (ar)))))))) (aU)) (aD (bp (TB (aq rEq (ah 2) (TC (.str "heed")))) (aK (bw (af (ah 2) (af (ah 4) (af (ah 5) (af (aq L3.rIx (fb (af (ah 6) (af (bw (af (TC (.int 1)) (af (TC (.int 1)) (ar)))) (af (bw (af (TC (.int 1)) (af (TC (.int 16)) (ar)))) (ar))))) (ao aC (af (ah 0) (af (TC (.int 3)) (ar))))) (af (ah 3) (ar)))))))) (aU)) (aD (bp (TB (aq rEq (ah 2) (TC (.str "calm")))) (aD (aZ (ao aC (af (ah 0) (af (TC (.int 5)) (ar)))) (ax 7)) (aK (bw (af (ah 2) (af (ah 4) (af (ah 5) (af (ah 7) (af (aq aY (ah 7) (ao aC (af (ah 0) (af (TC (.int 5)) (ar))))) (af (ah 3) (ar)))))))))) (aU)) (aK (bw (af (ah 2) (af (ah 4) (af (ah 5) (af (ah 6) (af (ah 3) (ar)))))))))))))
def DT:STr:=aD (aZ (aq L3.rIx (fb (af (TC (.str "still")) (af (TC (.str "step")) (af (TC (.str "swell")) (af (TC (.str "heed")) (af (TC (.str "calm")) (ar))))))) (ao aC (af (ah 0) (af (TC (.int 5)) (ar))))) (ax 2)) (aD (aZ (ao cv (af (ah 0) (af (TC (.int 1)) (af (ah 1) (ar))))) (ax 3)) (aD (aZ (ao cv (af (ah 0) (af (TC (.int 1)) (af (aq kW (aq L3.rIx (ah 3) (TC (.int 0))) (aq L3.rIx (ah 3) (TC (.int 1)))) (ar))))) (ax 4)) (tS)))
theorem GP:∀ ds μ Q,kb ds μ Q->DT { nx:=λ_ μ'=>RT Q .non μ',rt:=RT Q } (ini 8 ds) μ:=by
 intro ds μ Q h
 replace h:=ecO h
 obtain ⟨b,ds,rfl,h⟩:=h
 replace h:=ecI h
 obtain ⟨m,ds,rfl,h⟩:=h
 replace h:=ecN h
 obtain ⟨rfl,h⟩:=h
 walk_at "ini"
 unfold DT
 walk_at "go"
 obtain ⟨⟨hB,m0,m1⟩,k⟩:=h
 refine ytk hB (by decide) (by decide) λc1 μ1 c10 c11 B1=>?_
 have SU:EK=b8:=rfl
 have al:∀ d∈EK.map D.str,∃ z,z∈EK/\d=.str z:=λd hd=>by obtain ⟨z,hz,rfl⟩:=U3.mp hd;exact ⟨z,hz,rfl⟩
 obtain ⟨_,e1,wd,hwd,rfl⟩:=dj al c10 c11
 have T:nZ wd:=⟨(D3 wd hwd).1,(D3 wd hwd).2⟩
 have e1:atD [.str "still", .str "step", .str "swell", .str "heed", .str "calm"] c1=some (.str wd):=e1
 walk_at "go"
 rw[e1]
 walk_at "go"
 refine ⟨⟨B1.box,by decide,m0,by omega⟩,λtp tq μ2 Tf tq7 B2=>?_⟩
 have t0:=Tf.q0
 have tg:=Tf.ge
 have tl:=Tf.le
 have tt:tp<=60*tq:=zch tl (Vw m1 (by omega))
 walk_at "go"
 rw[gk t0]
 have d1:1<=tp / tq:=(ZH t0).mpr (by omega)
 have d60:tp / tq<=60:=Int.ediv_le_of_le_mul t0 tt
 refine ⟨⟨by omega,by unfold bE;omega⟩,⟨B2.box,by decide,d1,by omega⟩,λwp wq μ3 Wf wq7 B3=>?_⟩
 have fT:kY (fr tp tq):=EZ Tf (by decide) (by omega)
 have fW:kY (fr wp wq):=EZ Wf (by decide) (by omega)
 have B13:=B1.trans (B2.trans B3)
 unfold tS
 walk_at "go"
 refine ⟨T.o,?_⟩
 have W60:FrB 1 60 wp wq:=⟨Wf.q0,Wf.q1,Wf.g,Wf.ge,zch Wf.le (Vw d60 (by have:=Wf.q0;omega))⟩
 have T60:FrB 1 60 tp tq:=⟨Tf.q0,Tf.q1,Tf.g,Tf.ge,tt⟩
 have wt:wp*tq<=tp*wq:=by
  have a1:=Vw Wf.le (show 0<=tq by omega)
  have a2:=Vw (Int.ediv_mul_le tp (show tq≠0 by omega)) (show 0<=wq by have:=Wf.q0;omega)
  have a3:tp / tq*wq*tq=tp / tq*tq*wq:=by rw[zb7,zbb wq,← zb7]
  omega
 refine kif (λhw=>?_) λhw=>?_
 ·walk_at "go"
  exact ⟨_,.refl _,k wd [fr wp wq] _ T (av fW bo) (by simp) (by subst hw;exact .iw W60) B13⟩
 walk_at "go"
 refine ytk B3.box (by decide) (by decide) λc4 μ4 c40 c41 B4=>?_
 walk_at "go"
 refine ytk B4.box (by decide) (by decide) λc5 μ5 c50 c51 B5=>?_
 walk_at "go"
 refine ⟨⟨by omega,by unfold bE;omega⟩,?_⟩
 have UA:=Eu (a:=1+c4) (b:=1+c5) (lo:=0) (hi:=6) (by omega) (by omega) (by omega) (by omega)
 have U:=UA.toFrB
 generalize (1+c4).fdiv (Vx (1+c4) (1+c5))=x at U UA ⊢
 generalize (1+c5).fdiv (Vx (1+c4) (1+c5))=y at U UA ⊢
 have U60:FrA 0 60 x y:=⟨⟨U.q0,U.q1,U.g,U.ge,by have:=U.le;have:=U.q0;omega⟩,UA.ab⟩
 have fU:kY (fr x y):=EZ U (by decide) (by decide)
 walk_at "go"
 refine ytk B5.box (by decide) (by decide) λc6 μ6 c60 c61 B6=>?_
 have al2:∀ d∈([fr 1 2,fr 2 3,fr 1 7,fr 7 8]:List D),∃ a e,d=fr a e/\kY d/\FrL 1 a e:=by
  repeat' (first | exact bo | refine av ⟨_,_,rfl,.inr ⟨_,_,rfl,⟨by decide,by decide⟩,by decide,by decide⟩,⟨⟨by decide,by decide,by decide,by decide,by decide⟩,by decide,by decide⟩⟩ ?_)
 obtain ⟨_,e2,da,de,rfl,fD,LD⟩:=dj al2 c60 c61
 walk_at "go"
 refine fL e2 ?_
 walk_at "go"
 have B16:=B13.trans (B4.trans (B5.trans B6))
 refine ⟨T.o,?_⟩
 refine kif (λhw2=>?_) λhw2=>?_
 ·walk_at "go"
  have y0:=U.q0
  have x0:=U.ge
  have x60:=U.le
  have y1:=U.q1
  refine ⟨⟨y0,by unfold bE;omega⟩,?_⟩
  have XA:=Eu (a:=x+y) (b:=y) (lo:=1) (hi:=60) y0 (by omega) (by have:=UA.ab;omega) (by omega)
  have X:=XA.toFrB
  exact ⟨_,.refl _,k wd [fr wp wq,_,fr da de,fr tp tq] _ T (av fW (av (EZ X (by decide) (by decide)) (av fD (av fT bo)))) (by simp) (by subst hw2;exact .jn W60 T60 wt XA LD) B16⟩
 walk_at "go"
 refine ⟨T.o,?_⟩
 refine kif (λhw3=>?_) λhw3=>?_
 ·walk_at "go"
  refine ytk B6.box (by decide) (by decide) λc7 μ7 c70 c71 B7=>?_
  have al3:∀ d∈([fr da de,fr 1 1,fr 1 16]:List D),∃ a e,d=fr a e/\kY d/\FrA 0 1 a e:=av ⟨_,_,rfl,fD,⟨⟨LD.q0,LD.q1,LD.g,LD.ge,LD.le⟩,by have:=LD.ab;omega⟩⟩ (av ⟨_,_,rfl,.inr ⟨_,_,rfl,⟨by decide,by decide⟩,by decide,by decide⟩,⟨⟨by decide,by decide,by decide,by decide,by decide⟩,by decide⟩⟩ (av ⟨_,_,rfl,.inr ⟨_,_,rfl,⟨by decide,by decide⟩,by decide,by decide⟩,⟨⟨by decide,by decide,by decide,by decide,by decide⟩,by decide⟩⟩ bo))
  obtain ⟨_,e3,ga,ge,rfl,f3,LA⟩:=dj al3 c70 c71
  walk_at "go"
  refine fL e3 ?_
  exact ⟨_,.refl _,k wd [fr wp wq,fr x y,fr ga ge,fr tp tq] _ T (av fW (av fU (av f3 (av fT bo)))) (by simp) (by subst hw3;exact .yL W60 T60 wt U60 LA) (B16.trans B7)⟩
 walk_at "go"
 refine ⟨T.o,?_⟩
 refine kif (λhw4=>?_) λhw4=>?_
 ·walk_at "go"
  refine ytk B6.box (by decide) (by decide) λc7 μ7 c70 c71 B7=>?_
  walk_at "go"
  refine ytk B7.box (by decide) (by decide) λc8 μ8 c80 c81 B8=>?_
  walk_at "go"
  exact ⟨_,.refl _,k wd [fr wp wq,fr x y,.int c7,.int (c7+c8),fr tp tq] _ T (av fW (av fU (av (.inl ⟨_,rfl,by omega,by omega⟩) (av (.inl ⟨_,rfl,by omega,by omega⟩) (av fT bo))))) (by simp) (by subst hw4;exact .calm W60 T60 wt U60 c70 (by omega) (by omega)) (B16.trans (B7.trans B8))⟩
 ·walk_at "go"
  exact ⟨_,.refl _,k wd [fr wp wq,fr x y,fr da de,fr tp tq] _ T (av fW (av fU (av fD (av fT bo)))) (by simp) (by
   have:wd=OF "step" := by
    rw[SU] at hwd
    simp only[b8,UQ,U2,or_false] at hwd
    rcases hwd with h | h | h | h | h
    ·exact absurd h hw
    ·exact h
    ·exact absurd h hw2
    ·exact absurd h hw3
    ·exact absurd h hw4
   subst this;exact .step W60 T60 wt U60 LD) B16⟩
theorem wy {lo hi i:Int}(h:lo<=i)(h':i<=hi):wiI lo hi (.int i)=true:=by simp only[wiI,decide_eq_true h,decide_eq_true h',Zb]
def MkN (hi:Int)(d:D):Prop:=∃ m:Option Int,d=oD m/\∀ i,m=some i->kA i/\i<=hi
theorem EB {hi:Int}{m:Option Int}(h:∀ i,m=some i->kA i/\i<=hi):nwB hi (oD m)=true:=by
 cases m with
 | none=>rfl
 | some i=>exact wy (h i rfl).1.l (h i rfl).2
theorem qR {hi:Int}:MkN hi .non:=⟨none,rfl,nofun⟩
theorem iV {hi i:Int}(h:0<=i)(h':i<=hi)(hh:hi<=1000000):MkN hi (.int i):=⟨some i,rfl,λj e=>by cases e;exact ⟨⟨h,by omega⟩,h'⟩⟩
def LT':List Str:=[OF "line", OF "turns"]
theorem NU:∀ z∈LT',UL z=true/\z.length<=8:=by decide +kernel
theorem Sa:∀ z∈LT',soB (.str z)=true:=by decide +kernel
theorem NH {z:Str}(h:nmS z=true):nZ z:=by
 refine ⟨xg h,?_⟩
 unfold nmS at h
 simp only[UM,decide_eq_true_eq,gU] at h
 exact h.1.2
def qG:FSp:=λds μ Q=>kcO ds λb ds=>kcS ds λn ds=>kcN ds ((Box μ b/\nmS n=true)/\∀ (w:WT) μ',w.Ok->w.nm=n->dW w.toD=true->eE b μ μ'->Q w.toD μ')
theorem JG:∀ ds μ Q,qG ds μ Q->ds.length=2:=λ_ _ _ h=>lcO h λ_ _ h=>lcS h λ_ _ h=>by rw[(ecN h).1];rfl
def KA:STr:=aD (aZ (aq L3.rIx (fb (af (aq aY (TC (.int 1)) (ao aC (af (ah 0) (af (TC (.int 3)) (ar))))) (af (aq aY (TC (.int 1)) (ao aC (af (ah 0) (af (TC (.int 20)) (ar))))) (ar)))) (aq kW (ao aC (af (ah 0) (af (TC (.int 8)) (ar)))) (TC (.int 7)))) (ax 2)) (aD (aZ (aq L3.rIx (fb (af (aq aY (TC (.int 1)) (ao aC (af (ah 0) (af (TC (.int 8)) (ar))))) (af (aq aY (TC (.int 1)) (ao aC (af (ah 0) (af (TC (.int 60)) (ar))))) (ar)))) (aq kW (ao aC (af (ah 0) (af (TC (.int 8)) (ar)))) (TC (.int 7)))) (ax 3)) (aD (aZ (aq L3.rIx (fb (af (TC .non) (af (aq jk (ao aC (af (ah 0) (af (aq aY (ah 3) (TC (.int 2))) (ar)))) (TC (.int 61))) (af (TC (.int 0)) (ar))))) (aq jk (ao aC (af (ah 0) (af (TC (.int 5)) (ar)))) (TC (.int 3)))) (ax 4)) (aK (bw (af (ah 1) (af (ah 2) (af (ah 3) (af (ah 4) (af (aq L3.rIx (fb (af (TC (.str "line")) (af (TC (.str "turns")) (ar)))) (ao aC (af (ah 0) (af (TC (.int 2)) (ar))))) (ar))))))))))
theorem Mh:∀ ds μ Q,qG ds μ Q->KA { nx:=λ_ μ'=>RT Q .non μ',rt:=RT Q } (ini 5 ds) μ:=by
 intro ds μ Q h
 replace h:=ecO h
 obtain ⟨b,ds,rfl,h⟩:=h
 replace h:=ecS h
 obtain ⟨n,ds,rfl,h⟩:=h
 replace h:=ecN h
 obtain ⟨rfl,h⟩:=h
 walk_at "ini"
 unfold KA
 walk_at "go"
 obtain ⟨⟨hB,hn⟩,k⟩:=h
 have T:=NH hn
 refine ytk hB (by decide) (by decide) λc1 μ1 c10 c11 B1=>?_
 walk_at "go"
 refine ytk B1.box (by decide) (by decide) λc2 μ2 c20 c21 B2=>?_
 walk_at "go"
 refine ytk B2.box (by decide) (by decide) λc3 μ3 c30 c31 B3=>?_
 walk_at "go"
 have i3:0<=c3.fdiv 7/\c3.fdiv 7 < 2:=by rw[gk (by decide)];omega
 have al:∀ d∈([.int (1+c1),.int (1+c2)]:List D),IsI 1 20 d:=av ⟨_,rfl,by omega,by omega⟩ (av ⟨_,rfl,by omega,by omega⟩ bo)
 obtain ⟨_,e1,p,rfl,p0,p1⟩:=dj al i3.1 i3.2
 refine ⟨⟨by decide,by unfold bE;decide⟩,fL e1 ?_⟩
 walk_at "go"
 refine ytk B3.box (by decide) (by decide) λc4 μ4 c40 c41 B4=>?_
 walk_at "go"
 refine ytk B4.box (by decide) (by decide) λc5 μ5 c50 c51 B5=>?_
 walk_at "go"
 refine ytk B5.box (by decide) (by decide) λc6 μ6 c60 c61 B6=>?_
 walk_at "go"
 have i6:0<=c6.fdiv 7/\c6.fdiv 7 < 2:=by rw[gk (by decide)];omega
 have al2:∀ d∈([.int (1+c4),.int (1+c5)]:List D),IsI 1 60 d:=av ⟨_,rfl,by omega,by omega⟩ (av ⟨_,rfl,by omega,by omega⟩ bo)
 obtain ⟨_,e2,r,rfl,r0,r1⟩:=dj al2 i6.1 i6.2
 refine ⟨⟨by decide,by unfold bE;decide⟩,fL e2 ?_⟩
 walk_at "go"
 refine ytk B6.box (by omega) (by omega) λc7 μ7 c70 c71 B7=>?_
 walk_at "go"
 have m7:=fm0 (a:=c7) (n:=61) (by decide)
 have m7':=fm1 (a:=c7) (n:=61) (by decide)
 refine ⟨by decide,?_⟩
 refine ytk B7.box (by decide) (by decide) λc8 μ8 c80 c81 B8=>?_
 walk_at "go"
 have m8:=fm0 (a:=c8) (n:=3) (by decide)
 have m8':=fm1 (a:=c8) (n:=3) (by decide)
 have al3:∀ d∈([.non,.int (c7.fmod 61),.int 0]:List D),MkN 60 d:=av qR (av (iV m7 (by omega) (by decide)) (av (iV (by decide) (by decide) (by decide)) bo))
 obtain ⟨_,e3,m,rfl,hm⟩:=dj al3 m8 m8'
 refine ⟨by decide,fL e3 ?_⟩
 walk_at "go"
 refine ytk B8.box (by decide) (by decide) λc9 μ9 c90 c91 B9=>?_
 have al4:∀ d∈LT'.map D.str,∃ z,z∈LT'/\d=.str z:=λd hd=>by obtain ⟨z,hz,rfl⟩:=U3.mp hd;exact ⟨z,hz,rfl⟩
 obtain ⟨_,e4,so,hso,rfl⟩:=dj al4 c90 c91
 have e4:atD [.str "line", .str "turns"] c9=some (.str so):=e4
 walk_at "go"
 rw[e4]
 walk_at "go"
 exact ⟨_,.refl _,k ⟨n,p,r,m,so⟩ _ ⟨T,⟨by show 0<=p;omega,by show p < _;omega⟩,⟨by show 0<=r;omega,by show r < _;omega⟩,λi e=>(hm i e).1,⟨(NU so hso).1,(NU so hso).2⟩⟩ rfl (by
  show (nmS n&&(wiI 1 20 (.int p)&&(wiI 1 60 (.int r)&&(nwB 60 (oD m)&&soB (.str so)))))=true
  rw[hn,wy p0 p1,wy r0 r1,EB hm,Sa so hso];rfl) (B1.trans (B2.trans (B3.trans (B4.trans (B5.trans (B6.trans (B7.trans (B8.trans B9))))))))⟩
theorem NF {μ:Mu}{b p:Addr}(h:Box μ b)(hp:μ p=none):p≠b:=λz=>by subst z;obtain ⟨_,_,_,e,_⟩:=h;rw[hp] at e;cases e
theorem Ee {μ:Mu}{b p:Addr}{o:MO}(h:Box μ b)(hp:p≠b):Box (up μ p o) b:=by
 obtain ⟨g,s,c,e,h0⟩:=h
 exact ⟨g,s,c,by rw[bQ (Vq hp)];exact e,h0⟩
theorem RJ {μ:Mu}{b p:Addr}(h:Box μ b)(hp:p≠b):Box (dn μ p) b:=by
 obtain ⟨g,s,c,e,h0⟩:=h
 exact ⟨g,s,c,by unfold L3.dn;rw[if_neg (Vq hp)];exact e,h0⟩
theorem nc {G:GTr}{tt:TTr}{te:ETr}{ρc:ST}{ds:List D}{μ:Mu}{Q:DK}{b:Addr}(hB:Box μ b)(I:List D->List D->Prop)(h0:I ds [])(hl:ds.length<=999999)
  (step:∀ d r zs μ',Box μ' b->I (d::r) zs->∀ (N:Option D->Mu->Prop),(∀ oy μ2,I r (zs++oy.toList)->eE b μ' μ2->N oy μ2)->G d ρc μ' λρ1 μ1=>tt ρ1 μ1 λc μ2=>kIf c (te ρ1 μ2 λy μ3=>N (some y) μ3) (N none μ2))
  (k:∀ zs μ',I [] zs->eE b μ μ'->Q (.ls zs) μ'):wU G tt te ρc ds μ Q:=by
 intro p hp
 have pb:=NF hB hp
 refine kR (λr μ'=>∃ zs,I r zs/\zs.length+r.length<=ds.length/\μ' p=some (.lst zs)/\Box μ' b/\∀ x,x≠b->x≠p->μ' x=μ x) ?_ ?_ _ _ ⟨[],h0,by simp,bh,Ee hB pb,λx _ h=>bQ h⟩
 ·rintro μ' ⟨zs,hI,_,e,P,fr⟩
  refine e7 e (k zs _ hI ⟨RJ P pb,λx hx=>?_⟩)
  unfold L3.dn
  split
  ·rename_i z;subst z;exact hp.symm
  ·rename_i z;exact fr x hx z
 ·rintro d r μ' N ⟨zs,hI,hz,e,P,fr⟩ hN
  rw[UX] at hz
  refine step d r zs μ' P hI (λoy μ3=>match oy with
   | some y=>kL μ3 p λzs=>zs.length < 1000000/\N (up μ3 p (.lst (zs++[y])))
   | none=>N μ3) ?_
  intro oy μ2 hoy P2
  have e2:μ2 p=some (.lst zs):=by rw[P2.oth p pb];exact e
  cases oy with
  | none=>exact hN _ ⟨zs,by simpa using hoy,by omega,e2,P2.box,λx h1 h2=>(P2.oth x h1).trans (fr x h1 h2)⟩
  | some y=>
   refine e7 e2 ⟨by omega,hN _ ⟨zs++[y],hoy,by rw[UY];simp;omega,bh,Ee P2.box pb,λx h1 h2=>?_⟩⟩
   rw[bQ h2];exact (P2.oth x h1).trans (fr x h1 h2)
theorem Js {k:Nat}:∀ {zs:List Str},(∀ z∈zs,nZ z)->ck k (zs.map .str)=true
 | [],_=>rfl
 | z::r,h=>by
  rw[Vt,ck,UM]
  exact ⟨by cases k<;>simpa[okD] using (h z UK).o,Js λy q=>h y (UN _ q)⟩
theorem KJ {ns:List Str}(nd:ns.Nodup)(hn:∀ z∈ns,nmS z=true):∀ (xs pre suf:List Str),pre++suf=ns->xs.Sublist suf->fH ns pre.length (xs.map .str)=true:=by
 intro xs
 induction xs with
 | nil=>intro _ _ _ _;rfl
 | cons x xs ih=>
  intro pre suf e sl
  have hx:x∈suf:=sl.subset UK
  have hx':x∈ns:=by rw[← e];exact Vd _ hx
  obtain ⟨s1,s2,rfl⟩:=List.append_of_mem hx
  have e':(pre++s1++[x])++s2=ns:=by rw[← e];simp
  have nx:x ∉ pre++s1:=by
   rw[← e'] at nd
   have:=(Xj.mp (Xj.mp nd).1).2.2
   exact λh=>this x h x (by simp) rfl
  have pos:xB ns x=(pre++s1).length:=by
   have no:(pre++s1).findIdx (λy=>decide (y=x))=(pre++s1).length:=List.findIdx_eq_length.mpr λy hy=>decide_eq_false λz=>nx (z ▸ hy)
   unfold xB
   rw[← e',V7,List.findIdx_append,no,if_neg (Xd _),List.singleton_append,List.findIdx_cons]
   simp
  have dr:ns.drop pre.length=s1++x::s2:=by rw[← e];simp
  have sl2:xs.Sublist s2:=by
   have:(x::xs).Sublist (s1++x::s2):=sl
   rw[List.sublist_append_iff] at this
   obtain ⟨l1,l2,h1,h2,h3⟩:=this
   cases l1 with
   | nil=>
    rw[WN] at h1
    subst h1
    exact List.cons_sublist_cons.mp h3
   | cons y l1=>
    rw[WD] at h1
    injection h1 with h4 h5
    subst h4
    exact absurd (Vd pre (h2.subset UK)) nx
  have ih':=ih (pre++s1++[x]) s2 e' sl2
  rw[Vt]
  show (nmS x&&(decide (x∈ns.drop pre.length)&&fH ns (xB ns x+1) (xs.map .str)))=true
  rw[hn x hx',dr,decide_eq_true (by simp),pos]
  rw[UY,Xg] at ih'
  rw[ih'];rfl
theorem IU {ns xs:List Str}(nd:ns.Nodup)(hn:∀ z∈ns,nmS z=true)(ne:xs≠[])(sl:xs.Sublist ns):jC ns (.tup (xs.map .str))=true:=by
 show (decide (xs.map D.str≠[])&&fH ns 0 (xs.map .str))=true
 have h0:fH ns 0 (xs.map .str)=true:=KJ nd hn xs [] ns rfl sl
 rw[decide_eq_true (by simpa using ne),h0];rfl
def i7:FSp:=λds μ Q=>kcO ds λb ds=>kcS ds λn ds=>kcT ds λxs ds=>kcI ds λm ds=>kcN ds (∃ ws:List WT,(Box μ b/\nmS n=true/\xs=ws.map WT.toD/\(0 < ws.length/\ws.length<=8)/\(∀ w∈ws,w.Ok/\nmS w.nm=true)/\(ws.map WT.nm).Nodup/\1<=m/\m<=60)/\∀ (s:ST') μ',s.Ok->s.nm=n->s.rd.Sublist (ws.map WT.nm)->s.rd≠[]->b7 (ws.map WT.nm) s.toD=true->p9 s.wd (.tup (.str s.wd::s.ps))->eE b μ μ'->Q s.toD μ')
theorem BL:∀ ds μ Q,i7 ds μ Q->ds.length=4:=λ_ _ _ h=>lcO h λ_ _ h=>lcS h λ_ _ h=>lcT h λ_ _ h=>lcI h λ_ _ h=>by rw[(ecN h).1];rfl
def iH:STr:=aD (aZ (aq L3.rIx (fb (af (aq aY (TC (.int 1)) (ao aC (af (ah 0) (af (TC (.int 3)) (ar))))) (af (aq aY (TC (.int 1)) (ao aC (af (ah 0) (af (TC (.int 8)) (ar))))) (ar)))) (aq kW (ao aC (af (ah 0) (af (TC (.int 6)) (ar)))) (TC (.int 5)))) (ax 5)) (aD (aZ (aq L3.rIx (fb (af (TC .non) (af (ao aC (af (ah 0) (af (TC (.int 25)) (ar)))) (ar)))) (ao aC (af (ah 0) (af (TC (.int 2)) (ar))))) (ax 6)) (aK (bw (af (ah 1) (af (ah 4) (af (ah 5) (af (ao aC (af (ah 0) (af (TC (.int 4)) (ar)))) (af (ah 6) (af (ao kb (af (ah 0) (af (ah 3) (ar)))) (ar))))))))))
def wJ:STr:=aD (aZ (ao cO (af (cp (fk (ah 2)) (ax 0) (TB (aq rGt (ao aC (af (ah 1) (af (TC (.int 3)) (ar)))) (TC (.int 0)))) (aq L3.rIx (ah 0) (TC (.int 0))) 1 [0]) (ar))) (ax 4)) (aD (bp (TB (aq rEq (ah 4) (bw (ar)))) (aZ (bw (af (aq L3.rIx (aq L3.rIx (ah 2) (ao aC (af (ah 0) (af (ao cI (af (ah 2) (ar))) (ar))))) (TC (.int 0))) (ar))) (ax 4)) (aU)) (iH))
theorem CJ:∀ ds μ Q,i7 ds μ Q->wJ { nx:=λ_ μ'=>RT Q .non μ',rt:=RT Q } (ini 7 ds) μ:=by
 intro ds μ Q h
 replace h:=ecO h
 obtain ⟨b,ds,rfl,h⟩:=h
 replace h:=ecS h
 obtain ⟨n,ds,rfl,h⟩:=h
 replace h:=ecT h
 obtain ⟨xs,ds,rfl,h⟩:=h
 replace h:=ecI h
 obtain ⟨m,ds,rfl,h⟩:=h
 replace h:=ecN h
 obtain ⟨rfl,h⟩:=h
 walk_at "ini"
 unfold wJ
 walk_at "go"
 obtain ⟨ws,⟨hB,hnm,rfl,⟨l0,l1⟩,hw2,wnd,m0,m1⟩,k⟩:=h
 have T:=NH hnm
 have hw:∀ w∈ws,w.Ok:=λw h=>(hw2 w h).1
 have hns:∀ z∈ws.map WT.nm,nmS z=true:=λz hz=>by obtain ⟨w,h,rfl⟩:=U3.mp hz;exact (hw2 w h).2
 refine nc hB (λr zs=>∃ (rs:List WT) (ns:List Str),r=rs.map WT.toD/\zs=ns.map .str/\(∀ x∈rs,x.Ok)/\ns.length+rs.length<=8/\(∀ z∈ns,nZ z)/\∃ pre,pre++rs=ws/\ns.Sublist (pre.map WT.nm)) ⟨ws,[],rfl,rfl,hw,by simpa using l1,λ_ h=>(nomatch h),[],rfl,.slnil⟩ (by simp;omega) ?_ ?_
 ·rintro d r zs μ1 hB1 ⟨rs,ns,er,rfl,hr,hl,hn,pre,ep,sl⟩ N hN
  cases rs with
  | nil=>cases er
  | cons x rs=>
  cases er
  rw[UX] at hl
  have hr':=λy hy=>hr y (UN x hy)
  walk_at "go"
  refine ytk hB1 (by decide) (by decide) λc μ2 c0 c1 B2=>?_
  walk_at "go"
  refine kif (λh=>?_) λh=>?_
  ·unfold WT.toD
   walk_at "go"
   refine hN _ _ ⟨rs,ns++[x.nm],rfl,by simp,hr',by simp;omega,λz hz=>?_,pre++[x],by rw[← ep];simp,by rw[Vc];exact sl.append (zcw _)⟩ B2
   rcases Vo.mp hz with q | q
   ·exact hn z q
   ·rw[UZ.mp q];exact (hr x UK).n
  ·exact hN none _ ⟨rs,ns,rfl,by simp,hr',by omega,hn,pre++[x],by rw[← ep];simp,by rw[Vc];exact sl.trans (List.sublist_append_left _ _)⟩ B2
 ·rintro zs μ1 ⟨rs,ns,er,rfl,_,hl,hn,pre,ep,sl⟩ B1
  have e0:rs=[]:=by cases rs with | nil=>rfl | cons=>cases er
  rw[e0,Ve] at ep
  rw[ep] at sl
  walk_at "go"
  have fin:∀ (xs:List Str) μ2,(∀ y∈xs,nZ y)->xs.length<=8->xs.Sublist (ws.map WT.nm)->xs≠[]->eE b μ μ2->iH { nx:=λ_ μ'=>RT Q .non μ',rt:=RT Q } [some (.obj b),some (.str n),some (.tup (ws.map WT.toD)),some (.int m),some (.tup (xs.map .str)),none,none] μ2:=by
   intro xs μ2 ho hxl xsl xne B2
   unfold iH
   walk_at "go"
   refine ytk B2.box (by decide) (by decide) λc3 μ3 c30 c31 B3=>?_
   walk_at "go"
   refine ytk B3.box (by decide) (by decide) λc4 μ4 c40 c41 B4=>?_
   walk_at "go"
   refine ytk B4.box (by decide) (by decide) λc5 μ5 c50 c51 B5=>?_
   walk_at "go"
   have i5:0<=c5.fdiv 5/\c5.fdiv 5 < 2:=by rw[gk (by decide)];omega
   have al:∀ d∈([.int (1+c3),.int (1+c4)]:List D),IsI 1 8 d:=av ⟨_,rfl,by omega,by omega⟩ (av ⟨_,rfl,by omega,by omega⟩ bo)
   obtain ⟨_,e1,bt,rfl,b0,b1⟩:=dj al i5.1 i5.2
   refine ⟨⟨by decide,by unfold bE;decide⟩,fL e1 ?_⟩
   walk_at "go"
   refine ytk B5.box (by decide) (by decide) λc6 μ6 c60 c61 B6=>?_
   walk_at "go"
   refine ytk B6.box (by decide) (by decide) λc7 μ7 c70 c71 B7=>?_
   have al3:∀ d∈([.non,.int c6]:List D),MkN 1000000 d:=av qR (av (iV c60 (by omega) (by decide)) bo)
   obtain ⟨_,e3,mn,rfl,hm⟩:=dj al3 c70 c71
   walk_at "go"
   refine fL e3 ?_
   walk_at "go"
   refine ytk B7.box (by decide) (by decide) λc8 μ8 c80 c81 B8=>?_
   walk_at "go"
   refine ⟨⟨B8.box,m0,m1⟩,λwd ps μ9 Tw hp pl RU B9=>?_⟩
   walk_at "go"
   exact ⟨_,.refl _,k ⟨n,xs,bt,c8,mn,wd,ps⟩ _ ⟨T,ho,hxl,⟨by show 0<=bt;omega,by show bt < _;omega⟩,⟨c80,by show c8 < _;omega⟩,λi e=>(hm i e).1,Tw,hp,pl⟩ rfl xsl xne (by
    show (nmS n&&(jC _ (.tup (xs.map .str))&&(wiI 1 8 (.int bt)&&(wiI 0 1000000 (.int c8)&&(nwB 1000000 (oD mn)&&gq (.tup (.str wd::ps)))))))=true
    rw[hnm,IU wnd hns xne xsl,wy b0 b1,wy c80 (by omega),EB hm,RU.b];rfl) RU (B2.trans (B3.trans (B4.trans (B5.trans (B6.trans (B7.trans (B8.trans B9)))))))⟩
  cases ns with
  | cons x xs=>
   walk_at "go"
   have o1:=(hn x UK).o
   have o2:=Js (k:=39) λy q=>hn y (UN x q)
   exact ⟨by rw[o1,o2];rfl,fin (x::xs) μ1 hn (by simp at hl ⊢;omega) sl (by simp) B1⟩
  | nil=>
   walk_at "go"
   rw[UJ]
   refine ytk B1.box (by omega) (by omega) λc μ2 c0 c1 B2=>?_
   obtain ⟨_,e2,y,hy,rfl⟩:=dj (P:=λd=>∃ y,y∈ws/\d=y.toD) (xs:=ws.map WT.toD) (λd hd=>by obtain ⟨y,hy,rfl⟩:=U3.mp hd;exact ⟨y,hy,rfl⟩) c0 (by rw[UJ];exact c1)
   walk_at "go"
   refine fL e2 ?_
   unfold WT.toD
   walk_at "go"
   exact fin [y.nm] μ2 (λz hz=>by rw[UZ.mp hz];exact (hw y hy).n) (by simp) (List.singleton_sublist.mpr (U3.mpr ⟨y,hy,rfl⟩)) (by simp) (B1.trans B2)
theorem Nh (ws:List WT):(ws.map WT.toD).map nmD=ws.map WT.nm:=by rw[Vg];rfl
theorem MW (ss:List ST'):(ss.map ST'.toD).map nmD=ss.map ST'.nm:=by rw[Vg];rfl
theorem Oe {ws:List WT}(h:∀ w∈ws,dW w.toD=true):(ws.map WT.toD).all dW=true:=by
 rw[Xp];exact Vv.mpr h
theorem PQ {ns:List Str}{ss:List ST'}(h:∀ s∈ss,b7 ns s.toD=true):(ss.map ST'.toD).all (b7 ns)=true:=by
 rw[Xp];exact Vv.mpr h
structure PT.Good (p:PT):Prop where
 ok:p.Ok
 g0:1<=p.g
 g1:p.g<=60
 w1:1<=p.ws.length
 w6:p.ws.length<=6
 w:∀ w∈p.ws,dW w.toD=true
 wn:(p.ws.map WT.nm).Nodup
 s8:p.ss.length<=8
 s:∀ s∈p.ss,b7 (p.ws.map WT.nm) s.toD=true
 sn:(p.ss.map ST'.nm).Pairwise λa b=>ltS a b=true
 sl:∀ s∈p.ss,s.rd.Sublist (p.ws.map WT.nm)/\s.rd≠[]
theorem PT.Good.b {p:PT}(h:p.Good):nN p.toD=true:=by
 show (wiI 1 60 (.int p.g)&&(((decide (1<=(p.ws.map WT.toD).length)&&decide ((p.ws.map WT.toD).length<=6))&&((p.ws.map WT.toD).all dW&&decide (((p.ws.map WT.toD).map nmD).Nodup)))&&(decide ((p.ss.map ST'.toD).length<=8)&&((p.ss.map ST'.toD).all (b7 ((p.ws.map WT.toD).map nmD))&&Jb ((p.ss.map ST'.toD).map nmD)))))=true
 rw[Nh,MW,UJ,UJ,wy h.g0 h.g1,decide_eq_true h.w1,decide_eq_true h.w6,Oe h.w,decide_eq_true h.wn,decide_eq_true h.s8,PQ h.s]
 unfold Jb
 rw[decide_eq_true h.sn];rfl
theorem GO {w:WT}(h:dW w.toD=true):nmS w.nm=true:=by
 have h:(nmS w.nm&&_)=true:=h
 rw[UM] at h
 exact h.1
def mW:FSp:=λds μ Q=>kcO ds λb ds=>kcI ds λm ds=>kcI ds λn ds=>kcN ds ((Box μ b/\(1<=m/\m<=60)/\0<=n/\n<=8)/\∀ (p:PT) μ',p.Good->(∀ s∈p.ss,p9 s.wd (.tup (.str s.wd::s.ps)))->eE b μ μ'->Q p.toD μ')
theorem Fp:∀ ds μ Q,mW ds μ Q->ds.length=3:=λ_ _ _ h=>lcO h λ_ _ h=>lcI h λ_ _ h=>lcI h λ_ _ h=>by rw[(ecN h).1];rfl
def DU:STr:=aD (aZ (aq L3.rIx (fb (af (TC (.int 1)) (af (TC (.int 2)) (af (TC (.int 3)) (af (aq aY (TC (.int 1)) (ao aC (af (ah 0) (af (TC (.int 60)) (ar))))) (ar)))))) (ao aC (af (ah 0) (af (TC (.int 4)) (ar))))) (ax 3)) (aD (aZ (aq L3.rIx (fb (af (aq aY (TC (.int 1)) (ao aC (af (ah 0) (af (TC (.int 3)) (ar))))) (af (aq aY (TC (.int 4)) (ao aC (af (ah 0) (af (TC (.int 3)) (ar))))) (ar)))) (aq kW (ao aC (af (ah 0) (af (TC (.int 4)) (ar)))) (TC (.int 3)))) (ax 4)) (aD (aZ (ao cO (af (cp (fk (ao ie (af (ah 0) (af (ah 4) (ar))))) (ax 0) (fe) (ao qG (af (ah 1) (af (ah 0) (ar)))) 1 [0]) (ar))) (ax 5)) (aD (aZ (ao De (af (ao ie (af (ah 0) (af (ao aC (af (ah 0) (af (aq aY (ah 2) (TC (.int 1))) (ar)))) (ar)))) (ar))) (ax 6)) (aK (bw (af (ah 3) (af (ah 5) (af (ao cO (af (cp (fk (ah 6)) (ax 0) (fe) (ao i7 (af (ah 1) (af (ah 0) (af (ah 2) (af (ah 3) (ar)))))) 1 [0,5,1]) (ar))) (ar)))))))))
theorem Hj:∀ ds μ Q,mW ds μ Q->DU { nx:=λ_ μ'=>RT Q .non μ',rt:=RT Q } (ini 7 ds) μ:=by
 intro ds μ Q h
 replace h:=ecO h
 obtain ⟨b,ds,rfl,h⟩:=h
 replace h:=ecI h
 obtain ⟨m,ds,rfl,h⟩:=h
 replace h:=ecI h
 obtain ⟨n,ds,rfl,h⟩:=h
 replace h:=ecN h
 obtain ⟨rfl,h⟩:=h
 walk_at "ini"
 unfold DU
 walk_at "go"
 obtain ⟨⟨hB,⟨m0,m1⟩,n0,n1⟩,k⟩:=h
 refine ytk hB (by decide) (by decide) λc1 μ1 c10 c11 B1=>?_
 walk_at "go"
 refine ytk B1.box (by decide) (by decide) λc2 μ2 c20 c21 B2=>?_
 have al:∀ d∈([.int 1,.int 2,.int 3,.int (1+c1)]:List D),IsI 1 60 d:=av ⟨_,rfl,by decide,by decide⟩ (av ⟨_,rfl,by decide,by decide⟩ (av ⟨_,rfl,by decide,by decide⟩ (av ⟨_,rfl,by omega,by omega⟩ bo)))
 obtain ⟨_,e1,gr,rfl,g0,g1⟩:=dj al c20 c21
 walk_at "go"
 refine fL e1 ?_
 walk_at "go"
 refine ytk B2.box (by decide) (by decide) λc3 μ3 c30 c31 B3=>?_
 walk_at "go"
 refine ytk B3.box (by decide) (by decide) λc4 μ4 c40 c41 B4=>?_
 walk_at "go"
 refine ytk B4.box (by decide) (by decide) λc5 μ5 c50 c51 B5=>?_
 walk_at "go"
 have i5:0<=c5.fdiv 3/\c5.fdiv 3 < 2:=by rw[gk (by decide)];omega
 have al2:∀ d∈([.int (1+c3),.int (4+c4)]:List D),IsI 1 6 d:=av ⟨_,rfl,by omega,by omega⟩ (av ⟨_,rfl,by omega,by omega⟩ bo)
 obtain ⟨_,e2,mw,rfl,w0,w1⟩:=dj al2 i5.1 i5.2
 refine ⟨⟨by decide,by unfold bE;decide⟩,fL e2 ?_⟩
 walk_at "go"
 refine ⟨⟨B5.box,by omega,by omega⟩,λzs μ6 zl hz znd B6=>?_⟩
 walk_at "go"
 refine nc B6.box (λr ys=>∃ (rs:List Str) (wl:List WT),r=rs.map .str/\ys=wl.map WT.toD/\(∀ z∈rs,nmS z=true)/\(∀ w∈wl,w.Ok/\dW w.toD=true)/\wl.map WT.nm++rs=zs) ⟨zs,[],rfl,rfl,hz,(λ_ h=>nomatch h),rfl⟩ (by simp;omega) ?_ ?_
 ·rintro d r ys μ' hB' ⟨rs,wl,er,rfl,hr,hw,hl⟩ N hN
  cases rs with
  | nil=>cases er
  | cons z rs=>
  cases er
  walk_at "go"
  refine ⟨⟨hB',hr z UK⟩,λw μ2 W Wn Wb B=>?_⟩
  refine hN (some w.toD) _ ⟨rs,wl++[w],rfl,by simp,(λy q=>hr y (UN _ q)),λy hy=>?_,by rw[← hl,Vc,Vt,Wn];simp⟩ B
  rcases Vo.mp hy with q | q
  ·exact hw y q
  ·rw[UZ.mp q];exact ⟨W,Wb⟩
 rintro ys μ7 ⟨rs,ws,er,rfl,_,hw,hl⟩ B7
 cases rs with
 | cons _ _=>cases er
 | nil=>
 rw[Ve] at hl
 have wl:ws.length=zs.length:=by rw[← hl,UJ]
 have wnd:(ws.map WT.nm).Nodup:=by rw[hl];exact znd
 walk_at "go"
 refine ytk B7.box (by omega) (by omega) λc8 μ8 c80 c81 B8=>?_
 walk_at "go"
 refine ⟨⟨B8.box,c80,by omega⟩,λns μ9 nl hn nnd B9=>?_⟩
 refine ⟨ns,⟨rfl,by omega⟩,λnn p1 p2=>?_⟩
 have nnl:=p1.length_eq
 have srt:=HF p2 ((p1.nodup_iff).mpr nnd)
 have hnn:∀ z∈nn,nmS z=true:=λz q=>hn z (p1.mem_iff.mp q)
 walk_at "go"
 refine nc B9.box (λr ys=>∃ (rs:List Str) (sl:List ST'),r=rs.map .str/\ys=sl.map ST'.toD/\(∀ z∈rs,nmS z=true)/\(∀ s∈sl,s.Ok/\b7 (ws.map WT.nm) s.toD=true/\(s.rd.Sublist (ws.map WT.nm)/\s.rd≠[])/\p9 s.wd (.tup (.str s.wd::s.ps)))/\sl.map ST'.nm++rs=nn) ⟨nn,[],rfl,rfl,hnn,(λ_ h=>nomatch h),rfl⟩ (by simp;omega) ?_ ?_
 ·rintro d r ys μ' hB' ⟨rs,sl,er,rfl,hr,hs,hl'⟩ N hN
  cases rs with
  | nil=>cases er
  | cons z rs=>
  cases er
  walk_at "go"
  refine ⟨ws,⟨hB',hr z UK,rfl,⟨by omega,by omega⟩,(λw h=>⟨(hw w h).1,GO (hw w h).2⟩),wnd,m0,m1⟩,λs μ2 S Sn Sr Sr0 Sb Sru B=>?_⟩
  refine hN (some s.toD) _ ⟨rs,sl++[s],rfl,by simp,(λy q=>hr y (UN _ q)),λy hy=>?_,by rw[← hl',Vc,Vt,Sn];simp⟩ B
  rcases Vo.mp hy with q | q
  ·exact hs y q
  ·rw[UZ.mp q];exact ⟨S,Sb,⟨Sr,Sr0⟩,Sru⟩
 rintro ys μ10 ⟨rs,ss,er,rfl,_,hs,hl2⟩ B10
 cases rs with
 | cons _ _=>cases er
 | nil=>
 rw[Ve] at hl2
 have sl:ss.length=nn.length:=by rw[← hl2,UJ]
 walk_at "go"
 exact ⟨_,.refl _,k ⟨gr,ws,ss⟩ _ ⟨⟨⟨by show 0<=gr;omega,by show gr < _;omega⟩,λw h=>(hw w h).1,λs h=>(hs s h).1,by show ws.length<=8;omega,by show ss.length<=8;omega⟩,g0,g1,by show 1<=ws.length;omega,by show ws.length<=6;omega,λw h=>(hw w h).2,wnd,by show ss.length<=8;omega,λs h=>(hs s h).2.1,by show (ss.map ST'.nm).Pairwise _;rw[hl2];exact srt,λs h=>(hs s h).2.2.1⟩ (λs h=>(hs s h).2.2.2) (B1.trans (B2.trans (B3.trans (B4.trans (B5.trans (B6.trans (B7.trans (B8.trans (B9.trans B10)))))))))⟩
section
open PySem PySem.Spec PyProof PyProof.Rows L2
end
def GrY (b:Addr)(μ μ':Mu):Prop:=Box μ' b/\∀ a o,a≠b->μ a=some o->μ' a=some o
theorem GrY.trans {b:Addr}{μ μ1 μ2:Mu}(x:GrY b μ μ1)(y:GrY b μ1 μ2):GrY b μ μ2:=⟨y.1,λa o h e=>y.2 a o h (x.2 a o h e)⟩
theorem GrY.new {μ:Mu}{b q:Addr}{o:MO}(h:Box μ b)(hq:μ q=none):GrY b μ (up μ q o):=by
 obtain ⟨g,s,c,e,r⟩:=h
 have ne:b≠q:=λz=>by rw[z,hq] at e;cases e
 exact ⟨⟨g,s,c,by rw[bQ ne];exact e,r⟩,λa o h e=>by rw[bQ (λz=>by rw[z,hq] at e;cases e)];exact e⟩
theorem anyS {μ:Mu}{z:Str}(h:∀ c∈z.cps.toList,c < 128)(hl:z.length<=1000):Any μ (.str z):=.str (by
 rw[Vh]
 intro c hc
 exact decide_eq_true (h c (by simpa using hc))) hl
theorem nE {z:Str}(h:nmS z=true):(1<=z.length/\z.length<=8)/\∀ c∈z.cps.toList,97<=c/\c<=122:=by
 unfold nmS at h
 simp only[UM,decide_eq_true_eq,Vv,gU] at h
 refine ⟨h.1,λc hc=>?_⟩
 have:=h.2 c hc
 simpa only[sm,UM,decide_eq_true_eq] using this
theorem kH {μ:Mu}{z:Str}(h:nmS z=true):Any μ (.str z):=anyS (λc hc=>by have:=(nE h).2 c hc;omega) (by have:=(nE h).1;omega)
theorem anyI {μ:Mu}{i:Int}(h:-1000000000000000000000000000000000<=i)(h':i<=1000000000000000000000000000000000):Any μ (.int i):=.int (by unfold bE;omega)
theorem Rj {μ:Mu}{o:Option Int}(h:∀ i,o=some i->kA i):Any μ (oD o):=by
 cases o with
 | none=>exact .non
 | some i=>have:=h i rfl;exact anyI (by have:=this.l;omega) (by have:=this.u;omega)
theorem nuA {μ:Mu}{i:Int}(h:kA i):Any μ (.int i):=anyI (by have:=h.l;omega) (by have:=h.u;omega)
theorem yU {μ:Mu}{ds:List D}(h:∀ d∈ds,Any μ d)(hl:ds.length<=1000:=by simp):Any μ (.tup ds):=.tup h hl
theorem Ed {μ:Mu}{z:Str}(h:soB (.str z)=true):Any μ (.str z):=by
 have h:(decide (z=OF "line") || decide (z=OF "turns"))=true:=h
 rw[ZN,decide_eq_true_eq,decide_eq_true_eq] at h
 rcases h with rfl | rfl<;>exact .str (by decide +kernel) (by decide +kernel)
theorem WT.any {μ:Mu}{w:WT}(h:w.Ok)(hb:dW w.toD=true):Any μ w.toD:=by
 have hb:(nmS w.nm&&(wiI 1 20 (.int w.p)&&(wiI 1 60 (.int w.r)&&(nwB 60 (oD w.m)&&soB (.str w.so)))))=true:=hb
 simp only[UM] at hb
 exact yU (av (kH hb.1) (av (nuA h.p) (av (nuA h.r) (av (Rj h.m) (av (Ed hb.2.2.2.2) bo)))))
theorem fgA {μ:Mu}{d:D}(h:kY d):Any μ d:=by
 rcases h with ⟨i,rfl,h0,h1⟩ | ⟨a,b,rfl,⟨a0,a1⟩,b0,b1⟩
 ·exact anyI (by omega) (by omega)
 ·exact yU (av (anyI (by omega) (by omega)) (av (anyI (by omega) (by omega)) bo))
theorem PM {μ:Mu}{w:Str}(h:w∈b8):Any μ (.str w):=by
 simp only[b8,UQ,U2,or_false] at h
 rcases h with rfl | rfl | rfl | rfl | rfl<;>exact .str (by decide +kernel) (by decide +kernel)
theorem M9 {w:Str}{xs:List D}(h:gq (.tup (.str w::xs))=true):w∈b8:=by
 rw[qO,UM] at h
 cases e:bx iM w with
 | none=>rw[e] at h;cases h.1
 | some d=>
  rcases NS e with ⟨rfl,_⟩ | ⟨h4,_⟩ | ⟨rfl,_⟩
  ·simp[b8]
  ·exact EY h4
  ·simp[b8]
theorem ruA {μ:Mu}{w:Str}{ps:List D}(h:gq (.tup (.str w::ps))=true)(hp:∀ d∈ps,kY d)(hl:ps.length<=6):Any μ (.tup (.str w::ps)):=yU (av (PM (M9 h)) λd hd=>fgA (hp d hd)) (by simp;omega)
theorem uc {ns:List Str}{s:ST'}(h:b7 ns s.toD=true):nmS s.nm=true/\jC ns (.tup (s.rd.map .str))=true/\wiI 1 8 (.int s.bt)=true/\wiI 0 1000000 (.int s.bg)=true/\nwB 1000000 (oD s.mn)=true/\gq (.tup (.str s.wd::s.ps))=true:=by
 have h:(nmS s.nm&&(jC ns (.tup (s.rd.map .str))&&(wiI 1 8 (.int s.bt)&&(wiI 0 1000000 (.int s.bg)&&(nwB 1000000 (oD s.mn)&&gq (.tup (.str s.wd::s.ps)))))))=true:=h
 simpa only[UM] using h
theorem AG {ns:List Str}:∀ {b:Nat} {xs:List Str},fH ns b (xs.map .str)=true->∀ z∈xs,nmS z=true:=by
 intro b xs
 revert b
 induction xs with
 | nil=>intro _ _ z hz;cases hz
 | cons x xs ih=>
  intro b h z hz
  have h:(nmS x&&(decide (x∈ns.drop b)&&fH ns (xB ns x+1) (xs.map .str)))=true:=h
  simp only[UM,and_assoc] at h
  rcases UQ.mp hz with (rfl | hz)
  ·exact h.1
  ·exact ih h.2.2 z hz
theorem rdA {μ:Mu}{ns xs:List Str}(h:jC ns (.tup (xs.map .str))=true)(hl:xs.length<=8):Any μ (.tup (xs.map .str)):=by
 have h:(decide (xs.map D.str≠[])&&fH ns 0 (xs.map .str))=true:=h
 rw[UM] at h
 refine yU (λd hd=>?_) (by simp;omega)
 obtain ⟨z,hz,rfl⟩:=U3.mp hd
 exact kH (AG h.2 z hz)
theorem ST'.any {μ:Mu}{ns:List Str}{s:ST'}(h:s.Ok)(hb:b7 ns s.toD=true):Any μ s.toD:=by
 obtain ⟨h1,h2,_,_,_,h6⟩:=uc hb
 exact yU (av (kH h1) (av (rdA h2 h.rl) (av (nuA h.b) (av (nuA h.g) (av (Rj h.m) (av (ruA h6 h.p h.pl) bo))))))
theorem Q9 {μ:Mu}{ws:List WT}(h:∀ w∈ws,w.Ok/\dW w.toD=true)(hl:ws.length<=8):Any μ (.tup (ws.map WT.toD)):=yU (λd hd=>by obtain ⟨w,hw,rfl⟩:=U3.mp hd;exact WT.any (h w hw).1 (h w hw).2) (by simp;omega)
theorem Rx {μ:Mu}{ns:List Str}{ss:List ST'}(h:∀ s∈ss,s.Ok/\b7 ns s.toD=true)(hl:ss.length<=8):Any μ (.tup (ss.map ST'.toD)):=yU (λd hd=>by obtain ⟨w,hw,rfl⟩:=U3.mp hd;exact ST'.any (h w hw).1 (h w hw).2) (by simp;omega)
theorem PT.Good.wA {μ:Mu}{p:PT}(h:p.Good):Any μ (.tup (p.ws.map WT.toD)):=Q9 (λw hw=>⟨h.ok.w w hw,h.w w hw⟩) h.ok.wl
theorem PT.Good.sA {μ:Mu}{p:PT}(h:p.Good):Any μ (.tup (p.ss.map ST'.toD)):=Rx (λw hw=>⟨h.ok.s w hw,h.s w hw⟩) h.ok.sl
theorem PT.Good.any {μ:Mu}{p:PT}(h:p.Good):Any μ p.toD:=yU (av (nuA h.ok.g) (av h.wA (av h.sA bo)))
section
open PySem PySem.Spec PyProof PyProof.Rows L2
section
variable {prog:UT} {w:Va} {A:U9} {E:UC->UE->Prop} {s:UE}
end
section
variable {X:Cx} {e:U5} {x y:Str} {p p' pos cpos:Pos}
end
end
section
open PySem PySem.Spec PyProof PyProof.Rows L2
theorem Gb {prog:UT}{w:Va}{A:U9}{E:UC->UE->Prop}{s:UE}{x y:Str}{t t2:Tok}{Q:UC->UE->Prop}(hy:(y.length == 0)=false)(hx:x.length<=1000000)
  (hq:∀ (l:List (Str×Tok)) (tk:Nat),l.map (·.1)=Txt.split x y->Q (.ref s.heap.objs.size) { s with heap:=s.heap.push { cls:=.type "list", data:=.seq (zbn l).toArray },toks:=tk }) :
  UU (U1 prog w) A (call (.builtin "str.split") [.str x t,.str y t2]) Q E s:=by
 have zx:x.length<=sizeLine:=by rw[Xk];omega
 have by':=λ{S:PySem.Spec} (m:Meets (W0.«str.split» ⟨[.str x t,.str y t2],[]⟩) S) (z:S A (wants Q E) s)=>Zz (prog:=prog) (w:=w) (A:=A) (Q:=Q) (E:=E) F.slot_str_split (zaJ _ _ _) F.entry_str_split (F.args_str_split_2 _ _) m z
 cases c1:(decide (x.length < y.length) || decide (zap x < zap y)) with
 | true=>exact by' (meets_str_split_cannot_occur x y t t2 c1) (hq [(x,t)] s.toks (if_pos c1).symm)
 | false=>
  cases c2:(V2 x y 0 x.length (x.length+1)).isEmpty with
  | true=>exact by' (meets_str_split_not_found x y t t2 c1 hy c2) (hq [(x,t)] s.toks ((if_neg (ne_true_of_eq_false c1)).trans (if_pos c2)).symm)
  | false=>
   have e:Txt.split x y=Zd x (V2 x y 0 x.length (x.length+1)) y.length:=(if_neg (ne_true_of_eq_false c1)).trans (if_neg (ne_true_of_eq_false c2))
   have few:=split_le x y
   rw[e] at few
   refine by' (meets_str_split_sep x y t t2 c1 hy c2 zx (by rw[Xk];omega)) ?_
   have k:=hq (numbered s.toks _) (s.toks+(Zd x (V2 x y 0 x.length (x.length+1)) y.length).length) ((numbered_texts _ _).trans e.symm)
   rw[← strsFrom_eq] at k
   exact k
section
variable {X:Cx} {o i:U5} {apos cpos:Pos}
theorem A4:∀ (l:List (Str×Tok)),Vals ((l.map (·.1)).map V.str) (zbn l)
 | []=>.nil
 | (z,t)::l=>.cons ⟨t,rfl⟩ (A4 l)
theorem Hu:MtM X "str.split" (λx vs H Q=>∃ z y,x=.str z/\vs=[.str y]/\((y.length == 0)=false/\z.length<=1000000)/\∀ q,H q=none->Q (.ref q) (upd H q (.lst ((Txt.split z y).map V.str)))):=by
 intro pins s σ H x vs v us Q I rx rv h
 obtain ⟨z,y,rfl,rfl,⟨hy,hz⟩,q⟩:=h
 obtain ⟨t,rfl⟩:=rx
 obtain ⟨u,rfl,t2,rfl⟩:=rv.one
 refine Gb hy hz λl tk el=>?_
 have few:=split_le z y
 refine ⟨.ref _,_,I.laid (t':=tk) (o:=.lst ((Txt.split z y).map V.str)) (λb o e=>UD _ e) (U0 _) ⟨by rw[UJ,Xk];omega,zbn l,0,by rw[← el];exact A4 l,UP _ rfl⟩,rfl,q _ (I.hok.fresh (U0 _))⟩
def md (To Ti:ETr):ETr:=λρ μ Q=>To ρ μ λx μ1=>match x with
 | .str z=>Ti ρ μ1 λy μ2=>match y with
  | .str s=>((s.length == 0)=false/\z.length<=1000000)/\Q (.ls ((Txt.split z s).map .str)) μ2
  | _=>False
 | _=>False
theorem nv {To Ti:ETr}(ho:LE X o To)(hi:LE X i Ti)
  (hbase:WX o "split" X.env (VI o X.env)=VI o X.env:=by rfl)
  (hfew:((Vr cpos (UI [i] X.env)).all (λx=>!x.1)&&(YN cpos (Xl [] X.env)).all (λx=>x.1.isSome)
   && decide (([i]:List U5).length+([]:List WZ).length+(if ([]:List WZ).isEmpty then 0 else 1) < 30))=true:=by rfl)
  (hline:(apos.endLine == cpos.line)=true:=by rfl) (hs:UI [i] X.env=(false,VI i X.env)::UI [] X.env:=by rfl) (hplain:(Vr cpos (UI [] X.env)).any (·.1)=false:=by rfl) :
  LE X (.Call (.Attribute o "split" apos) [i] [] cpos) (md To Ti):=by
 obtain ⟨to,po,so⟩:=ho.ex
 obtain ⟨ti,pi,si⟩:=hi.ex
 refine ⟨_,mf (DQ PySem.F.slot_str_split PySem.F.type_str_split Hu po (cG pi gf hs) hbase hfew hline hs hplain),λσ H ρ μ Q Q' rl h k=>so σ H ρ μ _ _ rl h λx H1 dx μ1 t1 m1 p1 h1=>?_⟩
 cases p1 with
 | str z=>
  refine ⟨⟨z,rfl⟩,si σ H1 ρ μ1 _ _ (rl.go t1 m1) h1 λy H2 dy μ2 t2 m2 p2 h2=>?_⟩
  cases p2 with
  | str s=>exact ⟨z,s,rfl,rfl,h2.1,λq hq=>mx m2 (DpL.strs _) h2.2 (k.go (t1.trans t2)) hq⟩
  | _=>exact UG h2
 | _=>exact UG h1
theorem df:cj X (.type "int") (λxs H Q=>∃ z n,xs=[.str z]/\(W6 z=some n/\z.length<=640)/\Q (.int n) H):=λpins s σ H xs us Q I rx ⟨z,n,e,⟨h1,h2⟩,q⟩=>by
 subst e
 obtain ⟨u,rfl,t,rfl⟩:=vals1 rx
 exact PySem.W.KIN.call_text h1 h2 ⟨.int n,H,I.tok _,⟨_,rfl⟩,q⟩
def jy:FSp:=λds μ Q=>match ds with
 | [.str z]=>∃ n:Int,(W6 z=some n/\z.length<=640)/\Q (.int n) μ
 | _=>False
theorem ef {K:UB}:uV K (λxs H Q=>∃ z n,xs=[.str z]/\(W6 z=some n/\z.length<=640)/\Q (.int n) H) jy:=λH μ xs ds Q Q' m p h k=>by
 unfold jy at h
 split at h
 ·obtain ⟨n,h1,h2⟩:=h
  cases p with | cons p1 p2=>
  cases p2
  cases p1 with
  | str=>exact ⟨_,n,rfl,h1,k _ H _ μ (.refl H) m (.int _) h2⟩
 ·exact h.elim
def sI:STr:=λ_ _ _=>False
theorem mN {s:Stmt}:LS X s sI:=⟨λ_ _ _=>False,λpins s0 σ H Q I h=>h.elim,λσ H ρ μ E E' rl h k=>h.elim⟩
end
def ML (x:D)(f:Str->Prop):Prop:=match x with
 | .str z=>f z
 | _=>False
theorem PR (z:Str)(f:Str->Prop):ML (.str z) f=f z:=propext UH
theorem IZ (a i:ETr)(ρ:ST)(μ:Mu)(Q:DK):md a i ρ μ Q=a ρ μ λx μ1=>ML x λz=>i ρ μ1 λy μ2=>ML y λs=>((s.length == 0)=false/\z.length<=1000000)/\Q (.ls ((Txt.split z s).map .str)) μ2:=by
 unfold md ML;rfl
end
section
open PySem PySem.NumText
theorem LM {c:Nat}:∀ {a b x y:List Nat},c ∉ a->c ∉ b->a++c::x=b++c::y->a=b/\x=y:=by
 intro a
 induction a with
 | nil=>
  intro b x y _ hb e
  cases b with
  | nil=>exact ⟨rfl,by simpa using e⟩
  | cons z b=>simp only[WN,WD,Xc] at e;exact absurd (e.1 ▸ UK) hb
 | cons w a ih=>
  intro b x y ha hb e
  cases b with
  | nil=>simp only[WN,WD,Xc] at e;exact absurd (e.1 ▸ UK) ha
  | cons z b=>
   simp only[WD,Xc] at e
   obtain ⟨h1,h2⟩:=ih (λh=>ha (UN _ h)) (λh=>hb (UN _ h)) e.2
   exact ⟨by rw[e.1,h1],h2⟩
theorem xV (c:Nat)(x y:Str)(r:List Str):(Vk ⟨#[c]⟩ (x::y::r)).cps.toList=x.cps.toList++c::(Vk ⟨#[c]⟩ (y::r)).cps.toList:=by
 show (x ++ ⟨#[c]⟩ ++ Vk ⟨#[c]⟩ (y::r)).cps.toList=_
 rw[app_list,app_list]
 simp
theorem Bp {c:Nat}(x y:Str)(r:List Str):c∈(Vk ⟨#[c]⟩ (x::y::r)).cps.toList:=by rw[xV];simp
theorem Fm {c:Nat}:∀ (ys zs:List Str),ys≠[]->zs≠[]->(∀ y∈ys,c ∉ y.cps.toList)->(∀ z∈zs,c ∉ z.cps.toList)->(Vk ⟨#[c]⟩ ys).cps.toList=(Vk ⟨#[c]⟩ zs).cps.toList->ys=zs:=by
 intro ys
 induction ys with
 | nil=>intro zs h;exact absurd rfl h
 | cons y ys ih=>
  intro zs _ hz fy fz e
  cases zs with
  | nil=>exact absurd rfl hz
  | cons z zs=>
   have cy:=fy y UK
   have cz:=fz z UK
   cases ys with
   | nil=>
    cases zs with
    | nil=>exact congrArg (·::[]) (kc e)
    | cons z2 zs=>
     have:c∈y.cps.toList:=by
      rw[show y.cps.toList=(Vk ⟨#[c]⟩ [y]).cps.toList from rfl,e];exact Bp ..
     exact absurd this cy
   | cons y2 ys=>
    cases zs with
    | nil=>
     have:c∈z.cps.toList:=by
      rw[show z.cps.toList=(Vk ⟨#[c]⟩ [z]).cps.toList from rfl,← e];exact Bp ..
     exact absurd this cz
    | cons z2 zs=>
     rw[xV,xV] at e
     obtain ⟨h1,h2⟩:=LM cy cz e
     rw[kc h1,ih (z2::zs) (by simp) (by simp) (λy h=>fy y (UN _ h)) (λz h=>fz z (UN _ h)) h2]
theorem iF {c:Nat}{zs:List Str}(h0:zs≠[])(hz:∀ z∈zs,c ∉ z.cps.toList):Txt.split (Vk ⟨#[c]⟩ zs) ⟨#[c]⟩=zs:=by
 refine Fm _ _ ?_ h0 (StrLaws.split_free _ c) hz (by rw[StrLaws.join_split])
 intro e
 have:=zci (Vk ⟨#[c]⟩ zs) ⟨#[c]⟩
 rw[e] at this
 simp at this
theorem uf {i:Int}(h:0<=i):(itS i).cps.toList=(zcj 10 i.toNat).map Char.toNat:=by
 obtain ⟨m,rfl⟩:=Wl h
 rw[Vn]
 exact PySem.W.KIN.signs_num m
theorem l7 {i:Int}(h:0<=i):AllDigits (itS i).cps.toList:=by
 intro c hc
 rw[uf h] at hc
 obtain ⟨g0,hg0,e⟩:=U3.mp hc
 rw[← e]
 exact zb8 (Nat.isDigit_of_mem_toDigits (by decide) (by decide) hg0)
theorem Aw {i:Int}(h0:0<=i)(h1:i < 1000000000):W6 (itS i)=some i:=PySem.W.KIN.num_reads h0 (by omega)
theorem kP {i:Int}(h0:0<=i)(h1:i < 1000000000):(itS i).length<=9:=X1 h0 (by decide) (by simpa using h1)
theorem NB {i:Int}(h:0<=i):(itS i).cps.toList≠[]:=by
 rw[uf h]
 intro e
 have h0:=toDigits_len_ge 10 i.toNat
 rw[List.map_eq_nil_iff.mp e] at h0
 simp at h0
theorem HM {i:Int}(h:0<=i):itS i=OF "0" ∨ ∃ c r,(itS i).cps.toList=c::r/\c≠48:=by
 have ne:=NB h
 have ad:=l7 h
 have e0:=uf h
 have vb:=PySem.W.KIN.val_back i.toNat
 rw[← e0] at vb
 have ta:=toDigits_all _ ad
 rw[vb] at ta
 cases e:(itS i).cps.toList with
 | nil=>exact absurd e ne
 | cons c r=>
  by_cases hc:c=48
  ·left
   subst hc
   rw[e] at ta e0
   have l0:(zcj 10 i.toNat).length=r.length+1:=by
    have:=congrArg VQ e0
    simp only[UX,UJ] at this
    omega
   rw[ta] at l0
   have dr:((48::r).dropWhile (· == 48))=r.dropWhile (· == 48):=by rw[List.dropWhile_cons];rfl
   rw[dr] at l0
   have dl:(r.dropWhile (· == 48)).length<=r.length:=(List.dropWhile_sublist _).length_le
   cases q:r.dropWhile (· == 48) with
   | nil=>
    rw[q] at l0
    have l0:1=r.length+1:=l0
    have:r=[]:=Wm.mp (by omega)
    subst this
    refine kc ?_
    rw[e];decide +kernel
   | cons a s=>
    rw[q] at l0 dl
    have l0:((a::s).map Char.ofNat).length=r.length+1:=l0
    rw[UJ] at l0
    omega
  ·exact .inr ⟨c,r,rfl,hc⟩
def dg (c:Nat):Bool:=decide (48<=c)&&decide (c<=57)
def oq (z:Str):Bool:=((decide (1<=z.length)&&decide (z.length<=9))&&z.cps.toList.all dg)&&(decide (z=OF "0") || !decide (z.cps.toList.head? = some 48))
theorem fM {i:Int}(h0:0<=i)(h1:i < 1000000000):oq (itS i)=true:=by
 have l9:=kP h0 h1
 have l1:1<=(itS i).length:=by
  have:=zao.mpr (NB h0)
  rw[gU] at this
  exact this
 have al:(itS i).cps.toList.all dg=true:=Vv.mpr λc hc=>by
  have:=l7 h0 c hc
  unfold dg
  rw[decide_eq_true this.1,decide_eq_true this.2];rfl
 unfold oq
 rw[decide_eq_true l1,decide_eq_true l9,al]
 rcases HM h0 with e | ⟨c,r,e,hc⟩
 ·rw[e];decide +kernel
 ·rw[e]
  simp[hc]
theorem MR {z:Str}{c:Nat}(h:c∈z.cps.toList)(hc:dg c=false):oq z=false:=by
 have:z.cps.toList.all dg=false:=by
  rw[← Bool.not_eq_true,Vv]
  intro q;rw[q c h] at hc;cases hc
 unfold oq
 rw[this,WJ,U6]
theorem xm {i:Int}(h:0<=i){c:Nat}(hc:dg c=false):c ∉ (itS i).cps.toList:=λq=>by
 have:=l7 h c q
 unfold dg at hc
 rw[decide_eq_true this.1,decide_eq_true this.2] at hc
 cases hc
end
theorem RL (i:Int)(f:Int->Prop):kIn (.int i) f=(i.natAbs.log2 < 1920/\f i):=propext UH
theorem Pw (a:ETr)(ρ:ST)(μ:Mu)(Q:DK):Qx a ρ μ Q=a ρ μ λx μ1=>kIn x λi=>Q (.str (itS i)) μ1:=propext UH
theorem OC (a m b:ETr)(ρ:ST)(μ:Mu)(Q:DK):Pc a m b ρ μ Q=a ρ μ λx μ1=>kIn x λi=>m ρ μ1 λy μ2=>kTx y λz=>z.length<=1000/\b ρ μ2 λw μ3=>kIn w λj=>Q (.str (XC++itS i++z++itS j)) μ3:=propext UH
theorem Lv (z:Str)(μ:Mu)(Q:DK):gZ fu [.str z] μ Q=Q (.str z) μ:=propext UH
theorem LH (i:Int)(μ:Mu)(Q:DK):gZ fu [.int i] μ Q=(i.natAbs.log2 < 1920/\Q (.str (itS i)) μ):=propext UH
theorem Lw (a b:ETr)(ρ:ST)(μ:Mu)(Q:DK):Et a b ρ μ Q=a ρ μ λx μ1=>kObj x λa=>kL μ1 a λ_=>b ρ μ1 λy μ2=>Ji μ2 y λes=>kL μ2 a λds=>ds.length+es.length<=1000000/\Q .non (up μ2 a (.lst (ds++es))):=propext UH
theorem Ob (μ:Mu)(ds:List D)(f:List D->Prop):Ji μ (.ls ds) f=f ds:=propext UH
theorem Uv (p:PT)(μ:Mu)(Q:DK):L3.rIx p.toD (.int 0) μ Q=Q (.int p.g) μ:=propext UH
theorem Up (p:PT)(μ:Mu)(Q:DK):L3.rIx p.toD (.int 1) μ Q=Q (.tup (p.ws.map WT.toD)) μ:=propext UH
theorem T6 (p:PT)(μ:Mu)(Q:DK):L3.rIx p.toD (.int 2) μ Q=Q (.tup (p.ss.map ST'.toD)) μ:=propext UH
theorem K8 (z:Str)(μ:Mu)(Q:DK):gZ jy [.str z] μ Q = ∃ n:Int,(W6 z=some n/\z.length<=640)/\Q (.int n) μ:=propext UH
local macro_rules | `(tactic| walk_at "go")=>zzS "↓L3.QV L3.M1 ↓L3.JH ↓L3.Jq ↓L3.JZ ↓L3.G8 ↓L3.Hg ↓L3.JY ↓L3.qD ↓L3.ma L3.dF L3.cM L3.dN L3.du L3.dH L3.dO L3.eL L3.eJ L3.cR L3.dM L3.dA L3.dJ L3.dE L3.d8 L3.dI L3.dX L3.dB L3.eN L3.dG L3.dZ L3.mR L3.ml List.map_cons List.map_nil List.replicate List.cons_append List.nil_append L3.lk L3.Mq L3.Md L3.L4 L3.L8 L3.K4 L3.KU L3.qT L3.mY L3.ub L3.nR L3.ES L3.zp L3.qH L3.j7 L3.yk L3.wV L3.yn L3.qW L3.qK L3.qL L3.qI true_and and_true and_self Bool.not_true Bool.not_false decide_true decide_false Bool.or_true Bool.or_false Bool.true_or Bool.false_or Bool.and_false Bool.false_and Bool.and_true Bool.true_and Int.reduceToNat Int.reducePow Int.reduceNeg Int.reduceSub Int.reduceAdd Int.reduceMul Int.reduceEq Int.reduceLT Int.reduceLE Int.reduceBEq L3.lF L3.i8 L3.ja L3.jg L3.iE L3.iK L3.iY L3.jc if_true if_false Bool.false_eq_true reduceCtorEq decide_eq_true_eq"
abbrev ks (s:String):L2.Key:=.inr (OF s)
def jM (cs:List Int)(a l g m s:Int):List (L2.Key×D):=[(ks "cells", .ls (cs.map .int)),(ks "at", .int a),(ks "left", .int l),(ks "given", .int g),(ks "many", .int m),(ks "seed", .int s)]
section
variable (cs:List Int) (a l g m s x:Int)
theorem F0:wO (jM cs a l g m s) (.inr (OF "cells"))=some (.ls (cs.map .int)):=rfl
theorem OE:wO (jM cs a l g m s) (.inr (OF "at"))=some (.int a):=rfl
theorem Jy:wO (jM cs a l g m s) (.inr (OF "left"))=some (.int l):=rfl
theorem Gk:wO (jM cs a l g m s) (.inr (OF "given"))=some (.int g):=rfl
theorem Jl:wO (jM cs a l g m s) (.inr (OF "many"))=some (.int m):=rfl
theorem J2:wO (jM cs a l g m s) (.inr (OF "seed"))=some (.int s):=rfl
theorem QN:putD (jM cs a l g m s) (.inr (OF "at")) (.int x)=jM cs x l g m s:=rfl
theorem Jg:putD (jM cs a l g m s) (.inr (OF "left")) (.int x)=jM cs a x g m s:=rfl
theorem Gq:putD (jM cs a l g m s) (.inr (OF "given")) (.int x)=jM cs a l x m s:=rfl
theorem II:putD (jM cs a l g m s) (.inr (OF "many")) (.int x)=jM cs a l g x s:=rfl
theorem Iq:putD (jM cs a l g m s) (.inr (OF "seed")) (.int x)=jM cs a l g m x:=rfl
theorem MC:(jM cs a l g m s).length < 1000000:=by show 6 < 1000000;decide
end
local macro_rules | `(tactic| walk_at "pot")=>zzS "L3.F0 L3.OE L3.Jy L3.Gk L3.Jl L3.J2 L3.QN L3.Jg L3.Gq L3.II L3.Iq L3.MC true_and L3.qP"
local macro_rules | `(tactic| walk_at "gp")=>`(tactic| (walk_at "go";walk_at "pot";walk_at "go";walk_at "pot";walk_at "go";walk_at "pot";walk_at "go";walk_at "pot";walk_at "go"))
def Pot (μ:Mu)(b:Addr):Prop:=∃ (cs:List Int) (a l g m s:Int),μ b=some (.dct (jM cs a l g m s))/\0<=a
structure pU (b:Addr) (μ μ':Mu):Prop where
 pot:Pot μ' b
 oth:∀ a,a≠b->μ' a=μ a
theorem pU.trans {b:Addr}{μ μ1 μ2:Mu}(x:pU b μ μ1)(y:pU b μ1 μ2):pU b μ μ2:=⟨y.pot,λa h=>(y.oth a h).trans (x.oth a h)⟩
theorem pU.ne {b p:Addr}{μ μ1:Mu}(x:pU b μ μ1)(h:p≠b):μ1 p=μ p:=x.oth p h
theorem Pot.ne {μ:Mu}{b p:Addr}(h:Pot μ b)(hp:μ p=none):p≠b:=λz=>by subst z;obtain ⟨_,_,_,_,_,_,e,_⟩:=h;rw[hp] at e;cases e
theorem Pot.up {μ:Mu}{b p:Addr}{o:MO}(h:Pot μ b)(hp:p≠b):Pot (up μ p o) b:=by
 obtain ⟨cs,a,l,g,m,s,e,h0⟩:=h
 exact ⟨cs,a,l,g,m,s,by rw[bQ (Vq hp)];exact e,h0⟩
def Kp (b:Addr)(μ μ':Mu):Prop:=∀ a o,a≠b->μ a=some o->μ' a=some o
theorem Kp.trans {b:Addr}{μ μ1 μ2:Mu}(x:Kp b μ μ1)(y:Kp b μ1 μ2):Kp b μ μ2:=λa o h e=>y a o h (x a o h e)
theorem pU.kp {b:Addr}{μ μ1:Mu}(x:pU b μ μ1):Kp b μ μ1:=λa o h e=>by rw[x.oth a h];exact e
theorem Kp.new {b p:Addr}{μ:Mu}{o:MO}(h:μ p=none):Kp b μ (up μ p o):=λa u _ e=>by rw[bQ (λz=>by subst z;rw[h] at e;cases e)];exact e
theorem Kp.dn {b p:Addr}{μ μ1:Mu}(x:Kp b μ μ1)(h:μ p=none):Kp b μ (dn μ1 p):=λa u n e=>by unfold L3.dn;rw[if_neg (λz=>by subst z;rw[h] at e;cases e)];exact x a u n e
section
variable {G:GTr} {tt:TTr} {te:ETr} {ρc:ST} {ds:List D} {μ:Mu} {Q:DK} {b:Addr}
end
structure Lt where
 nm:Str
 nu:Int
 ag:Int
 hp:Int
 mr:Int
def Lt.toD (x:Lt):D:=.tup [.str x.nm,.int x.nu,.int x.ag,.int x.hp,.int x.mr]
structure Lt.Ok (x:Lt):Prop where
 a0:0<=x.ag
 a1:x.ag < 30
 h0:0<=x.hp
 h1:x.hp < 6
 m0:0<=x.mr
 m1:x.mr<=1
structure Wy where
 nm:Str
 pc:Int
 rm:Int
 mr:Option Int
 tn:Bool
def Ts:Option Int->D
 | none=>.non
 | some i=>.int i
def R7 (b:Bool):Str:=if b then OF "turns" else OF "line"
def Wy.toD (x:Wy):D:=.tup [.str x.nm,.int x.pc,.int x.rm,Ts x.mr,.str (R7 x.tn)]
structure Wy.Ok (x:Wy):Prop where
 n:UL x.nm=true
 p0:1<=x.pc
 p1:x.pc<=20
 r0:1<=x.rm
 r1:x.rm<=60
 m:∀ i,x.mr=some i->0<=i/\i<=60
mutual
def pl:Nat->D->Bool
 | _,.non=>true
 | _,.int _=>true
 | _,.str x=>UL x
 | n+1,.tup ds=>decide (ds.length<=999999)&&pls n ds
 | n+1,.ls ds=>decide (ds.length<=999999)&&pls n ds
 | _,_=>false
def pls:Nat->List D->Bool
 | _,[]=>true
 | n,d::r=>pl n d&&pls n r
end
def j4 (n:Nat):FSp:=λds μ Q=>match ds with
 | [x,y]=>(x=y/\pl n y=true)/\Q (.bl true) μ
 | _=>False
def kM:Nat->FSp
 | 0=>λ_ _ _=>False
 | n+1=>j4 n
theorem C0:∀ n ds μ Q,kM n ds μ Q->ds.length=2:=by
 intro n ds μ Q h
 cases n with
 | zero=>exact h.elim
 | succ n=>
  have h:j4 n ds μ Q:=h
  unfold j4 at h
  split at h
  ·rfl
  ·exact h.elim
theorem EV {n:Nat}:∀ {ds:List D} {d:D},pls n ds=true->d∈ds->pl n d=true
 | x::r,d,h,hm=>by
  have h':pl n x=true/\pls n r=true:=by simpa[pls] using h
  rcases UQ.mp hm with rfl | hm
  ·exact h'.1
  ·exact EV h'.2 hm
theorem AZ:∀ (ds:List D),YC (λd e=>D.tup [d,e]) ds ds=ds.map λd=>.tup [d,d]
 | []=>rfl
 | d::r=>by simp[AZ r]
theorem Ew {n:Nat}{ds:List D}{μ:Mu}{Q:DK}(hl:ds.length<=999999)(hp:pls n ds=true)(fin:RT Q (.bl true) μ) :
  wU (jJ [0,1]) fe (ao (kM (n+1)) (af (ah 0) (af (ah 1) ar))) [none,none] (YC (λd e=>D.tup [d,e]) ds ds) μ λx μ1=>gZ yG [x] μ1 (RT Q):=by
 rw[AZ]
 refine comp_map (λ_=>.bl true) (by simpa using hl) (λd hd μ' _ N n=>?_) ?_
 ·obtain ⟨x,hx,rfl⟩:=U3.mp hd
  walk_at "go"
  exact ⟨⟨rfl,EV hp hx⟩,n⟩
 ·refine ⟨ds.map λ_=>true,by simp,?_⟩
  have:(ds.map λ_=>true).all id=true:=by simp
  rw[this]
  exact fin
abbrev Mr:FSp:=kM 6
theorem Cs {n:Nat}:∀ {ds:List D},(∀ d∈ds,pl n d=true)->pls n ds=true
 | [],_=>rfl
 | d::r,h=>by simp only[pls,UM];exact ⟨h d UK,Cs λx hx=>h x (UN _ hx)⟩
end L3
namespace Kk
local macro_rules | `(tactic| walk_at "ln")=>`(tactic| (intro ds μ Q h;split at h;rfl;exact h.elim))
open PySem L3
def TK:=Jn @Ob <| Jn @Up <| Jn @Pw <| Jn @RL <| Jn @Lv <| Jn @Lw <| Jn @LH <| Jn @Uv <| Jn @T6 <| Jn @OC <| Jn @PR <| Jn @K8 <| @QV
local macro_rules | `(tactic| walk_at "go")=>zzS "↓Kk.TK L3.M1 ↓L3.IZ ↓L3.EJ ↓L3.zW ↓L3.Jo ↓L3.Jw ↓L3.JH ↓L3.Jq ↓L3.JZ ↓L3.G8 ↓L3.Hg ↓L3.JY ↓L3.qD ↓L3.ma L3.dF L3.cM L3.dN L3.du L3.dH L3.dO L3.eL L3.eJ L3.cR L3.dM L3.dA L3.dJ L3.dE L3.d8 L3.dI L3.dX L3.dB L3.eN L3.dG L3.dZ L3.mR L3.AW L3.vT L3.Bo L3.tj L3.BN L3.wm L3.zN L3.rk L3.Bv L3.wM L3.AF L3.rU L3.Au L3.vP L3.zI L3.rG L3.BA L3.wD L3.z7 L3.sO L3.zS L3.wu L3.zF L3.rA L3.AV L3.wj L3.BK L3.sJ L3.ml List.map_cons List.map_nil List.replicate List.cons_append List.nil_append L3.lk L3.Mq L3.Md L3.L4 L3.L8 L3.K4 L3.KU L3.qT L3.mY L3.ub L3.nR L3.ES L3.zp L3.qH L3.j7 L3.yk L3.wV L3.yn L3.qW L3.qK L3.qL L3.qI true_and and_true and_self Bool.not_true Bool.not_false decide_true decide_false Bool.or_true Bool.or_false Bool.true_or Bool.false_or Bool.and_false Bool.false_and Bool.and_true Bool.true_and Int.reduceToNat Int.reducePow Int.reduceNeg Int.reduceSub Int.reduceAdd Int.reduceMul Int.reduceEq Int.reduceLT Int.reduceLE Int.reduceBEq L3.lF L3.i8 L3.ja L3.jg L3.iE L3.iK L3.iY L3.jc if_true if_false Bool.false_eq_true reduceCtorEq decide_eq_true_eq"
local macro_rules | `(tactic| walk_at "ok")=>`(tactic| (simp only[L3.jW,L3.MulOk,L3.S64,L3.bE,L3.sP] at *;omega))
local macro_rules | `(tactic| walk_at "ini")=>`(tactic| simp only[ini,List.map,List.length,List.replicate,Nat.reduceSub,Nat.reduceAdd,Nat.sub_self,List.cons_append,List.nil_append,List.append_nil])
theorem NP {z:Str}(h:z.cps.all (· < 128)=true):∀ c∈z.cps.toList,c < 128:=λc hc=>by
 have:=Vh.mp h c (WV.mp hc)
 simpa using this
theorem Qc:∀ c:Nat,c < 128->Cf (OF "0123456789") ⟨#[c]⟩=dg c:=by
 have:∀ c:Fin 128,Cf (OF "0123456789") ⟨#[c.val]⟩=dg c.val:=by decide +kernel
 exact λc h=>this ⟨c,h⟩
def TF:D->D
 | .str ⟨a⟩=>.bl (dg (a.getD 0 0))
 | d=>d
theorem OT {c e:Nat}:((⟨#[c]⟩:Str)=⟨#[e]⟩)↔c=e:=⟨λh=>by injection h with h;simpa using h,λh=>by rw[h]⟩
theorem LL:OF "0" = ⟨#[48]⟩:=by decide +kernel
def bz:FSp:=λds μ Q=>kcS ds λz ds=>kcN ds ((z.cps.all (· < 128)=true/\z.length<=1000)/\Q (.bl (oq z)) μ)
theorem uu:∀ ds μ Q,bz ds μ Q->ds.length=1:=λ_ _ _ h=>lcS h λ_ _ h=>by rw[(ecN h).1];rfl
def o4:STr:=aD (bp (TOr (bL (TB (gu rLe rLe (TC (.int 1)) (ao cI (af (ah 0) (ar))) (TC (.int 9))))) (bL (TB (ao yG (af (cp (Ib (ah 0)) (ax 0) (fe) (aq Km (ah 0) (TC (.str "0123456789"))) 1 []) (ar)))))) (aK (TC (.bl false))) (aU)) (aK (Am (aq rEq (ah 0) (TC (.str "0"))) (aq rNe (aq rR (ah 0) (TC (.int 0))) (TC (.str "0")))))
theorem wZ:∀ ds μ Q,bz ds μ Q->o4 { nx:=λ_ μ'=>RT Q .non μ',rt:=RT Q } (ini 1 ds) μ:=by
 intro ds μ Q h
 replace h:=ecS h
 obtain ⟨z,ds,rfl,h⟩:=h
 replace h:=ecN h
 obtain ⟨rfl,h⟩:=h
 walk_at "ini"
 unfold o4
 walk_at "go"
 obtain ⟨⟨hz,hl⟩,k⟩:=h
 have fin:∀ {b},oq z=b->RT Q (.bl b) μ:=λ{b} e=>by rw[e] at k;exact ⟨_,.refl _,k⟩
 walk_at "go"
 refine ⟨by omega,?_⟩
 walk_at "go"
 have e1:((1:Int)<=(z.length:Nat))↔1<=z.length:=by omega
 have e2:(((z.length:Nat):Int)<=9)↔z.length<=9:=by omega
 refine kif (λh1=>?_) λh1=>fin (by unfold oq;rw[decide_eq_false (λq=>h1 (e1.mpr q))];rfl)
 refine yh (λh2=>fin (by unfold oq;rw[decide_eq_false (λq=>h2 (e2.mpr q)),WJ];rfl)) λh2=>?_
 refine ⟨hz,?_⟩
 refine comp_map TF (by rw[qS];have:z.cps.size=z.length:=rfl;omega) (λd hd μ' _ N n=>?_) ?_
 ·unfold uE at hd
  obtain ⟨c,hc,rfl⟩:=U3.mp hd
  walk_at "go"
  rw[Qc c (NP hz c hc)]
  exact n
 walk_at "go"
 refine ⟨z.cps.toList.map dg,?_,?_⟩
 ·unfold uE
  rw[Vg,Vg];rfl
 walk_at "go"
 have ea:(z.cps.toList.map dg).all id=z.cps.toList.all dg:=by rw[Xp];rfl
 rw[ea]
 refine gw (λh3=>?_) λh3=>fin (by unfold oq;rw[h3,WJ];rfl)
 have eb:oq z=(decide (z=OF "0") || !decide (z.cps.toList.head? = some 48)):=by unfold oq;rw[decide_eq_true (e1.mp h1),decide_eq_true (e2.mp h2),h3];rfl
 have okz:=nX hz
 have ok0:UL (OF "0")=true:=by decide +kernel
 refine ⟨⟨okz,ok0⟩,?_⟩
 refine kif (λh4=>fin (by rw[eb,decide_eq_true h4];rfl)) λh4=>?_
 cases ec:z.cps.toList with
 | nil=>rw[← gU,ec] at h1;simp at h1
 | cons c r=>
  have c1:c < 128:=NP hz c (by rw[ec];exact UK)
  refine ⟨by omega,EN (c:=c) (by unfold L2.atI L2.ixN;simp) ?_⟩
  walk_at "go"
  have okc:UL ⟨#[c]⟩=true:=nX (by simp[c1])
  refine ⟨⟨okc,ok0⟩,fin ?_⟩
  rw[eb,decide_eq_false h4,ec,zaD,LL]
  congr 1
  exact decide_eq_decide.mpr (by simp[OT])
def dash:Str:=OF "-"
def bM:FSp:=λds μ Q=>kcS ds λz ds=>kcN ds ((z.cps.all (· < 128)=true/\z.length<=1000)/\Q (.bl (decide (z=dash) || oq z)) μ)
theorem jH:∀ ds μ Q,bM ds μ Q->ds.length=1:=λ_ _ _ h=>lcS h λ_ _ h=>by rw[(ecN h).1];rfl
def fE:STr:=aK (Am (aq rEq (ah 0) (TC (.str "-"))) (ao bz (af (ah 0) (ar))))
theorem kC:∀ ds μ Q,bM ds μ Q->fE { nx:=λ_ μ'=>RT Q .non μ',rt:=RT Q } (ini 1 ds) μ:=by
 intro ds μ Q h
 replace h:=ecS h
 obtain ⟨z,ds,rfl,h⟩:=h
 replace h:=ecN h
 obtain ⟨rfl,h⟩:=h
 walk_at "ini"
 unfold fE
 walk_at "go"
 obtain ⟨⟨hz,hl⟩,k⟩:=h
 have okd:UL (OF "-")=true:=by decide +kernel
 refine ⟨⟨nX hz,okd⟩,?_⟩
 refine kif (λh=>?_) λh=>?_
 ·rw[show decide (z=dash)=true from decide_eq_true h,zcg] at k;exact ⟨_,.refl _,k⟩
 ·rw[show decide (z=dash)=false from decide_eq_false h,zaD] at k;exact ⟨⟨hz,hl⟩,_,.refl _,k⟩
structure N9 (i:Int):Prop where
 l:0<=i
 u:i < 1000000000
def O9 (o:Option Int):Prop:=∀ i,o=some i->N9 i
def oS (o:Option Int):Str:=shw (oD o)
theorem JR {i:Int}(h:0<=i):(itS i).cps.all (· < 128)=true:=by
 rw[Vh]
 intro c hc
 have:=l7 h c (WV.mpr hc)
 exact decide_eq_true (show _ by omega)
theorem C7 {o:Option Int}(h:O9 o):(oS o).cps.all (· < 128)=true/\(oS o).length<=9:=by
 cases o with
 | none=>exact ⟨by decide +kernel,by decide +kernel⟩
 | some i=>exact ⟨JR (h i rfl).l,kP (h i rfl).l (h i rfl).u⟩
theorem KR {i:Int}(h:0<=i):itS i≠dash:=λe=>by
 have:45∈(itS i).cps.toList:=by rw[e];decide +kernel
 exact xm h (by decide) this
def b9:FSp:=λds μ Q=>kcS ds λz ds=>kcN ds (∃ o:Option Int,(z=oS o/\O9 o)/\Q (oD o) μ)
theorem l4:∀ ds μ Q,b9 ds μ Q->ds.length=1:=λ_ _ _ h=>lcS h λ_ _ h=>by rw[(ecN h).1];rfl
def iq:STr:=aK (oo (TB (aq rEq (ah 0) (TC (.str "-")))) (TC .non) (ao jy (af (ah 0) (ar))))
theorem mG:∀ ds μ Q,b9 ds μ Q->iq { nx:=λ_ μ'=>RT Q .non μ',rt:=RT Q } (ini 1 ds) μ:=by
 intro ds μ Q h
 replace h:=ecS h
 obtain ⟨z,ds,rfl,h⟩:=h
 replace h:=ecN h
 obtain ⟨rfl,h⟩:=h
 walk_at "ini"
 unfold iq
 walk_at "go"
 obtain ⟨o,⟨rfl,h9⟩,k⟩:=h
 have okd:UL (OF "-")=true:=by decide +kernel
 refine ⟨⟨nX (C7 h9).1,okd⟩,?_⟩
 cases o with
 | none=>exact NK rfl ⟨_,.refl _,k⟩
 | some i=>
  have n9:=h9 i rfl
  refine Bf (KR n9.l) ?_
  exact ⟨i,⟨Aw n9.l n9.u,by have:=kP n9.l n9.u;show (itS i).length<=640;omega⟩,_,.refl _,k⟩
theorem lK {i:Int}(h:N9 i):((itS i).cps.all (· < 128)=true/\(itS i).length<=1000)/\W6 (itS i)=some i/\(itS i).length<=640:=by
 have:=kP h.l h.u
 exact ⟨⟨JR h.l,by omega⟩,Aw h.l h.u,by omega⟩
def cP:FSp:=λds μ Q=>kcS ds λz ds=>kcN ds (∃ i:Int,(z=itS i/\N9 i)/\Q (.int i) μ)
theorem ql:∀ ds μ Q,cP ds μ Q->ds.length=1:=λ_ _ _ h=>lcS h λ_ _ h=>by rw[(ecN h).1];rfl
def lX:STr:=aK (oo (TB (ao bz (af (ah 0) (ar)))) (ao jy (af (ah 0) (ar))) (TC .non))
theorem ua:∀ ds μ Q,cP ds μ Q->lX { nx:=λ_ μ'=>RT Q .non μ',rt:=RT Q } (ini 1 ds) μ:=by
 intro ds μ Q h
 replace h:=ecS h
 obtain ⟨z,ds,rfl,h⟩:=h
 replace h:=ecN h
 obtain ⟨rfl,h⟩:=h
 walk_at "ini"
 unfold lX
 walk_at "go"
 obtain ⟨i,⟨rfl,h9⟩,k⟩:=h
 refine ⟨(lK h9).1,?_⟩
 rw[fM h9.l h9.u]
 walk_at "go"
 exact ⟨i,(lK h9).2,_,.refl _,k⟩
structure F9 (a b:Int):Prop where
 na:N9 a
 nb:N9 b
 b1:1<=b
 g:Vx a b=1
theorem tH:OF "/" = ⟨#[47]⟩:=by decide +kernel
theorem N9.m {i:Int}(h:N9 i):bE i:=by have:=h.l;have:=h.u;unfold bE;omega
def cX:FSp:=λds μ Q=>kcS ds λz ds=>kcN ds (∃ a b:Int,(z=shw (fr a b)/\F9 a b)/\Q (fr a b) μ)
theorem mq:∀ ds μ Q,cX ds μ Q->ds.length=1:=λ_ _ _ h=>lcS h λ_ _ h=>by rw[(ecN h).1];rfl
def jB:STr:=aD (bp (TB (ao bz (af (ah 0) (ar)))) (aK (bw (af (ao jy (af (ah 0) (ar))) (af (TC (.int 1)) (ar))))) (aU)) (aD (aZ (md (ah 0) (TC (.str "/"))) (ax 1)) (aD (bp (TOr (TB (aq rNe (ao cI (af (ah 1) (ar))) (TC (.int 2)))) (TOr (bL (TB (ao bz (af (aq L3.rIx (ah 1) (TC (.int 0))) (ar))))) (bL (TB (ao bz (af (aq L3.rIx (ah 1) (TC (.int 1))) (ar))))))) (aK (TC .non)) (aU)) (aD (aZ (bw (af (ao jy (af (aq L3.rIx (ah 1) (TC (.int 0))) (ar))) (af (ao jy (af (aq L3.rIx (ah 1) (TC (.int 1))) (ar))) (ar)))) (ax 2)) (aK (oo (xw (TB (ao L3.cn (af (ah 2) (ar)))) (TB (aq rNe (aq L3.rIx (ah 2) (TC (.int 1))) (TC (.int 1))))) (ah 2) (TC .non))))))
theorem oH:∀ ds μ Q,cX ds μ Q->jB { nx:=λ_ μ'=>RT Q .non μ',rt:=RT Q } (ini 3 ds) μ:=by
 intro ds μ Q h
 replace h:=ecS h
 obtain ⟨z,ds,rfl,h⟩:=h
 replace h:=ecN h
 obtain ⟨rfl,h⟩:=h
 walk_at "ini"
 unfold jB
 walk_at "go"
 obtain ⟨a,b,⟨rfl,F⟩,k⟩:=h
 have la:=kP F.na.l F.na.u
 have lb:=kP F.nb.l F.nb.u
 have e0:shw (fr a b)=if b=1 then itS a else itS a++OF "/" ++ itS b:=rfl
 by_cases hb:b=1
 ·subst hb
  rw[e0,if_pos rfl]
  refine ⟨(lK F.na).1,?_⟩
  rw[fM F.na.l F.na.u]
  walk_at "go"
  exact ⟨a,(lK F.na).2,_,.refl _,k⟩
 ·rw[e0,if_neg hb]
  have ez:(itS a++OF "/" ++ itS b).cps.toList=(itS a).cps.toList++47::(itS b).cps.toList:=by
   rw[app_list,app_list,tH];simp
  have lz:(itS a++OF "/" ++ itS b).length<=19:=by rw[xH,xH,nV];omega
  have az:(itS a++OF "/" ++ itS b).cps.all (· < 128)=true:=by
   rw[Vh]
   intro c hc
   have hc:c∈(itS a++OF "/" ++ itS b).cps.toList:=WV.mpr hc
   rw[ez] at hc
   refine decide_eq_true ?_
   rcases Vo.mp hc with h | h
   ·have:=l7 F.na.l c h;omega
   ·rcases UQ.mp h with h | h
    ·omega
    ·have:=l7 F.nb.l c h;omega
  have jz:itS a++OF "/" ++ itS b=Vk ⟨#[47]⟩ [itS a,itS b]:=by
   show _=itS a ++ ⟨#[47]⟩ ++ itS b
   rw[tH]
  have sp:Txt.split (itS a++OF "/" ++ itS b) (OF "/")=[itS a,itS b]:=by
   rw[jz,tH]
   exact iF (by simp) (λz hz=>by
    rcases UQ.mp hz with (e | hz)
    ·rw[e];exact xm F.na.l (by decide)
    ·rw[UZ.mp hz];exact xm F.nb.l (by decide))
  refine ⟨⟨az,by omega⟩,?_⟩
  rw[MR (c:=47) (by rw[ez];simp) (by decide)]
  walk_at "go"
  rw[sp]
  walk_at "go"
  refine ⟨⟨by rw[nV];rfl,by omega⟩,?_⟩
  refine ⟨(lK F.na).1,?_⟩
  rw[fM F.na.l F.na.u]
  walk_at "go"
  refine ⟨(lK F.nb).1,?_⟩
  rw[fM F.nb.l F.nb.u]
  walk_at "go"
  refine ⟨a,(lK F.na).2,b,(lK F.nb).2,?_⟩
  walk_at "go"
  refine ⟨yU (av (.int F.na.m) (av (.int F.nb.m) bo)),?_⟩
  have hf:isF (fr a b)=true:=by
   show (decide (0 < b)&&decide (Vx a b=1))=true
   rw[decide_eq_true (by have:=F.b1;omega),decide_eq_true F.g];rfl
  rw[hf]
  walk_at "go"
  refine QH hb ?_
  exact ⟨_,.refl _,k⟩
inductive Kd:Str->List D->Prop
 | iw {a b:Int} (w:F9 a b):Kd (OF "still") [fr a b]
 | step {a b c d e f g h:Int} (w:F9 a b) (u:F9 c d) (x:F9 e f) (t:F9 g h):Kd (OF "step") [fr a b,fr c d,fr e f,fr g h]
 | jn {a b c d e f g h:Int} (w:F9 a b) (u:F9 c d) (x:F9 e f) (t:F9 g h):Kd (OF "swell") [fr a b,fr c d,fr e f,fr g h]
 | yL {a b c d e f g h:Int} (w:F9 a b) (u:F9 c d) (x:F9 e f) (t:F9 g h):Kd (OF "heed") [fr a b,fr c d,fr e f,fr g h]
 | calm {a b c d l m g h:Int} (w:F9 a b) (u:F9 c d) (x:N9 l) (y:N9 m) (t:F9 g h):Kd (OF "calm") [fr a b,fr c d,.int l,.int m,fr g h]
def wdF:D:=.str "fraction"
def wdW:D:=.str "whole"
abbrev sW:List (Str×D):=[((OF "still"),(.tup [wdF]:D)),((OF "step"),(.tup [wdF,wdF,wdF,wdF]:D)),((OF "swell"),(.tup [wdF,wdF,wdF,wdF]:D)),((OF "heed"),(.tup [wdF,wdF,wdF,wdF]:D)),((OF "calm"),(.tup [wdF,wdF,wdW,wdW,wdF]:D))]
theorem MS:bx sW (OF "still")=some (.tup [wdF]):=by simp[bx,sW]
theorem PL:bx sW (OF "step")=some (.tup [wdF,wdF,wdF,wdF]):=by simp[bx,sW,Vp,hE]
theorem K1:bx sW (OF "swell")=some (.tup [wdF,wdF,wdF,wdF]):=by simp[bx,sW,Vp,gh,e6]
theorem QP:bx sW (OF "heed")=some (.tup [wdF,wdF,wdF,wdF]):=by simp[bx,sW,Vp,gT,d7,dq]
theorem P5:bx sW (OF "calm")=some (.tup [wdF,wdF,wdW,wdW,wdF]):=by simp[bx,sW,Vp,g9,iU,g6,jj]
def sf:D->D
 | .int _=>wdW
 | _=>wdF
def G9 (d:D):Prop:=(∃ a b,d=fr a b/\F9 a b)∨∃ i,d=.int i/\N9 i
theorem Kd.tab {w:Str}{ps:List D}(h:Kd w ps):bx sW w=some (.tup (ps.map sf))/\(∀ d∈ps,G9 d)/\ps.length<=5/\w∈b8:=by
 have f:∀ {a b:Int},F9 a b->G9 (fr a b):=λh=>.inl ⟨_,_,rfl,h⟩
 have n:∀ {i:Int},N9 i->G9 (.int i):=λh=>.inr ⟨_,rfl,h⟩
 cases h with
 | iw a=>exact ⟨MS,av (f a) bo,by simp,by simp[b8]⟩
 | step a b c d=>exact ⟨PL,av (f a) (av (f b) (av (f c) (av (f d) bo))),by simp,by simp[b8]⟩
 | jn a b c d=>exact ⟨K1,av (f a) (av (f b) (av (f c) (av (f d) bo))),by simp,by simp[b8]⟩
 | yL a b c d=>exact ⟨QP,av (f a) (av (f b) (av (f c) (av (f d) bo))),by simp,by simp[b8]⟩
 | calm a b x y d=>exact ⟨P5,av (f a) (av (f b) (av (n x) (av (n y) (av (f d) bo)))),by simp,by simp[b8]⟩
theorem Ha {α:Type}(x:α)(xs:List α):cutD (x::xs) (some 1) none=xs:=kG (x::xs) 1
theorem w_f:¬ OF "whole" = OF "fraction" := by decide +kernel
theorem Nl:UL (OF "fraction")=true:=by decide +kernel
theorem Tn:UL (OF "whole")=true:=by decide +kernel
theorem OM {μ:Mu}{q:Addr}{o:MO}(hq:μ q=none):L3.Sub μ (up μ q o):=λa o' e=>by rw[bQ (λz=>by rw[z,hq] at e;cases e)];exact e
def fS:FSp:=λds μ Q=>kcL ds λxs ds=>kcN ds (∃ (w:Str) (ps:List D),(xs=.str w::ps.map (λd=>.str (shw d))/\Kd w ps)/\Q (.tup (.str w::ps)) μ)
theorem uU:∀ ds μ Q,fS ds μ Q->ds.length=1:=λ_ _ _ h=>lcL h λ_ _ h=>by rw[(ecN h).1];rfl
def pY:STr:=aD (bp (TOr (TB (aq rEq (ao cI (af (ah 0) (ar))) (TC (.int 0)))) (TOr (TB (sX true [((OF "still"),(.tup [.str "fraction"]:D)),((OF "step"),(.tup [.str "fraction", .str "fraction", .str "fraction", .str "fraction"]:D)),((OF "swell"),(.tup [.str "fraction", .str "fraction", .str "fraction", .str "fraction"]:D)),((OF "heed"),(.tup [.str "fraction", .str "fraction", .str "fraction", .str "fraction"]:D)),((OF "calm"),(.tup [.str "fraction", .str "fraction", .str "whole", .str "whole", .str "fraction"]:D))] (aq L3.rIx (ah 0) (TC (.int 0))))) (TB (aq rNe (ao cI (af (ah 0) (ar))) (aq aY (ao cI (af (tX [((OF "still"),(.tup [.str "fraction"]:D)),((OF "step"),(.tup [.str "fraction", .str "fraction", .str "fraction", .str "fraction"]:D)),((OF "swell"),(.tup [.str "fraction", .str "fraction", .str "fraction", .str "fraction"]:D)),((OF "heed"),(.tup [.str "fraction", .str "fraction", .str "fraction", .str "fraction"]:D)),((OF "calm"),(.tup [.str "fraction", .str "fraction", .str "whole", .str "whole", .str "fraction"]:D))] (aq L3.rIx (ah 0) (TC (.int 0)))) (ar))) (TC (.int 1))))))) (aK (TC .non)) (aU)) (aD (aZ (mh (af (aq L3.rIx (ah 0) (TC (.int 0))) (ar))) (ax 1)) (aD (oN (Em (af (tX [((OF "still"),(.tup [.str "fraction"]:D)),((OF "step"),(.tup [.str "fraction", .str "fraction", .str "fraction", .str "fraction"]:D)),((OF "swell"),(.tup [.str "fraction", .str "fraction", .str "fraction", .str "fraction"]:D)),((OF "heed"),(.tup [.str "fraction", .str "fraction", .str "fraction", .str "fraction"]:D)),((OF "calm"),(.tup [.str "fraction", .str "fraction", .str "whole", .str "whole", .str "fraction"]:D))] (aq L3.rIx (ah 0) (TC (.int 0)))) (af (TSl (ah 0) (mP (TC (.int 1))) (ONo)) (ar)))) (jJ [2,3]) (aD (aZ (oo (TB (aq rEq (ah 2) (TC (.str "fraction")))) (ao cX (af (ah 3) (ar))) (ao cP (af (ah 3) (ar)))) (ax 4)) (aD (bp (TB (aq rIs (ah 4) (TC .non))) (aK (TC .non)) (aU)) (fA (mH (ah 1) (ah 4)))))) (aK (ao cO (af (ah 1) (ar))))))
theorem xU:∀ ds μ Q,fS ds μ Q->pY { nx:=λ_ μ'=>RT Q .non μ',rt:=RT Q } (ini 5 ds) μ:=by
 intro ds μ Q h
 replace h:=ecL h
 obtain ⟨xs,ds,rfl,h⟩:=h
 replace h:=ecN h
 obtain ⟨rfl,h⟩:=h
 walk_at "ini"
 unfold pY
 walk_at "go"
 obtain ⟨w,ps,⟨rfl,K⟩,k⟩:=h
 obtain ⟨tb,gs,l5,w5⟩:=K.tab
 have tb:bx [((OF "still"),(.tup [.str "fraction"]:D)),((OF "step"),(.tup [.str "fraction", .str "fraction", .str "fraction", .str "fraction"]:D)),((OF "swell"),(.tup [.str "fraction", .str "fraction", .str "fraction", .str "fraction"]:D)),((OF "heed"),(.tup [.str "fraction", .str "fraction", .str "fraction", .str "fraction"]:D)),((OF "calm"),(.tup [.str "fraction", .str "fraction", .str "whole", .str "whole", .str "fraction"]:D))] w=some (.tup (ps.map sf)):=tb
 walk_at "go"
 rw[tb]
 walk_at "go"
 refine Bf (by simp;omega) ?_
 walk_at "go"
 refine JF (by simp) ?_
 intro q hq
 walk_at "go"
 rw[Ha]
 walk_at "go"
 have ez:YC (λd e=>D.tup [d,e]) (ps.map sf) (ps.map λd=>.str (shw d))=ps.map λd=>.tup [sf d,.str (shw d)]:=by
  rw[List.zipWith_map,List.zipWith_self]
 rw[ez]
 refine eI (λr ρ μ'=>∃ (dn rs:List D) (v2 v3 v4:Option D),r=rs.map (λd=>.tup [sf d,.str (shw d)])/\dn++rs=ps/\ρ=[some (.ls (.str w::ps.map λd=>.str (shw d))),some (.obj q),v2,v3,v4]/\μ'=up μ q (.lst (.str w::dn))) ?_ ?_ _ _ _ ⟨[],ps,_,_,_,rfl,rfl,rfl,rfl⟩
 ·rintro ρ μ' ⟨dn,rs,v2,v3,v4,er,es,rfl,rfl⟩
  cases rs with
  | cons _ _=>cases er
  | nil=>
  rw[Ve] at es
  subst es
  walk_at "go"
  exact ⟨μ,OM hq,k⟩
 ·rintro d r ρ μ' N ⟨dn,rs,v2,v3,v4,er,es,rfl,rfl⟩ hN
  cases rs with
  | nil=>cases er
  | cons x rs=>
  cases er
  have hx:x∈ps:=by rw[← es];simp
  have dl:dn.length<=5:=by have:=congrArg VQ es;rw[UY] at this;omega
  have next:∀ v2 v3 v4,N [some (.ls (.str w::ps.map λd=>.str (shw d))),some (.obj q),v2,v3,v4] (up μ q (.lst (.str w::dn++[x]))):=λv2 v3 v4=>hN _ _ ⟨dn++[x],rs,_,_,_,rfl,by rw[← es];simp,rfl,rfl⟩
  rcases gs x hx with ⟨a,b,rfl,F⟩ | ⟨i,rfl,n9⟩
  ·simp only[sf,wdF]
   walk_at "go"
   refine ⟨Nl,a,b,⟨rfl,F⟩,?_⟩
   walk_at "go"
   exact ⟨by simp;omega,next _ _ _⟩
  ·simp only[sf,wdW]
   walk_at "go"
   refine ⟨⟨Tn,Nl⟩,Bf w_f ?_⟩
   refine ⟨i,⟨rfl,n9⟩,?_⟩
   walk_at "go"
   exact ⟨by simp;omega,next _ _ _⟩
theorem yX {i:Int}(h:N9 i):(itS i).cps.all (· < 128)=true/\(itS i).length<=1000:=(lK h).1
theorem yr {i:Int}(h:N9 i):W6 (itS i)=some i/\(itS i).length<=640:=(lK h).2
theorem Nk {o:Option Int}(h:O9 o):(oS o).cps.all (· < 128)=true/\(oS o).length<=1000:=⟨(C7 h).1,by have:=(C7 h).2;omega⟩
theorem Kx {o:Option Int}(h:O9 o):(decide (oS o=dash) || oq (oS o))=true:=by
 cases o with
 | none=>rfl
 | some i=>rw[show oS (some i)=itS i from rfl,fM (h i rfl).l (h i rfl).u,zcf]
structure WR9 (w:WT):Prop where
 n:nmS w.nm=true
 p:N9 w.p
 r:N9 w.r
 m:O9 w.m
 s:soB (.str w.so)=true
def gE:FSp:=λds μ Q=>kcL ds λxs ds=>kcN ds (∃ w:WT,(xs=[.str w.nm,.str (itS w.p),.str (itS w.r),.str (oS w.m),.str w.so]/\WR9 w)/\Q w.toD μ)
theorem xq:∀ ds μ Q,gE ds μ Q->ds.length=1:=λ_ _ _ h=>lcL h λ_ _ h=>by rw[(ecN h).1];rfl
def sd:STr:=aD (bp (TOr (TB (aq rNe (ao cI (af (ah 0) (ar))) (TC (.int 5)))) (TOr (bL (TB (ao L3.bT (af (aq L3.rIx (ah 0) (TC (.int 0))) (ar))))) (bL (TB (ao L3.eM (af (aq L3.rIx (ah 0) (TC (.int 4))) (ar))))))) (aK (TC .non)) (aU)) (aD (bp (TOr (bL (TB (ao bz (af (aq L3.rIx (ah 0) (TC (.int 1))) (ar))))) (TOr (bL (TB (ao bz (af (aq L3.rIx (ah 0) (TC (.int 2))) (ar))))) (bL (TB (ao bM (af (aq L3.rIx (ah 0) (TC (.int 3))) (ar))))))) (aK (TC .non)) (aU)) (aK (bw (af (aq L3.rIx (ah 0) (TC (.int 0))) (af (ao jy (af (aq L3.rIx (ah 0) (TC (.int 1))) (ar))) (af (ao jy (af (aq L3.rIx (ah 0) (TC (.int 2))) (ar))) (af (ao b9 (af (aq L3.rIx (ah 0) (TC (.int 3))) (ar))) (af (aq L3.rIx (ah 0) (TC (.int 4))) (ar)))))))))
theorem z9:∀ ds μ Q,gE ds μ Q->sd { nx:=λ_ μ'=>RT Q .non μ',rt:=RT Q } (ini 1 ds) μ:=by
 intro ds μ Q h
 replace h:=ecL h
 obtain ⟨xs,ds,rfl,h⟩:=h
 replace h:=ecN h
 obtain ⟨rfl,h⟩:=h
 walk_at "ini"
 unfold sd
 walk_at "go"
 obtain ⟨w,⟨rfl,W⟩,k⟩:=h
 walk_at "go"
 refine ⟨kH W.n,?_⟩
 rw[show nmB (.str w.nm)=true from W.n]
 walk_at "go"
 refine ⟨Ed W.s,?_⟩
 rw[W.s]
 walk_at "go"
 refine ⟨yX W.p,?_⟩
 rw[fM W.p.l W.p.u]
 walk_at "go"
 refine ⟨yX W.r,?_⟩
 rw[fM W.r.l W.r.u]
 walk_at "go"
 refine ⟨Nk W.m,?_⟩
 rw[Kx W.m]
 walk_at "go"
 refine ⟨w.p,yr W.p,w.r,yr W.r,w.m,⟨rfl,W.m⟩,?_⟩
 exact ⟨_,.refl _,k⟩
structure SR9 (s:ST'):Prop where
 n:nmS s.nm=true
 r:∀ z∈s.rd,nmS z=true
 r0:s.rd≠[]
 rl:s.rd.length<=8
 b:N9 s.bt
 g:N9 s.bg
 m:O9 s.mn
 k:Kd s.wd s.ps
theorem Bb:OF "," = ⟨#[44]⟩:=by decide +kernel
theorem Cz {rd:List Str}(h:∀ z∈rd,nmS z=true)(h0:rd≠[]):Txt.split (Vk (OF ",") rd) (OF ",")=rd:=by
 rw[Bb]
 exact iF h0 λz hz q=>by have:=(nE (h z hz)).2 44 q;omega
theorem RD {α:Type}(a b c d e:α)(xs:List α):cutD (a::b::c::d::e::xs) (some 5) none=xs:=kG (a::b::c::d::e::xs) 5
def eA:FSp:=λds μ Q=>kcL ds λxs ds=>kcN ds (∃ s:ST',(xs=.str s.nm::.str (Vk (OF ",") s.rd)::.str (itS s.bt)::.str (itS s.bg)::.str (oS s.mn)::.str s.wd::s.ps.map (λd=>.str (shw d))/\SR9 s)/\Q s.toD μ)
theorem qx:∀ ds μ Q,eA ds μ Q->ds.length=1:=λ_ _ _ h=>lcL h λ_ _ h=>by rw[(ecN h).1];rfl
def lB:STr:=aD (aZ (ao fS (af (TSl (ah 0) (mP (TC (.int 5))) (ONo)) (ar))) (ax 1)) (aD (bp (TB (aq rIs (ah 1) (TC .non))) (aK (TC .non)) (aU)) (aD (aZ (md (aq L3.rIx (ah 0) (TC (.int 1))) (TC (.str ","))) (ax 2)) (aD (bp (TOr (bL (TB (ao L3.bT (af (aq L3.rIx (ah 0) (TC (.int 0))) (ar))))) (bL (TB (ao yG (af (cp (fk (ah 2)) (ax 0) (fe) (ao L3.bT (af (ah 0) (ar))) 1 []) (ar)))))) (aK (TC .non)) (aU)) (aD (bp (TOr (bL (TB (ao bz (af (aq L3.rIx (ah 0) (TC (.int 2))) (ar))))) (TOr (bL (TB (ao bz (af (aq L3.rIx (ah 0) (TC (.int 3))) (ar))))) (bL (TB (ao bM (af (aq L3.rIx (ah 0) (TC (.int 4))) (ar))))))) (aK (TC .non)) (aU)) (aK (bw (af (aq L3.rIx (ah 0) (TC (.int 0))) (af (ao cO (af (ah 2) (ar))) (af (ao jy (af (aq L3.rIx (ah 0) (TC (.int 2))) (ar))) (af (ao jy (af (aq L3.rIx (ah 0) (TC (.int 3))) (ar))) (af (ao b9 (af (aq L3.rIx (ah 0) (TC (.int 4))) (ar))) (af (ah 1) (ar)))))))))))))
theorem rD:∀ ds μ Q,eA ds μ Q->lB { nx:=λ_ μ'=>RT Q .non μ',rt:=RT Q } (ini 3 ds) μ:=by
 intro ds μ Q h
 replace h:=ecL h
 obtain ⟨xs,ds,rfl,h⟩:=h
 replace h:=ecN h
 obtain ⟨rfl,h⟩:=h
 walk_at "ini"
 unfold lB
 walk_at "go"
 obtain ⟨s,⟨rfl,S⟩,k⟩:=h
 have jl:(Vk (OF ",") s.rd).length<=1000:=by
  have h1:=Xa (OF ",") s.rd
  have h2:=me (n:=8) (m:=8) (k:=1) (sep:=OF ",") (zs:=s.rd) (λz k=>(nE (S.r z k)).1.2) S.rl (by rw[hZ];decide)
  omega
 walk_at "go"
 rw[RD]
 refine ⟨s.wd,s.ps,⟨rfl,S.k⟩,?_⟩
 walk_at "go"
 rw[Cz S.r S.r0]
 refine ⟨⟨by rw[hZ];rfl,by omega⟩,?_⟩
 refine ⟨kH S.n,?_⟩
 rw[show nmB (.str s.nm)=true from S.n]
 walk_at "go"
 refine kK s.rd D.str (λz=>.bl (nmS z)) rfl (by have:=S.rl;omega) (λz hz μ' _ N m=>?_) ?_
 ·walk_at "go"
  exact ⟨kH (S.r z hz),m⟩
 walk_at "go"
 refine ⟨s.rd.map nmS,by rw[Vg];rfl,?_⟩
 have ea:(s.rd.map nmS).all id=true:=by rw[Xp];exact Vv.mpr S.r
 rw[ea]
 walk_at "go"
 refine ⟨yX S.b,?_⟩
 rw[fM S.b.l S.b.u]
 walk_at "go"
 refine ⟨yX S.g,?_⟩
 rw[fM S.g.l S.g.u]
 walk_at "go"
 refine ⟨Nk S.m,?_⟩
 rw[Kx S.m]
 walk_at "go"
 refine ⟨s.bt,yr S.b,s.bg,yr S.g,s.mn,⟨rfl,S.m⟩,?_⟩
 exact ⟨_,.refl _,k⟩
theorem KP:UL (OF "grid")=true:=by decide +kernel
def fQ:FSp:=λds μ Q=>kcL ds λxs ds=>kcN ds (∃ g:Int,(xs=[.str "grid", .str (itS g)]/\N9 g)/\Q (.int g) μ)
theorem vi:∀ ds μ Q,fQ ds μ Q->ds.length=1:=λ_ _ _ h=>lcL h λ_ _ h=>by rw[(ecN h).1];rfl
def pS:STr:=aK (oo (xw (TB (aq rEq (ao cI (af (ah 0) (ar))) (TC (.int 2)))) (TB (aq rEq (aq L3.rIx (ah 0) (TC (.int 0))) (TC (.str "grid"))))) (ao cP (af (aq L3.rIx (ah 0) (TC (.int 1))) (ar))) (TC .non))
theorem yJ:∀ ds μ Q,fQ ds μ Q->pS { nx:=λ_ μ'=>RT Q .non μ',rt:=RT Q } (ini 1 ds) μ:=by
 intro ds μ Q h
 replace h:=ecL h
 obtain ⟨xs,ds,rfl,h⟩:=h
 replace h:=ecN h
 obtain ⟨rfl,h⟩:=h
 walk_at "ini"
 unfold pS
 walk_at "go"
 obtain ⟨g,⟨rfl,G⟩,k⟩:=h
 walk_at "go"
 refine ⟨KP,g,⟨rfl,G⟩,_,.refl _,k⟩
def Cln (z:Str):Prop:=∀ c∈z.cps.toList,33<=c/\c < 128
theorem Cln.no {z:Str}(h:Cln z){c:Nat}(hc:c < 33):c ∉ z.cps.toList:=λq=>by have:=h c q;omega
theorem CI {z:Str}(h:nmS z=true):Cln z:=λc hc=>by have:=(nE h).2 c hc;omega
theorem gW {i:Int}(h:0<=i):Cln (itS i):=λc hc=>by have:=l7 h c hc;omega
theorem D0 {x y:Str}(hx:Cln x)(hy:Cln y):Cln (x++y):=λc hc=>by
 rw[app_list] at hc
 rcases Vo.mp hc with (h | h)
 ·exact hx c h
 ·exact hy c h
theorem rM {z:Str}(h:(z.cps.toList.all λc=>decide (33<=c)&&decide (c < 128))=true):Cln z:=λc hc=>by
 have:=Vv.mp h c hc
 simpa only[UM,decide_eq_true_eq] using this
theorem NY {o:Option Int}(h:O9 o):Cln (shw (oD o)):=by
 cases o with
 | none=>exact rM (by decide +kernel)
 | some i=>exact gW (h i rfl).l
theorem O3 {a b:Int}(h:F9 a b):Cln (shw (fr a b)):=by
 show Cln (if b=1 then itS a else itS a++OF "/" ++ itS b)
 split
 ·exact gW h.na.l
 ·exact D0 (D0 (gW h.na.l) (rM (by decide +kernel))) (gW h.nb.l)
theorem RG {d:D}(h:G9 d):Cln (shw d):=by
 rcases h with ⟨a,b,rfl,F⟩ | ⟨i,rfl,n⟩
 ·exact O3 F
 ·exact gW n.l
theorem Jd {zs:List Str}(h:∀ z∈zs,nmS z=true):Cln (Vk (OF ",") zs):=λc hc=>by
 rcases (ZX (OF ",") c zs).mp hc with ⟨z,hz,q⟩ | ⟨_,q⟩
 ·exact CI (h z hz) c q
 ·rw[Bb] at q;simp at q;omega
theorem P4 {z:Str}(h:soB (.str z)=true):Cln z:=by
 have h:(decide (z=OF "line") || decide (z=OF "turns"))=true:=h
 rw[ZN,decide_eq_true_eq,decide_eq_true_eq] at h
 rcases h with rfl | rfl<;>exact rM (by decide +kernel)
theorem PX {w:Str}(h:w∈b8):Cln w:=by
 simp only[b8,UQ,U2,or_false] at h
 rcases h with rfl | rfl | rfl | rfl | rfl<;>exact rM (by decide +kernel)
def wwd (w:WT):List Str:=[OF "way", w.nm,itS w.p,itS w.r,oS w.m,w.so]
def swd (s:ST'):List Str:=OF "sender" :: s.nm::Vk (OF ",") s.rd::itS s.bt::itS s.bg::oS s.mn::s.wd::s.ps.map shw
def gwd (p:PT):List Str:=[OF "grid", itS p.g]
def wds (p:PT):List (List Str):=gwd p::(p.ws.map wwd++p.ss.map swd)
theorem Rf (s:ST'):s.ds.map shw=swd s:=by
 unfold ST'.ds swd
 rw[Vc];rfl
theorem nA (p:PT):p.rows=(wds p).map (Vk sp1):=by
 unfold PT.rows wds dY
 have e:p.ss.map (λs=>Vk sp1 (s.ds.map shw))=(p.ss.map swd).map (Vk sp1):=by
  rw[Vg]
  exact zaj λs _=>congrArg (Vk sp1) (Rf s)
 have e2:p.ws.map (λw=>Vk sp1 (w.ds.map shw))=(p.ws.map wwd).map (Vk sp1):=by rw[Vg];rfl
 rw[Vt,Vc,e,e2]
 rfl
structure PR9 (p:PT):Prop where
 good:p.Good
 kd:∀ s∈p.ss,Kd s.wd s.ps
theorem By {lo hi i:Int}(h:wiI lo hi (.int i)=true)(l0:0<=lo)(h1:hi<=1000000):N9 i:=by
 simp only[wiI,UM,decide_eq_true_eq] at h
 exact ⟨by omega,by omega⟩
theorem Nr {hi:Int}{o:Option Int}(h:nwB hi (oD o)=true)(h1:hi<=1000000):O9 o:=by
 intro i e
 subst e
 exact By (lo:=0) h (by decide) h1
theorem wr9 {p:PT}(h:p.Good){w:WT}(hw:w∈p.ws):WR9 w:=by
 have hb:=h.w w hw
 have hb:(nmS w.nm&&(wiI 1 20 (.int w.p)&&(wiI 1 60 (.int w.r)&&(nwB 60 (oD w.m)&&soB (.str w.so)))))=true:=hb
 simp only[UM,and_assoc] at hb
 exact ⟨hb.1,By hb.2.1 (by decide) (by decide),By hb.2.2.1 (by decide) (by decide),Nr hb.2.2.2.1 (by decide),hb.2.2.2.2⟩
theorem sr9 {p:PT}(h:PR9 p){s:ST'}(hs:s∈p.ss):SR9 s:=by
 obtain ⟨b1,b2,b3,b4,b5,b6⟩:=uc (h.good.s s hs)
 have sl:=h.good.sl s hs
 have b2:(decide (s.rd.map D.str≠[])&&fH (p.ws.map WT.nm) 0 (s.rd.map .str))=true:=b2
 rw[UM] at b2
 exact ⟨b1,AG b2.2,sl.2,(h.good.ok.s s hs).rl,By b3 (by decide) (by decide),By b4 (by decide) (by decide),Nr b5 (by decide),h.kd s hs⟩
theorem Mc {w:WT}(h:WR9 w):∀ z∈wwd w,Cln z:=λz hz=>by
 simp only[wwd,UQ,U2,or_false] at hz
 rcases hz with rfl | rfl | rfl | rfl | rfl | rfl
 ·exact rM (by decide +kernel)
 ·exact CI h.n
 ·exact gW h.p.l
 ·exact gW h.r.l
 ·exact NY h.m
 ·exact P4 h.s
theorem DB {s:ST'}(h:SR9 s):∀ z∈swd s,Cln z:=λz hz=>by
 simp only[swd,UQ] at hz
 obtain ⟨_,gs,_,w5⟩:=h.k.tab
 rcases hz with rfl | rfl | rfl | rfl | rfl | rfl | rfl | hz
 ·exact rM (by decide +kernel)
 ·exact CI h.n
 ·exact Jd h.r
 ·exact gW h.b.l
 ·exact gW h.g.l
 ·exact NY h.m
 ·exact PX w5
 ·obtain ⟨d,hd,rfl⟩:=U3.mp hz
  exact RG (gs d hd)
theorem Ei {p:PT}(h:PR9 p):∀ ws∈wds p,ws≠[]/\∀ z∈ws,Cln z:=λws hw=>by
 unfold wds at hw
 rcases UQ.mp hw with (rfl | hw)
 ·refine ⟨by simp[gwd],λz hz=>?_⟩
  simp only[gwd,UQ,U2,or_false] at hz
  rcases hz with rfl | rfl
  ·exact rM (by decide +kernel)
  ·exact gW (by have:=h.good.g0;omega)
 ·rcases Vo.mp hw with (hw | hw)
  ·obtain ⟨w,hw',rfl⟩:=U3.mp hw
   exact ⟨by simp[wwd],Mc (wr9 h.good hw')⟩
  ·obtain ⟨s,hs,rfl⟩:=U3.mp hw
   exact ⟨by simp[swd],DB (sr9 h hs)⟩
theorem NT:sp1=⟨#[32]⟩:=by decide +kernel
theorem R8:nl=⟨#[10]⟩:=by decide +kernel
theorem FQ {ws:List Str}(h0:ws≠[])(h:∀ z∈ws,Cln z):Txt.split (Vk sp1 ws) sp1=ws:=by
 rw[NT]
 exact iF h0 λz hz=>(h z hz).no (by decide)
theorem Ct {p:PT}(h:PR9 p):Txt.split p.text nl=p.rows:=by
 unfold PT.text
 rw[R8]
 refine iF (by unfold PT.rows;simp) λz hz=>?_
 rw[nA] at hz
 obtain ⟨ws,hw,rfl⟩:=U3.mp hz
 obtain ⟨_,hc⟩:=Ei h ws hw
 intro q
 rcases (ZX sp1 10 ws).mp q with ⟨z,hz,q⟩ | ⟨_,q⟩
 ·exact (hc z hz).no (by decide) q
 ·rw[NT] at q;simp at q
theorem text_len {p:PT}(h:p.Ok):p.text.length<=1000000:=by
 have h1:=Xa nl p.rows
 have h2:=me (n:=4020) (m:=17) (k:=1) (sep:=nl) (λz k=>(h.row z k).2) h.len (by rw[CH];decide)
 unfold PT.text
 omega
theorem Kc:UL (OF "way")=true:=by decide +kernel
theorem D5:UL (OF "sender")=true:=by decide +kernel
theorem s_w:¬ OF "sender" = OF "way" := by decide +kernel
def lsS (ws:List Str):D:=.ls (ws.map .str)
def cY:FSp:=λds μ Q=>kcS ds λz ds=>kcN ds (∃ p:PT,(z=p.text/\PR9 p)/\Q p.toD μ)
theorem uC:∀ ds μ Q,cY ds μ Q->ds.length=1:=λ_ _ _ h=>lcS h λ_ _ h=>by rw[(ecN h).1];rfl
def oO:STr:=aD (bp (bL (TB (TUn (dU "str") (ah 0)))) (sI) (aU)) (aD (aZ (cp (fk (md (ah 0) (TC (.str "\n")))) (ax 0) (fe) (md (ah 0) (TC (.str " "))) 1 []) (ax 1)) (aD (aZ (ao fQ (af (aq L3.rIx (ah 1) (TC (.int 0))) (ar))) (ax 2)) (aD (bp (TB (aq rIs (ah 2) (TC .non))) (sI) (aU)) (aD (aZ (mh (ar)) (ax 3)) (aD (aZ (mh (ar)) (ax 4)) (aD (oN (ya (TC (.int 1)) (ao cI (af (ah 1) (ar)))) (ax 5) (aD (aZ (aq L3.rIx (ah 1) (ah 5)) (ax 6)) (aD (aZ (TC .non) (ax 7)) (aD (bp (xw (TB (aq rEq (aq L3.rIx (ah 6) (TC (.int 0))) (TC (.str "way")))) (TB (aq rEq (ao cI (af (ah 4) (ar))) (TC (.int 0))))) (aD (aZ (ao gE (af (TSl (ah 6) (mP (TC (.int 1))) (ONo)) (ar))) (ax 7)) (fA (mH (ah 3) (ah 7)))) (bp (xw (TB (aq rEq (aq L3.rIx (ah 6) (TC (.int 0))) (TC (.str "sender")))) (TB (aq rGt (ao cI (af (ah 3) (ar))) (TC (.int 0))))) (aD (aZ (ao eA (af (TSl (ah 6) (mP (TC (.int 1))) (ONo)) (ar))) (ax 7)) (fA (mH (ah 4) (ah 7)))) (aU))) (bp (TB (aq rIs (ah 7) (TC .non))) (sI) (aU)))))) (aD (aZ (bw (af (ah 2) (af (ao cO (af (ah 3) (ar))) (af (ao cO (af (ah 4) (ar))) (ar))))) (ax 8)) (aD (bp (bL (TB (ao L3.fY (af (ah 8) (ar))))) (sI) (aU)) (aK (ah 8))))))))))
theorem xk:∀ ds μ Q,cY ds μ Q->oO { nx:=λ_ μ'=>RT Q .non μ',rt:=RT Q } (ini 9 ds) μ:=by
 intro ds μ Q h
 replace h:=ecS h
 obtain ⟨z,ds,rfl,h⟩:=h
 replace h:=ecN h
 obtain ⟨rfl,h⟩:=h
 walk_at "ini"
 unfold oO
 walk_at "go"
 obtain ⟨p,⟨rfl,R⟩,k⟩:=h
 have P:=R.good
 have rl:p.rows.length<=17:=P.ok.len
 walk_at "go"
 rw[show OF "\n" = nl from rfl,Ct R]
 refine ⟨⟨by rw[CH];rfl,text_len P.ok⟩,?_⟩
 have em:p.rows.map D.str=(wds p).map λws=>.str (Vk sp1 ws):=by rw[nA,Vg];rfl
 rw[em]
 have wl:(wds p).length<=17:=by have:=congrArg VQ (nA p);rw[UJ] at this;omega
 refine kK (wds p) (λws=>.str (Vk sp1 ws)) lsS rfl (by omega) (λws hw μ' _ N m=>?_) ?_
 ·obtain ⟨h0,hc⟩:=Ei R ws hw
  have hl:(Vk sp1 ws).length<=1000000:=by
   have:Vk sp1 ws∈p.rows:=by rw[nA];exact U3.mpr ⟨ws,hw,rfl⟩
   have:=(P.ok.row _ this).2
   omega
  walk_at "go"
  rw[show OF " " = sp1 from rfl,FQ h0 hc]
  exact ⟨⟨by rw[GS];rfl,hl⟩,m⟩
 have e0:(wds p).map lsS=lsS (gwd p)::(p.ws.map wwd++p.ss.map swd).map lsS:=rfl
 rw[e0]
 walk_at "go"
 refine ⟨p.g,⟨rfl,by have:=P.g0;omega,by have:=P.g1;omega⟩,?_⟩
 walk_at "go"
 intro q1 hq1
 walk_at "go"
 intro q2 hq2
 walk_at "go"
 have ll:(lsS (gwd p)::(p.ws.map wwd++p.ss.map swd).map lsS).length=1+(p.ws.length+p.ss.length):=by
  rw[UX,UJ,UY,UJ,UJ];omega
 have w8:p.ws.length<=8:=P.ok.wl
 have s8:p.ss.length<=8:=P.ok.sl
 rw[ll]
 refine ⟨⟨by omega,by omega⟩,?_⟩
 rw[show (((1+(p.ws.length+p.ss.length):Nat):Int) - 1).toNat=p.ws.length+p.ss.length by omega]
 have ne:q1≠q2:=λz=>by rw[← z,bh] at hq2;cases hq2
 have TZ:μ q2=none:=by rw[bQ (Vq ne)] at hq2;exact hq2
 have at1:∀ (x y:List D),(up (up μ q1 (.lst x)) q2 (.lst y)) q1=some (.lst x):=λx y=>by rw[bQ ne,bh]
 have Ur:∀ (x y x':List D),up (up (up μ q1 (.lst x)) q2 (.lst y)) q1 (.lst x')=up (up μ q1 (.lst x')) q2 (.lst y):=λx y x'=>by
  funext a
  by_cases h1:a=q1
  ·subst h1;rw[bh,bQ ne,bh]
  ·rw[bQ h1]
   by_cases h2:a=q2
   ·subst h2;rw[bh,bh]
   ·rw[bQ h2,bQ h1,bQ h2,bQ h1]
 refine eI (λr ρ μ'=>∃ (dw rw':List WT) (dn rn:List ST') (v5 v6 v7:Option D),r=dQ ((1+(dw.length+dn.length):Nat):Int) (rw'.length+rn.length)/\dw++rw'=p.ws/\dn++rn=p.ss/\(rw'≠[]->dn=[])/\ρ=[some (.str p.text),some (.ls (lsS (gwd p)::(p.ws.map wwd++p.ss.map swd).map lsS)),some (.int p.g),some (.obj q1),some (.obj q2),v5,v6,v7,none]/\μ'=up (up μ q1 (.lst (dw.map WT.toD))) q2 (.lst (dn.map ST'.toD))) ?_ ?_ _ _ _ ⟨[],p.ws,[],p.ss,_,_,_,rfl,rfl,rfl,λ_=>rfl,rfl,rfl⟩
 ·rintro ρ μ' ⟨dw,rw',dn,rn,v5,v6,v7,er,ew,en,_,rfl,rfl⟩
  have l0:=congrArg VQ er
  rw[gj,Yv] at l0
  have e1:rw'=[]:=Wm.mp (by omega)
  have e2:rn=[]:=Wm.mp (by omega)
  rw[e1,Ve] at ew
  rw[e2,Ve] at en
  subst ew
  subst en
  walk_at "go"
  refine e7 (at1 _ _) ?_
  walk_at "go"
  have PA:∀ μ,Any μ (.tup [.int p.g,.tup (p.ws.map WT.toD),.tup (p.ss.map ST'.toD)]):=λμ=>P.any
  have Pb:nN (.tup [.int p.g,.tup (p.ws.map WT.toD),.tup (p.ss.map ST'.toD)])=true:=P.b
  refine ⟨PA _,?_⟩
  rw[Pb]
  walk_at "go"
  exact ⟨μ,λa o e=>by rw[bQ (λz=>by rw[z,TZ] at e;cases e),bQ (λz=>by rw[z,hq1] at e;cases e)];exact e,k⟩
 ·rintro d r ρ μ' N ⟨dw,rw',dn,rn,v5,v6,v7,er,ew,en,hd,rfl,rfl⟩ hN
  cases rw' with
  | cons w rw'=>
   have d0:=hd (by simp)
   subst d0
   rw[WN] at en
   subst en
   have el:(w::rw').length+p.ss.length=(rw'.length+p.ss.length)+1:=by rw[UX];omega
   rw[el,kD] at er
   cases er
   have hw:w∈p.ws:=by rw[← ew];simp
   have W:=wr9 P hw
   have ix:atD (lsS (gwd p)::(p.ws.map wwd++p.ss.map swd).map lsS) ((1+(dw.length+([]:List ST').length):Nat):Int)=some (lsS (wwd w)):=by
    rw[bY,Yv,Nat.add_zero,zck,Wj,VB,← ew,Vc,V7,VR (by simp)]
    simp
   rw[show lsS (wwd w)=.ls [.str "way", .str w.nm,.str (itS w.p),.str (itS w.r),.str (oS w.m),.str w.so] from rfl] at ix
   walk_at "go"
   refine fL ix ?_
   walk_at "go"
   refine ⟨Kc,?_⟩
   rw[Ha]
   refine ⟨w,⟨rfl,W⟩,?_⟩
   walk_at "go"
   refine e7 (at1 _ _) ?_
   walk_at "go"
   refine e7 (at1 _ _) ?_
   rw[Ur]
   have dl:dw.length<=8:=by have:=congrArg VQ ew;rw[UY] at this;omega
   refine ⟨by rw[UJ];omega,?_⟩
   rw[show w.toD=.tup [.str w.nm,.int w.p,.int w.r,oD w.m,.str w.so] from rfl]
   walk_at "go"
   refine hN _ _ ⟨dw++[w],rw',[],p.ss,_,_,_,?_,by rw[← ew];simp,rfl,λ_=>rfl,rfl,by rw[Vc];rfl⟩
   congr 1
   simp
   omega
  | nil=>
   rw[Ve] at ew
   subst ew
   cases rn with
   | nil=>cases er
   | cons s rn=>
   have el:([]:List WT).length+(s::rn).length=(([]:List WT).length+rn.length)+1:=by rw[UX];omega
   rw[el,kD] at er
   cases er
   have hs:s∈p.ss:=by rw[← en];simp
   have S:=sr9 R hs
   have ix:atD (lsS (gwd p)::(p.ws.map wwd++p.ss.map swd).map lsS) ((1+(p.ws.length+dn.length):Nat):Int)=some (lsS (swd s)):=by
    rw[bY,zck,Wj,VB,VR (by simp),UJ,Nat.add_sub_cancel_left,← en,Vc,VR (by simp)]
    simp
   rw[show lsS (swd s)=.ls (.str "sender" :: .str s.nm::.str (Vk (OF ",") s.rd)::.str (itS s.bt)::.str (itS s.bg)::.str (oS s.mn)::.str s.wd::(s.ps.map shw).map .str) from rfl] at ix
   walk_at "go"
   refine fL ix ?_
   walk_at "go"
   refine ⟨⟨D5,Kc⟩,Bf s_w ?_⟩
   walk_at "go"
   refine ⟨D5,?_⟩
   refine e7 (at1 _ _) ?_
   walk_at "go"
   refine NK (by rw[UJ];have:=P.w1;omega) ?_
   rw[Ha]
   refine ⟨s,⟨by rw[Vg];rfl,S⟩,?_⟩
   walk_at "go"
   have dl:dn.length<=8:=by have:=congrArg VQ en;rw[UY] at this;omega
   refine ⟨by rw[UJ];omega,?_⟩
   rw[show s.toD=.tup [.str s.nm,.tup (s.rd.map .str),.int s.bt,.int s.bg,oD s.mn,.tup (.str s.wd::s.ps)] from rfl]
   walk_at "go"
   refine hN _ _ ⟨p.ws,[],dn++[s],rn,_,_,_,?_,by simp,by rw[← en];simp,λh=>absurd rfl h,rfl,by rw[Vc];rfl⟩
   congr 1
   simp
   omega
def bW:FSp:=λds μ Q=>match ds with
 | [.tup [.int a,.int b]]=>((0<=a/\a < 10000000000)/\0<=b/\b < 10000000000)/\Q (.str (shw (.tup [.int a,.int b]))) μ
 | _=>False
theorem mZ:∀ ds μ Q,bW ds μ Q->ds.length=1:=by
 unfold bW
 walk_at "ln"
def jt:STr:=aD (aZ (aq L3.rIx (ah 0) (TC (.int 0))) (ax 1)) (aD (aZ (aq L3.rIx (ah 0) (TC (.int 1))) (ax 2)) (aK (oo (TB (aq rEq (ah 2) (TC (.int 1)))) (Qx (ah 1)) (Pc (ah 1) (TC (.str "/")) (ah 2)))))
theorem oa:∀ ds μ Q,bW ds μ Q->jt { nx:=λ_ μ'=>RT Q .non μ',rt:=RT Q } (ini 3 ds) μ:=by
 intro ds μ Q h
 unfold bW at h
 split at h
 case h_2=>exact h.elim
 rename_i a b
 walk_at "ini"
 unfold jt
 walk_at "go"
 obtain ⟨⟨⟨a0,a1⟩,b0,b1⟩,k⟩:=h
 have k:Q (.str (if b=1 then itS a else itS a++OF "/" ++ itS b)) μ:=k
 refine kif (λh=>?_) λh=>?_
 ·rw[if_pos h] at k
  walk_at "go"
  exact ⟨dR a0 a1,_,.refl _,k⟩
 ·rw[if_neg h] at k
  walk_at "go"
  refine ⟨dR a0 a1,by rw[nV];decide,dR b0 b1,?_⟩
  rw[Str.empty_append]
  exact ⟨_,.refl _,k⟩
def fX:FSp:=λds μ Q=>kcA ds λd ds=>kcN ds (ur d/\Q (.str (shw d)) μ)
theorem u6:∀ ds μ Q,fX ds μ Q->ds.length=1:=λ_ _ _ h=>lcA h λ_ _ h=>by rw[(ecN h).1];rfl
def o5:STr:=aD (bp (TB (aq rIs (ah 0) (TC .non))) (aK (TC (.str "-"))) (aU)) (aK (oo (TB (TUn (gm "tuple") (ah 0))) (ao bW (af (ah 0) (ar))) (ao fu (af (ah 0) (ar)))))
theorem xA:∀ ds μ Q,fX ds μ Q->o5 { nx:=λ_ μ'=>RT Q .non μ',rt:=RT Q } (ini 1 ds) μ:=by
 intro ds μ Q h
 replace h:=ecA h
 obtain ⟨d,ds,rfl,h⟩:=h
 replace h:=ecN h
 obtain ⟨rfl,h⟩:=h
 walk_at "ini"
 unfold o5
 walk_at "go"
 obtain ⟨h,k⟩:=h
 rcases h with rfl | ⟨z,rfl,h1,h2⟩ | ⟨i,rfl,h0,h1⟩ | ⟨a,b,rfl,h⟩
 ·walk_at "go"
  exact ⟨_,.refl _,k⟩
 ·walk_at "go"
  exact ⟨_,.refl _,k⟩
 ·walk_at "go"
  exact ⟨dR h0 h1,_,.refl _,k⟩
 ·walk_at "go"
  exact ⟨h,_,.refl _,k⟩
def bI:FSp:=λds μ Q=>kcT ds λes ds=>kcN ds (((∀ d∈es,ur d)/\es.length<=20)/\Q (.str (dY es)) μ)
theorem tT:∀ ds μ Q,bI ds μ Q->ds.length=1:=λ_ _ _ h=>lcT h λ_ _ h=>by rw[(ecN h).1];rfl
def mB:STr:=aK (pP (TC (.str " ")) (cp (fk (ah 0)) (ax 0) (fe) (ao fX (af (ah 0) (ar))) 1 []))
theorem uW:∀ ds μ Q,bI ds μ Q->mB { nx:=λ_ μ'=>RT Q .non μ',rt:=RT Q } (ini 1 ds) μ:=by
 intro ds μ Q h
 replace h:=ecT h
 obtain ⟨es,ds,rfl,h⟩:=h
 replace h:=ecN h
 obtain ⟨rfl,h⟩:=h
 walk_at "ini"
 unfold mB
 walk_at "go"
 obtain ⟨⟨h,hl⟩,k⟩:=h
 refine comp_map (λd=>.str (shw d)) (by omega) (λd hd μ' _ N m=>?_) ?_
 ·walk_at "go"
  exact ⟨h d hd,m⟩
 walk_at "go"
 refine ⟨es.map shw,by rw[← strs_map,Vg];rfl,Ww (Vy (qN h hl) (by decide)),?_⟩
 rw[iG]
 exact ⟨_,.refl _,k⟩
def eF:FSp:=λds μ Q=>kcA ds λd ds=>kcN ds (∃ s:ST',(d=s.toD/\s.Ok)/\Q (.str (dY s.ds)) μ)
theorem qg:∀ ds μ Q,eF ds μ Q->ds.length=1:=λ_ _ _ h=>lcA h λ_ _ h=>by rw[(ecN h).1];rfl
def lQ:STr:=aK (ao bI (af (aq aY (aq aY (bw (af (TC (.str "sender")) (af (aq L3.rIx (ah 0) (TC (.int 0))) (af (sC (TC (.str ",")) (aq L3.rIx (ah 0) (TC (.int 1)))) (ar))))) (TSl (ah 0) (mP (aq aY (TC (.int 1)) (TC (.int 1)))) (mP (TC (.int 5))))) (aq L3.rIx (ah 0) (TC (.int 5)))) (ar)))
theorem sF:∀ ds μ Q,eF ds μ Q->lQ { nx:=λ_ μ'=>RT Q .non μ',rt:=RT Q } (ini 1 ds) μ:=by
 intro ds μ Q h
 replace h:=ecA h
 obtain ⟨d,ds,rfl,h⟩:=h
 replace h:=ecN h
 obtain ⟨rfl,h⟩:=h
 walk_at "ini"
 unfold lQ
 walk_at "go"
 obtain ⟨s,⟨rfl,S⟩,k⟩:=h
 have pl:=S.pl
 unfold ST'.toD
 walk_at "go"
 have tb:=me (n:=8) (m:=8) (k:=1) (sep:=OF ",") (zs:=s.rd) (λz k=>(S.r z k).l) S.rl (by rw[hZ];decide)
 refine ⟨s.rd,strs_map _,by omega,?_⟩
 rw[show cutD [D.str s.nm,D.tup (s.rd.map D.str),D.int s.bt,D.int s.bg,oD s.mn,D.tup (D.str s.wd::s.ps)] (some 2) (some 5)=[.int s.bt,.int s.bg,oD s.mn] from rfl,iG]
 refine ⟨by simp,by simp;omega,?_⟩
 exact (show bI [.tup s.ds] μ _ from ⟨⟨S.pt,Df S⟩,_,.refl _,k⟩)
def eB:FSp:=λds μ Q=>kcA ds λd ds=>kcN ds (∃ p:PT,(d=p.toD/\p.Ok)/\Q (.str p.text) μ)
theorem vn:∀ ds μ Q,eB ds μ Q->ds.length=1:=λ_ _ _ h=>lcA h λ_ _ h=>by rw[(ecN h).1];rfl
def pJ:STr:=aD (aZ (mh (af (ao bI (af (bw (af (TC (.str "grid")) (af (aq L3.rIx (ah 0) (TC (.int 0))) (ar)))) (ar))) (ar))) (ax 1)) (aD (fA (Et (ah 1) (cp (fk (aq L3.rIx (ah 0) (TC (.int 1)))) (ax 0) (fe) (ao bI (af (aq aY (bw (af (TC (.str "way")) (ar))) (ah 0)) (ar))) 1 []))) (aD (fA (Et (ah 1) (cp (fk (aq L3.rIx (ah 0) (TC (.int 2)))) (ax 0) (fe) (ao eF (af (ah 0) (ar))) 1 []))) (aK (pP (TC (.str "\n")) (uS (ah 1))))))
theorem yl:∀ ds μ Q,eB ds μ Q->pJ { nx:=λ_ μ'=>RT Q .non μ',rt:=RT Q } (ini 2 ds) μ:=by
 intro ds μ Q h
 replace h:=ecA h
 obtain ⟨d,ds,rfl,h⟩:=h
 replace h:=ecN h
 obtain ⟨rfl,h⟩:=h
 walk_at "ini"
 unfold pJ
 walk_at "go"
 obtain ⟨p,⟨rfl,P⟩,k⟩:=h
 have wl:=P.wl
 have sl:=P.sl
 walk_at "go"
 refine (show bI [.tup p.gd] μ _ from ⟨⟨P.gd,by show 2<=20;decide⟩,?_⟩)
 walk_at "go"
 intro q hq
 walk_at "go"
 refine kK p.ws WT.toD (λw=>.str (dY w.ds)) rfl (by omega) (λw hw μ' _ N m=>?_) ?_
 ·unfold WT.toD
  walk_at "go"
  refine ⟨by simp,?_⟩
  exact (show bI [.tup w.ds] _ _ from ⟨⟨(P.w w hw).pt,by show 6<=20;decide⟩,m⟩)
 walk_at "go"
 refine ⟨by simp;omega,?_⟩
 refine kK p.ss ST'.toD (λs=>.str (dY s.ds)) rfl (by omega) (λs hs μ' _ N m=>?_) ?_
 ·walk_at "go"
  exact ⟨s,⟨rfl,P.s s hs⟩,m⟩
 walk_at "go"
 refine ⟨by simp;omega,?_⟩
 refine ⟨p.rows,?_,Ww P.tot,?_⟩
 ·rw[← strs_map]
  congr 1
  unfold PT.rows
  rw[Vt,Vc,Vg,Vg]
  rfl
 ·rw[iG,t7 hq]
  exact ⟨_,.refl _,k⟩
abbrev iZ:FSp:=L3.aC
def tL:STr:=aD (aZ (aq jk (aq aY (aq aY (aq iN (aq L3.rIx (ah 0) (TC (.int 1))) (TC (.int 48271))) (aq iN (TC (.int 8191)) (aq L3.rIx (ah 0) (TC (.int 2))))) (TC (.int 17))) (TC (.int 2147483647))) (ax 3)) (aD (eT (ah 0) (TC (.int 1)) (aq jk (aq aY (aq iN (ah 3) (ah 3)) (aq L3.rIx (ah 0) (TC (.int 2)))) (TC (.int 2147483629)))) (aK (aq jk (aq kW (aq L3.rIx (ah 0) (TC (.int 1))) (TC (.int 13))) (ah 1))))
def z6:STr:=aD (bp (TB (aq rGt (aq L3.rIx (ah 0) (TC (.int 0))) (TC (.int 0)))) (aD (aZ (aq jk (aq L3.rIx (ah 0) (TC (.int 0))) (ah 1)) (ax 2)) (aD (eT (ah 0) (TC (.int 0)) (aq kW (aq L3.rIx (ah 0) (TC (.int 0))) (ah 1))) (aK (ah 2)))) (aU)) (aD (eT (ah 0) (TC (.int 2)) (aq aY (aq L3.rIx (ah 0) (TC (.int 2))) (TC (.int 1)))) (tL))
theorem uB:∀ ds μ Q,iZ ds μ Q->ds.length=2:=L3.Gh
theorem w4:∀ ds μ Q,iZ ds μ Q->z6 { nx:=λ_ μ'=>RT Q .non μ',rt:=RT Q } (ini 4 ds) μ:=L3.GC
abbrev jh:FSp:=L3.kb
def rV:STr:=aD (bp (TB (aq rEq (ah 2) (TC (.str "still")))) (aK (bw (af (ah 2) (af (ah 4) (ar))))) (aU)) (aD (aZ (ao L3.e9 (af (aq aY (TC (.int 1)) (ao L3.aC (af (ah 0) (af (TC (.int 6)) (ar))))) (af (aq aY (TC (.int 1)) (ao L3.aC (af (ah 0) (af (TC (.int 3)) (ar))))) (ar)))) (ax 5)) (aD (aZ (aq L3.rIx (fb (af (bw (af (TC (.int 1)) (af (TC (.int 2)) (ar)))) (af (bw (af (TC (.int 2)) (af (TC (.int 3)) (ar)))) (af (bw (af (TC (.int 1)) (af (TC (.int 7)) (ar)))) (af (bw (af (TC (.int 7)) (af (TC (.int 8)) (ar)))) (ar)))))) (ao L3.aC (af (ah 0) (af (TC (.int 4)) (ar))))) (ax 6)) (aD (bp (TB (aq rEq (ah 2) (TC (.str "swell")))) (aK (bw (af (ah 2) (af (ah 4) (af (ao L3.e9 (af (aq aY (aq L3.rIx (ah 5) (TC (.int 0))) (aq L3.rIx (ah 5) (TC (.int 1)))) (af (aq L3.rIx (ah 5) (TC (.int 1))) (ar)))) (af (ah 6) (af (ah 3) (ar)))))))) (aU)) (aD (bp (TB (aq rEq (ah 2) (TC (.str "heed")))) (aK (bw (af (ah 2) (af (ah 4) (af (ah 5) (af (aq L3.rIx (fb (af (ah 6) (af (bw (af (TC (.int 1)) (af (TC (.int 1)) (ar)))) (af (bw (af (TC (.int 1)) (af (TC (.int 16)) (ar)))) (ar))))) (ao L3.aC (af (ah 0) (af (TC (.int 3)) (ar))))) (af (ah 3) (ar)))))))) (aU)) (aD (bp (TB (aq rEq (ah 2) (TC (.str "calm")))) (aD (aZ (ao L3.aC (af (ah 0) (af (TC (.int 5)) (ar)))) (ax 7)) (aK (bw (af (ah 2) (af (ah 4) (af (ah 5) (af (ah 7) (af (aq aY (ah 7) (ao L3.aC (af (ah 0) (af (TC (.int 5)) (ar))))) (af (ah 3) (ar)))))))))) (aU)) (aK (bw (af (ah 2) (af (ah 4) (af (ah 5) (af (ah 6) (af (ah 3) (ar)))))))))))))
def As:STr:=aD (aZ (aq L3.rIx (fb (af (TC (.str "still")) (af (TC (.str "step")) (af (TC (.str "swell")) (af (TC (.str "heed")) (af (TC (.str "calm")) (ar))))))) (ao L3.aC (af (ah 0) (af (TC (.int 5)) (ar))))) (ax 2)) (aD (aZ (ao L3.cv (af (ah 0) (af (TC (.int 1)) (af (ah 1) (ar))))) (ax 3)) (aD (aZ (ao L3.cv (af (ah 0) (af (TC (.int 1)) (af (aq kW (aq L3.rIx (ah 3) (TC (.int 0))) (aq L3.rIx (ah 3) (TC (.int 1)))) (ar))))) (ax 4)) (rV)))
theorem uQ:∀ ds μ Q,jh ds μ Q->ds.length=2:=L3.Fd
theorem xI:∀ ds μ Q,jh ds μ Q->As { nx:=λ_ μ'=>RT Q .non μ',rt:=RT Q } (ini 8 ds) μ:=L3.GP
abbrev f9:FSp:=L3.i7
def oj:STr:=aD (aZ (aq L3.rIx (fb (af (aq aY (TC (.int 1)) (ao L3.aC (af (ah 0) (af (TC (.int 3)) (ar))))) (af (aq aY (TC (.int 1)) (ao L3.aC (af (ah 0) (af (TC (.int 8)) (ar))))) (ar)))) (aq kW (ao L3.aC (af (ah 0) (af (TC (.int 6)) (ar)))) (TC (.int 5)))) (ax 5)) (aD (aZ (aq L3.rIx (fb (af (TC .non) (af (ao L3.aC (af (ah 0) (af (TC (.int 25)) (ar)))) (ar)))) (ao L3.aC (af (ah 0) (af (TC (.int 2)) (ar))))) (ax 6)) (aK (bw (af (ah 1) (af (ah 4) (af (ah 5) (af (ao L3.aC (af (ah 0) (af (TC (.int 4)) (ar)))) (af (ah 6) (af (ao L3.kb (af (ah 0) (af (ah 3) (ar)))) (ar))))))))))
def va:STr:=aD (aZ (ao cO (af (cp (fk (ah 2)) (ax 0) (TB (aq rGt (ao L3.aC (af (ah 1) (af (TC (.int 3)) (ar)))) (TC (.int 0)))) (aq L3.rIx (ah 0) (TC (.int 0))) 1 [0]) (ar))) (ax 4)) (aD (bp (TB (aq rEq (ah 4) (bw (ar)))) (aZ (bw (af (aq L3.rIx (aq L3.rIx (ah 2) (ao L3.aC (af (ah 0) (af (ao cI (af (ah 2) (ar))) (ar))))) (TC (.int 0))) (ar))) (ax 4)) (aU)) (oj))
theorem qt:∀ ds μ Q,f9 ds μ Q->ds.length=4:=L3.BL
theorem rZ:∀ ds μ Q,f9 ds μ Q->va { nx:=λ_ μ'=>RT Q .non μ',rt:=RT Q } (ini 7 ds) μ:=L3.CJ
abbrev cK:Nat->FSp:=L3.kM
abbrev fV:FSp:=L3.Mr
def jV (sp_self:FSp):STr:=aD (bp (TB (aq rIs (ah 1) (TC .non))) (aK (aq rIs (ah 0) (TC .non))) (aU)) (aD (bp (TOr (TB (TUn (gm "list") (ah 1))) (TB (TUn (gm "tuple") (ah 1)))) (aD (bp (TB (aq rNe (TUn (gm "list") (ah 0)) (TUn (gm "list") (ah 1)))) (aK (TC (.bl false))) (aU)) (aD (bp (TB (aq rNe (TUn (gm "tuple") (ah 0)) (TUn (gm "tuple") (ah 1)))) (aK (TC (.bl false))) (aU)) (aD (bp (TB (aq rNe (ao cI (af (ah 0) (ar))) (ao cI (af (ah 1) (ar))))) (aK (TC (.bl false))) (aU)) (aK (ao yG (af (cp (Em (af (ah 0) (af (ah 1) (ar)))) (jJ [0,1]) (fe) (ao sp_self (af (ah 0) (af (ah 1) (ar)))) 2 []) (ar))))))) (aU)) (aD (bp (TB (TUn (gm "str") (ah 1))) (aK (dD (TUn (gm "str") (ah 0)) (aq rEq (ah 0) (ah 1)))) (aU)) (aK (dD (TUn (gm "int") (ah 0)) (dD (mS (TUn (gm "bool") (ah 0))) (aq rEq (ah 0) (ah 1)))))))
theorem S4:bu "tuple" "list" = false:=by decide +kernel
theorem Ru:bu "list" "list" = true:=by decide +kernel
theorem Sh:bu "str" "list" = false:=by decide +kernel
theorem Sy:bu "int" "list" = false:=by decide +kernel
theorem qm:∀ n ds μ Q,cK n ds μ Q->ds.length=2:=L3.C0
theorem sU (n:Nat):∀ ds μ Q,cK (n+1) ds μ Q->jV (cK n) { nx:=λ_ μ'=>RT Q .non μ',rt:=RT Q } (ini 2 ds) μ:=by
 intro ds μ Q h
 have h2:∃ x,ds=[x,x]/\pl n x=true/\Q (.bl true) μ:=by
  have h:j4 n ds μ Q:=h
  unfold j4 at h
  split at h
  ·obtain ⟨⟨rfl,hp⟩,k⟩:=h;exact ⟨_,rfl,hp,k⟩
  ·exact h.elim
 obtain ⟨x,rfl,hp,k⟩:=h2
 clear h
 walk_at "ini"
 unfold jV
 have fin:RT Q (.bl true) μ:=⟨_,.refl _,k⟩
 cases x with
 | non=>
  walk_at "go"
  exact fin
 | int i=>
  walk_at "go"
  simp only[Sy]
  walk_at "go"
  exact fin
 | str s=>
  walk_at "go"
  simp only[Sh]
  walk_at "go"
  have hs:UL s=true:=by cases n<;>simpa[pl] using hp
  exact ⟨hs,fin⟩
 | tup ds=>
  cases n with
  | zero=>simp[pl] at hp
  | succ n=>
  simp only[pl,UM,decide_eq_true_eq] at hp
  walk_at "go"
  simp only[S4]
  walk_at "go"
  exact Ew hp.1 hp.2 fin
 | ls ds=>
  cases n with
  | zero=>simp[pl] at hp
  | succ n=>
  simp only[pl,UM,decide_eq_true_eq] at hp
  walk_at "go"
  simp only[Ru]
  walk_at "go"
  exact Ew hp.1 hp.2 fin
 | _=>cases n<;>simp[pl] at hp
def cN:FSp:=λds μ Q=>kcA ds λd ds=>kcN ds (kY d/\Q (.str (shw d)) μ)
theorem qy:∀ ds μ Q,cN ds μ Q->ds.length=1:=λ_ _ _ h=>lcA h λ_ _ h=>by rw[(ecN h).1];rfl
def lM:STr:=aD (bp (TB (TUn (gm "int") (ah 0))) (aK (ao fu (af (ah 0) (ar)))) (aU)) (aD (bp (TB (aq rEq (aq L3.rIx (ah 0) (TC (.int 1))) (TC (.int 1)))) (aK (ao fu (af (aq L3.rIx (ah 0) (TC (.int 0))) (ar)))) (aU)) (aK (aq aY (aq aY (ao fu (af (aq L3.rIx (ah 0) (TC (.int 0))) (ar))) (TC (.str "/"))) (ao fu (af (aq L3.rIx (ah 0) (TC (.int 1))) (ar))))))
theorem tQ:∀ ds μ Q,cN ds μ Q->lM { nx:=λ_ μ'=>RT Q .non μ',rt:=RT Q } (ini 1 ds) μ:=by
 intro ds μ Q h
 replace h:=ecA h
 obtain ⟨d,ds,rfl,h⟩:=h
 replace h:=ecN h
 obtain ⟨rfl,h⟩:=h
 walk_at "ini"
 unfold lM
 walk_at "go"
 obtain ⟨h,k⟩:=h
 rcases h with ⟨i,rfl,h0,h1⟩ | ⟨a,b,rfl,⟨a0,a1⟩,b0,b1⟩
 ·walk_at "go"
  exact ⟨dR h0 h1,_,.refl _,k⟩
 ·have k:Q (.str (if b=1 then itS a else itS a++OF "/" ++ itS b)) μ:=k
  walk_at "go"
  refine kif (λh=>?_) λh=>?_
  ·rw[if_pos h] at k
   walk_at "go"
   exact ⟨dR a0 a1,_,.refl _,k⟩
  ·rw[if_neg h] at k
   have la:=nS a0 a1
   have lb:=nS b0 b1
   walk_at "go"
   refine ⟨dR a0 a1,by rw[nV];omega,dR b0 b1,by rw[Y3,nV];omega,?_⟩
   exact ⟨_,.refl _,k⟩
def fP:FSp:=λds μ Q=>kcA ds λd ds=>kcN ds (∃ p:PT,(d=p.toD/\p.Ok)/\Q (.ls (p.rows.map .str)) μ)
theorem Qy:oD none=.non:=rfl
theorem Ov (i:Int):oD (some i)=.int i:=rfl
theorem SE:(OF "grid ").length=5:=by decide +kernel
theorem vD:∀ ds μ Q,fP ds μ Q->ds.length=1:=λ_ _ _ h=>lcA h λ_ _ h=>by rw[(ecN h).1];rfl
def oY:STr:=aD (aZ (mh (af (aq aY (TC (.str "grid ")) (ao fu (af (aq L3.rIx (ah 0) (TC (.int 0))) (ar)))) (ar))) (ax 1)) (aD (oN (fk (aq L3.rIx (ah 0) (TC (.int 1)))) (jJ [2,3,4,5,6]) (aD (aZ (mh (af (TC (.str "way")) (af (ah 2) (af (ao fu (af (ah 3) (ar))) (af (ao fu (af (ah 4) (ar))) (af (TC (.str "-")) (af (ah 6) (ar)))))))) (ax 7)) (aD (bp (TB (aq iR (ah 5) (TC .non))) (eT (ah 7) (TC (.int 4)) (ao fu (af (ah 5) (ar)))) (aU)) (fA (mH (ah 1) (pP (TC (.str " ")) (uS (ah 7)))))))) (aD (oN (fk (aq L3.rIx (ah 0) (TC (.int 2)))) (jJ [2,8,9,10,11,12]) (aD (aZ (mh (af (TC (.str "sender")) (af (ah 2) (af (sC (TC (.str ",")) (ah 8)) (af (ao fu (af (ah 9) (ar))) (af (ao fu (af (ah 10) (ar))) (af (TC (.str "-")) (af (aq L3.rIx (ah 12) (TC (.int 0))) (ar))))))))) (ax 7)) (aD (bp (TB (aq iR (ah 11) (TC .non))) (eT (ah 7) (TC (.int 5)) (ao fu (af (ah 11) (ar)))) (aU)) (fA (mH (ah 1) (pP (TC (.str " ")) (aq aY (uS (ah 7)) (cp (fk (TSl (ah 12) (mP (TC (.int 1))) (ONo))) (ax 0) (fe) (ao cN (af (ah 0) (ar))) 1 [])))))))) (aK (uS (ah 1)))))
theorem xG:∀ ds μ Q,fP ds μ Q->oY { nx:=λ_ μ'=>RT Q .non μ',rt:=RT Q } (ini 13 ds) μ:=by
 intro ds μ Q h
 replace h:=ecA h
 obtain ⟨d,ds,rfl,h⟩:=h
 replace h:=ecN h
 obtain ⟨rfl,h⟩:=h
 walk_at "ini"
 unfold oY
 walk_at "go"
 obtain ⟨p,⟨rfl,P⟩,k⟩:=h
 have wl:=P.wl
 have sl:=P.sl
 walk_at "go"
 have lg:=nS P.g.l P.g.u
 refine ⟨dR P.g.l P.g.u,by rw[SE];omega,λq hq=>?_⟩
 rw[Kz]
 walk_at "go"
 refine eI (λr ρ μ'=>∃ (dn rs:List WT) (v2 v3 v4 v5 v6 v7:Option D),r=rs.map WT.toD/\dn++rs=p.ws/\ρ=[some p.toD,some (.obj q),v2,v3,v4,v5,v6,v7,none,none,none,none,none]/\μ'=up μ q (.lst (.str (dY p.gd)::dn.map λw=>.str (dY w.ds)))) ?_ ?_ _ _ _ ⟨[],p.ws,_,_,_,_,_,_,rfl,rfl,rfl,rfl⟩
 rotate_left
 ·rintro d r ρ μ' N ⟨dn,rs,v2,v3,v4,v5,v6,v7,er,es,rfl,rfl⟩ hN
  cases rs with
  | nil=>cases er
  | cons w rs=>
  cases er
  have hw:w∈p.ws:=by rw[← es];simp
  have W:=P.w w hw
  have dl:dn.length+(rs.length+1)=p.ws.length:=by rw[← es];simp
  generalize hμ:up μ q (.lst (.str (dY p.gd)::dn.map λw=>.str (dY w.ds)))=μ1 at *
  have e1:μ1 q=some (.lst (.str (dY p.gd)::dn.map λw=>.str (dY w.ds))):=by rw[← hμ];exact bh
  have fin:∀ (t:Addr) (ht:μ1 t=none) (L:List D),gB L=some (w.ds.map shw)->kL (up μ1 t (.lst L)) q λ_=>∃ zs,gB L=some zs/\JoinOk (OF " ") zs=true/\kL (L3.dn (up μ1 t (.lst L)) t) q λds1=>ds1.length < 1000000/\N [some p.toD,some (.obj q),some (.str w.nm),some (.int w.p),some (.int w.r),some (oD w.m),some (.str w.so),some (.obj t),none,none,none,none,none] (up (L3.dn (up μ1 t (.lst L)) t) q (.lst (ds1++[.str (Txt.join (OF " ") zs)]))):=by
   intro t ht L hL
   have tq:t≠q:=λz=>by subst z;rw[e1] at ht;cases ht
   refine e7 (by rw[bQ (Vq tq)];exact e1) ⟨_,hL,Ww (Vy (qN W.pt (by show 6<=20;decide)) (by decide)),?_⟩
   rw[t7 ht]
   refine e7 e1 ⟨by simp;omega,hN _ _ ⟨dn++[w],rs,_,_,_,_,_,_,rfl,by rw[← es];simp,rfl,?_⟩⟩
   rw[← hμ,lF,iG,Vc]
   rfl
  unfold WT.toD
  walk_at "go"
  refine ⟨dR W.p.l W.p.u,dR W.r.l W.r.u,λt ht=>?_⟩
  have fi:=fin t ht
  cases hm:w.m with
  | none=>
   have ez:w.ds.map shw=[OF "way", w.nm,itS w.p,itS w.r,OF "-", w.so]:=by unfold WT.ds;rw[hm];rfl
   rw[hm] at fi
   rw[Qy] at fi ⊢
   walk_at "go"
   exact fi _ (by rw[ez];rfl)
  | some i=>
   have ez:w.ds.map shw=[OF "way", w.nm,itS w.p,itS w.r,itS i,w.so]:=by unfold WT.ds;rw[hm];rfl
   have I:=W.m i hm
   rw[hm] at fi
   rw[Ov] at fi ⊢
   walk_at "go"
   refine ⟨dR I.l I.u,?_⟩
   refine (show kN (some 4) _ from ?_)
   walk_at "go"
   exact fi _ (by rw[ez];rfl)
 rintro ρ μ' ⟨dw,rw',v2,v3,v4,v5,v6,v7,er,es,rfl,rfl⟩
 cases rw' with
 | cons _ _=>cases er
 | nil=>
 rw[Ve] at es
 subst es
 walk_at "go"
 refine eI (λr ρ μ'=>∃ (dn rs:List ST') (v2 v7 v8 v9 v10 v11 v12:Option D),r=rs.map ST'.toD/\dn++rs=p.ss/\ρ=[some p.toD,some (.obj q),v2,v3,v4,v5,v6,v7,v8,v9,v10,v11,v12]/\μ'=up μ q (.lst (.str (dY p.gd)::(p.ws.map λw=>.str (dY w.ds))++dn.map λs=>.str (dY s.ds)))) ?_ ?_ _ _ _ ⟨[],p.ss,_,_,_,_,_,_,_,rfl,rfl,rfl,by rw[Yz,Ve]⟩
 ·rintro ρ μ' ⟨dn,rs,v2,v7,v8,v9,v10,v11,v12,er,es,rfl,rfl⟩
  cases rs with
  | cons _ _=>cases er
  | nil=>
  rw[Ve] at es
  subst es
  walk_at "go"
  rw[t7 hq]
  refine ⟨_,.refl _,?_⟩
  have er:p.rows.map D.str=.str (dY p.gd)::(p.ws.map (λw=>D.str (dY w.ds))++p.ss.map λs=>D.str (dY s.ds)):=by
   unfold PT.rows
   rw[Vt,Vc,Vg,Vg]
   rfl
  rw[er] at k
  exact k
 ·rintro d r ρ μ' N ⟨dn,rs,v2,v7,v8,v9,v10,v11,v12,er,es,rfl,rfl⟩ hN
  cases rs with
  | nil=>cases er
  | cons s rs=>
  cases er
  have hs:s∈p.ss:=by rw[← es];simp
  have S:=P.s s hs
  have dl:dn.length+(rs.length+1)=p.ss.length:=by rw[← es];simp
  generalize hμ:up μ q (.lst (.str (dY p.gd)::(p.ws.map λw=>.str (dY w.ds))++dn.map λs=>.str (dY s.ds)))=μ1 at *
  have e1:μ1 q=some (.lst (.str (dY p.gd)::(p.ws.map λw=>.str (dY w.ds))++dn.map λs=>.str (dY s.ds))):=by rw[← hμ];exact bh
  unfold ST'.toD
  walk_at "go"
  have tb:=me (n:=8) (m:=8) (k:=1) (sep:=OF ",") (zs:=s.rd) (λz k=>(S.r z k).l) S.rl (by rw[hZ];decide)
  refine ⟨s.rd,strs_map _,by omega,dR S.b.l S.b.u,dR S.g.l S.g.u,λt ht=>?_⟩
  rw[iG]
  have tq:t≠q:=λz=>by subst z;rw[e1] at ht;cases ht
  have pl:=S.pl
  have fin:∀ (zs0:List Str),zs0++s.ps.map shw=s.ds.map shw->zs0.length<=7->kL (up μ1 t (.lst (zs0.map .str))) q λ_=>wU (ax 0) fe (ao cN (af (ah 0) ar)) [none] (cutD (.str s.wd::s.ps) (some 1) none) (L3.dn (up μ1 t (.lst (zs0.map .str))) t) λy1 μ2=>L3.aY (.ls (zs0.map .str)) y1 μ2 λy μ2=>kLz y λds=>∃ zs,gB ds=some zs/\JoinOk (OF " ") zs=true/\kL μ2 q λds=>ds.length < 1000000/\N [some p.toD,some (.obj q),some (.str s.nm),v3,v4,v5,v6,some (.obj t),some (.tup (s.rd.map .str)),some (.int s.bt),some (.int s.bg),some (oD s.mn),some (.tup (.str s.wd::s.ps))] (up μ2 q (.lst (ds++[.str (Txt.join (OF " ") zs)]))):=by
   intro zs0 ez zl
   refine e7 (by rw[bQ (Vq tq)];exact e1) ?_
   rw[t7 ht,show cutD (D.str s.wd::s.ps) (some 1) none=s.ps from kG (D.str s.wd::s.ps) 1]
   refine comp_map (λd=>.str (shw d)) (by omega) (λd hd μ' _ N m=>?_) ?_
   ·walk_at "go"
    exact ⟨S.p d hd,m⟩
   walk_at "go"
   refine ⟨by rw[UJ,UJ];omega,s.ds.map shw,?_,Ww (Vy (qN S.pt (Df S)) (by decide)),?_⟩
   ·rw[← ez,← strs_map,Vc,Vg]
    rfl
   refine e7 e1 ⟨by simp;omega,hN _ _ ⟨dn++[s],rs,_,_,_,_,_,_,_,rfl,by rw[← es];simp,rfl,?_⟩⟩
   rw[← hμ,lF,iG,Vc,← V7]
   rfl
  cases hm:s.mn with
  | none=>
   have fi:=fin [OF "sender", s.nm,Vk (OF ",") s.rd,itS s.bt,itS s.bg,OF "-", s.wd] (by unfold ST'.ds;rw[hm,Vc];rfl) (by simp)
   rw[hm,Qy] at fi
   rw[Qy]
   walk_at "go"
   exact fi
  | some i=>
   have fi:=fin [OF "sender", s.nm,Vk (OF ",") s.rd,itS s.bt,itS s.bg,itS i,s.wd] (by unfold ST'.ds;rw[hm,Vc];rfl) (by simp)
   have I:=S.m i hm
   rw[hm,Ov] at fi
   rw[Ov]
   walk_at "go"
   refine ⟨dR I.l I.u,?_⟩
   refine (show kN (some 5) _ from ?_)
   walk_at "go"
   exact fi
theorem f9c {a b:Int}(h:(decide (0<=a)&&decide (a < 1000000000)&&decide (1<=b)&&decide (b < 1000000000)&&decide (Vx a b=1))=true):F9 a b:=by
 simp only[UM,decide_eq_true_eq] at h
 obtain ⟨⟨⟨⟨h1,h2⟩,h3⟩,h4⟩,h5⟩:=h
 exact ⟨⟨h1,h2⟩,⟨by omega,h4⟩,h3,h5⟩
theorem n9c {i:Int}(h:(decide (0<=i)&&decide (i < 1000000000))=true):N9 i:=by
 simp only[UM,decide_eq_true_eq] at h
 exact ⟨h.1,h.2⟩
theorem SI {d:D}(h:G9 d):kY d:=by
 rcases h with ⟨a,b,rfl,F⟩ | ⟨i,rfl,n⟩
 ·exact .inr ⟨a,b,rfl,⟨F.na.l,by have:=F.na.u;omega⟩,F.nb.l,by have:=F.nb.u;omega⟩
 ·exact .inl ⟨i,rfl,n.l,by have:=n.u;omega⟩
theorem NC:∀ z∈b8,UL z=true/\z.length<=8:=by decide +kernel
theorem Kd.ok {w:Str}{ps:List D}(h:Kd w ps):nZ w/\(∀ d∈ps,kY d)/\ps.length<=6:=by
 obtain ⟨_,gs,l5,w5⟩:=h.tab
 exact ⟨⟨(NC w w5).1,(NC w w5).2⟩,λd hd=>SI (gs d hd),by omega⟩
theorem RuK:∀ d∈([.tup [.str "still", fr 60 1],.tup [.str "step", fr 59 1,fr 60 1,fr 999999998 999999999,fr 119 2],.tup [.str "calm", fr 1 1,fr 1 999999999,.int 0,.int 60,fr 60 1],.tup [.str "swell", fr 13 7,fr 61 60,fr 1 60,fr 60 1]]:List D),∃ (wd:Str) (ps:List D),d=.tup (.str wd::ps)/\Kd wd ps/\gq (.tup (.str wd::ps))=true:=by
 refine av ⟨_,_,rfl,.iw (f9c (by decide +kernel)),by decide +kernel⟩ (av ⟨_,_,rfl,.step (f9c (by decide +kernel)) (f9c (by decide +kernel)) (f9c (by decide +kernel)) (f9c (by decide +kernel)),by decide +kernel⟩ (av ⟨_,_,rfl,.calm (f9c (by decide +kernel)) (f9c (by decide +kernel)) (n9c (by decide +kernel)) (n9c (by decide +kernel)) (f9c (by decide +kernel)),by decide +kernel⟩ (av ⟨_,_,rfl,.jn (f9c (by decide +kernel)) (f9c (by decide +kernel)) (f9c (by decide +kernel)) (f9c (by decide +kernel)),by decide +kernel⟩ bo)))
structure SG (ns:List Str) (s:ST'):Prop where
 ok:s.Ok
 b:b7 ns s.toD=true
 sl:s.rd.Sublist ns/\s.rd≠[]
 kd:Kd s.wd s.ps
theorem Uw:kA 20:=⟨by decide,by decide⟩
theorem S7:kA 60:=⟨by decide,by decide⟩
theorem nu8:kA 8:=⟨by decide,by decide⟩
theorem nuM:kA 1000000:=⟨by decide,by decide⟩
def dP:FSp:=λds μ Q=>kcO ds λb ds=>kcA ds λd ds=>kcN ds (∃ p:PT,(Box μ b/\d=p.toD/\PR9 p)/\∀ (p':PT) μ',PR9 p'->Q p'.toD μ')
theorem oz:∀ ds μ Q,dP ds μ Q->ds.length=2:=λ_ _ _ h=>lcO h λ_ _ h=>lcA h λ_ _ h=>by rw[(ecN h).1];rfl
def jQ:STr:=aD (aZ (ah 1) (jJ [2,3,4])) (aD (aZ (ao cO (af (cp (fk (ah 3)) (ax 0) (fe) (bw (af (aq L3.rIx (ah 0) (TC (.int 0))) (af (TC (.int 20)) (af (TC (.int 60)) (af (aq L3.rIx (fb (af (TC .non) (af (TC (.int 60)) (af (TC (.int 0)) (ar))))) (ao L3.aC (af (ah 1) (af (TC (.int 3)) (ar))))) (af (aq L3.rIx (ah 0) (TC (.int 4))) (ar))))))) 1 [0]) (ar))) (ax 3)) (aD (aZ (fb (af (bw (af (TC (.str "still")) (af (bw (af (TC (.int 60)) (af (TC (.int 1)) (ar)))) (ar)))) (af (bw (af (TC (.str "step")) (af (bw (af (TC (.int 59)) (af (TC (.int 1)) (ar)))) (af (bw (af (TC (.int 60)) (af (TC (.int 1)) (ar)))) (af (bw (af (TC (.int 999999998)) (af (TC (.int 999999999)) (ar)))) (af (bw (af (TC (.int 119)) (af (TC (.int 2)) (ar)))) (ar))))))) (ar)))) (ax 5)) (aD (aZ (aq aY (ah 5) (fb (af (bw (af (TC (.str "calm")) (af (bw (af (TC (.int 1)) (af (TC (.int 1)) (ar)))) (af (bw (af (TC (.int 1)) (af (TC (.int 999999999)) (ar)))) (af (TC (.int 0)) (af (TC (.int 60)) (af (bw (af (TC (.int 60)) (af (TC (.int 1)) (ar)))) (ar)))))))) (af (bw (af (TC (.str "swell")) (af (bw (af (TC (.int 13)) (af (TC (.int 7)) (ar)))) (af (bw (af (TC (.int 61)) (af (TC (.int 60)) (ar)))) (af (bw (af (TC (.int 1)) (af (TC (.int 60)) (ar)))) (af (bw (af (TC (.int 60)) (af (TC (.int 1)) (ar)))) (ar))))))) (ar))))) (ax 5)) (aD (aZ (mh (ar)) (ax 6)) (aD (oN (fk (ah 4)) (jJ [7,8,9,10,11,12]) (aD (aZ (aq L3.rIx (fb (af (TC .non) (af (aq Cw (TC (.int 10)) (TC (.int 6))) (af (TC (.int 0)) (ar))))) (ao L3.aC (af (ah 0) (af (TC (.int 3)) (ar))))) (ax 11)) (fA (mH (ah 6) (bw (af (ah 7) (af (ah 8) (af (TC (.int 8)) (af (aq Cw (TC (.int 10)) (TC (.int 6))) (af (ah 11) (af (aq L3.rIx (ah 5) (ao L3.aC (af (ah 0) (af (TC (.int 4)) (ar))))) (ar)))))))))))) (aK (bw (af (TC (.int 60)) (af (ah 3) (af (ao cO (af (ah 6) (ar))) (ar)))))))))))
theorem qu:∀ ds μ Q,dP ds μ Q->jQ { nx:=λ_ μ'=>RT Q .non μ',rt:=RT Q } (ini 13 ds) μ:=by
 intro ds μ Q h
 replace h:=ecO h
 obtain ⟨b,ds,rfl,h⟩:=h
 replace h:=ecA h
 obtain ⟨d,ds,rfl,h⟩:=h
 replace h:=ecN h
 obtain ⟨rfl,h⟩:=h
 walk_at "ini"
 unfold jQ
 walk_at "go"
 obtain ⟨p,⟨hB,rfl,R⟩,k⟩:=h
 have P:=R.good
 have wl:=P.ok.wl
 have sl:=P.ok.sl
 rw[show p.toD=.tup [.int p.g,.tup (p.ws.map WT.toD),.tup (p.ss.map ST'.toD)] from rfl]
 walk_at "go"
 refine nc hB (λr ys=>∃ (rs wl:List WT),r=rs.map WT.toD/\ys=wl.map WT.toD/\(∀ w∈rs,w.Ok/\dW w.toD=true)/\(∀ w∈wl,w.Ok/\dW w.toD=true)/\wl.map WT.nm++rs.map WT.nm=p.ws.map WT.nm) ⟨p.ws,[],rfl,rfl,(λw h=>⟨P.ok.w w h,P.w w h⟩),(λ_ h=>nomatch h),rfl⟩ (by simp;omega) ?_ ?_
 ·rintro d r ys μ' hB' ⟨rs,wl,er,rfl,hr,hw,hl⟩ N hN
  cases rs with
  | nil=>cases er
  | cons x rs=>
  cases er
  obtain ⟨X,Xb⟩:=hr x UK
  have Xb:(nmS x.nm&&(wiI 1 20 (.int x.p)&&(wiI 1 60 (.int x.r)&&(nwB 60 (oD x.m)&&soB (.str x.so)))))=true:=Xb
  simp only[UM,and_assoc] at Xb
  unfold WT.toD
  walk_at "go"
  refine ytk hB' (by decide) (by decide) λc μ2 c0 c1 B2=>?_
  have al3:∀ d∈([.non,.int 60,.int 0]:List D),MkN 60 d:=av qR (av (iV (by decide) (by decide) (by decide)) (av (iV (by decide) (by decide) (by decide)) bo))
  obtain ⟨_,e3,m,rfl,hm⟩:=dj al3 c0 c1
  walk_at "go"
  refine fL e3 ?_
  refine hN (some (WT.toD ⟨x.nm,20,60,m,x.so⟩)) _ ⟨rs,wl++[⟨x.nm,20,60,m,x.so⟩],rfl,by simp,(λy q=>hr y (UN _ q)),λy hy=>?_,by rw[← hl,Vc];simp⟩ B2
  rcases Vo.mp hy with (q | q)
  ·exact hw y q
  ·rw[UZ.mp q]
   refine ⟨⟨X.n,Uw,S7,λi e=>(hm i e).1,X.s⟩,?_⟩
   show (nmS x.nm&&(wiI 1 20 (.int 20)&&(wiI 1 60 (.int 60)&&(nwB 60 (oD m)&&soB (.str x.so)))))=true
   rw[Xb.1,EB hm,Xb.2.2.2.2];rfl
 rintro ys μ1 ⟨rs,ws,er,rfl,_,hw,hl⟩ B1
 cases rs with
 | cons _ _=>cases er
 | nil=>
 rw[Yz,Ve] at hl
 have wl':ws.length=p.ws.length:=by have:=congrArg VQ hl;rw[UJ,UJ] at this;exact this
 walk_at "go"
 refine ⟨by simp,λq hq=>?_⟩
 have qb:=NF B1.box hq
 refine eI (λr ρ μ'=>∃ (rs sn:List ST') (v7 v8 v9 v10 v11 v12:Option D),r=rs.map ST'.toD/\(∀ s∈rs,s.Ok/\b7 (p.ws.map WT.nm) s.toD=true/\s.rd.Sublist (p.ws.map WT.nm)/\s.rd≠[])/\(∀ s∈sn,SG (p.ws.map WT.nm) s)/\sn.map ST'.nm++rs.map ST'.nm=p.ss.map ST'.nm/\ρ=[some (.obj b),_,_,some (.tup (ws.map WT.toD)),_,some (.ls [.tup [.str "still", fr 60 1],.tup [.str "step", fr 59 1,fr 60 1,fr 999999998 999999999,fr 119 2],.tup [.str "calm", fr 1 1,fr 1 999999999,.int 0,.int 60,fr 60 1],.tup [.str "swell", fr 13 7,fr 61 60,fr 1 60,fr 60 1]]),some (.obj q),v7,v8,v9,v10,v11,v12]/\μ' q=some (.lst (sn.map ST'.toD))/\Box μ' b) ?_ ?_ _ _ _ ⟨p.ss,[],_,_,_,_,_,_,rfl,(λs h=>⟨P.ok.s s h,P.s s h,P.sl s h⟩),(λ_ h=>nomatch h),rfl,rfl,bh,Ee B1.box qb⟩
 ·rintro ρ μ' ⟨rs,sn,v7,v8,v9,v10,v11,v12,er,_,hs,hl2,rfl,eq,hB'⟩
  cases rs with
  | cons _ _=>cases er
  | nil=>
  rw[Yz,Ve] at hl2
  have sl':sn.length=p.ss.length:=by have:=congrArg VQ hl2;rw[UJ,UJ] at this;exact this
  walk_at "go"
  refine e7 eq ?_
  refine ⟨_,.refl _,k ⟨60,ws,sn⟩ _ ⟨⟨⟨S7,λw h=>(hw w h).1,λs h=>(hs s h).ok,by show ws.length<=8;omega,by show sn.length<=8;omega⟩,(show (1:Int)<=60 by decide),(show (60:Int)<=60 by decide),by show 1<=ws.length;have:=P.w1;omega,by show ws.length<=6;have:=P.w6;omega,λw h=>(hw w h).2,by show (ws.map WT.nm).Nodup;rw[hl];exact P.wn,by show sn.length<=8;omega,λs h=>?_,by show (sn.map ST'.nm).Pairwise _;rw[hl2];exact P.sn,λs h=>?_⟩,λs h=>(hs s h).kd⟩⟩
  ·show b7 (ws.map WT.nm) _=true
   rw[hl];exact (hs s h).b
  ·show s.rd.Sublist (ws.map WT.nm)/\_
   rw[hl];exact (hs s h).sl
 ·rintro d r ρ μ' N ⟨rs,sn,v7,v8,v9,v10,v11,v12,er,hr,hs,hl2,rfl,eq,hB'⟩ hN
  cases rs with
  | nil=>cases er
  | cons s rs=>
  cases er
  have sl':sn.length<=8:=by have:=congrArg VQ hl2;rw[UY,UJ,UJ,UJ] at this;omega
  obtain ⟨S,Sb,Ssl⟩:=hr s UK
  obtain ⟨b1,b2,_,_,_,_⟩:=uc Sb
  unfold ST'.toD
  walk_at "go"
  refine ⟨⟨by decide,by decide,by decide⟩,?_⟩
  refine ytk hB' (by decide) (by decide) λc μ2 c0 c1 B2=>?_
  have al3:∀ d∈([.non,.int 1000000,.int 0]:List D),MkN 1000000 d:=av qR (av (iV (by decide) (by decide) (by decide)) (av (iV (by decide) (by decide) (by decide)) bo))
  obtain ⟨_,e3,m,rfl,hm⟩:=dj al3 c0 c1
  walk_at "go"
  refine fL e3 ?_
  walk_at "go"
  refine e7 (by rw[B2.oth q qb];exact eq) ?_
  walk_at "go"
  refine ⟨⟨by decide,by decide,by decide⟩,?_⟩
  refine ytk B2.box (by decide) (by decide) λc4 μ3 c40 c41 B3=>?_
  obtain ⟨_,e4,wd,ps,rfl,KD,RB⟩:=dj RuK c40 c41
  walk_at "go"
  refine fL e4 ?_
  refine e7 (by rw[B3.oth q qb,B2.oth q qb];exact eq) ⟨by rw[UJ];omega,hN _ _ ⟨rs,sn++[⟨s.nm,s.rd,8,1000000,m,wd,ps⟩],_,_,_,_,_,_,rfl,(λy q=>hr y (UN _ q)),λy hy=>?_,by rw[← hl2,Vc];simp,rfl,by rw[bh,Vc];rfl,Ee B3.box qb⟩⟩
  rcases Vo.mp hy with (z | z)
  ·exact hs y z
  ·rw[UZ.mp z]
   obtain ⟨k1,k2,k3⟩:=KD.ok
   refine ⟨⟨S.n,S.r,S.rl,nu8,nuM,λi e=>(hm i e).1,k1,k2,k3⟩,?_,Ssl,KD⟩
   show (nmS s.nm&&(jC (p.ws.map WT.nm) (.tup (s.rd.map .str))&&(wiI 1 8 (.int 8)&&(wiI 0 1000000 (.int 1000000)&&(nwB 1000000 (oD m)&&gq (.tup (.str wd::ps)))))))=true
   rw[b1,b2,EB hm,RB];rfl
theorem Cs {n:Nat}{ds:List D}(h:∀ d∈ds,pl n d=true):pls n ds=true:=by
 induction ds with
 | nil=>rfl
 | cons d r ih=>unfold pls;rw[h d UK,ih λx hx=>h x (UN _ hx)];rfl
theorem km {n:Nat}{ds:List D}(h:∀ d∈ds,pl n d=true)(hl:ds.length<=1000):pl (n+1) (.tup ds)=true:=by
 show (decide (ds.length<=999999)&&pls n ds)=true
 rw[decide_eq_true (by omega),Cs h];rfl
theorem sv {n:Nat}{z:Str}(h:UL z=true):pl n (.str z)=true:=by cases n<;>exact h
theorem jY {n:Nat}(i:Int):pl n (.int i)=true:=by cases n<;>rfl
theorem RZ {n:Nat}(o:Option Int):pl n (oD o)=true:=by cases o<;>cases n<;>rfl
theorem Ri {n:Nat}{d:D}(h:kY d):pl (n+1) d=true:=by
 rcases h with ⟨i,rfl,_⟩ | ⟨a,b,rfl,_⟩
 ·exact jY i
 ·exact km (av (jY a) (av (jY b) bo)) (by simp)
theorem O1 {w:WT}(h:w.Ok):pl 3 w.toD=true:=km (av (sv h.n.o) (av (jY _) (av (jY _) (av (RZ _) (av (sv h.s.o) bo))))) (by simp)
theorem MZ {s:ST'}(h:s.Ok):pl 3 s.toD=true:=km (av (sv h.n.o) (av (km (λd hd=>by obtain ⟨z,hz,rfl⟩:=U3.mp hd;exact sv (h.r z hz).o) (by rw[UJ];have:=h.rl;omega)) (av (jY _) (av (jY _) (av (RZ _) (av (km (av (sv h.w.o) λd hd=>Ri (h.p d hd)) (by simp;have:=h.pl;omega)) bo)))))) (by simp)
theorem Ez {p:PT}(h:p.Ok):pl 5 p.toD=true:=km (av (jY _) (av (km (n:=3) (λd hd=>by obtain ⟨w,hw,rfl⟩:=U3.mp hd;exact O1 (h.w w hw)) (by rw[UJ];have:=h.wl;omega)) (av (km (n:=3) (λd hd=>by obtain ⟨w,hw,rfl⟩:=U3.mp hd;exact MZ (h.s w hw)) (by rw[UJ];have:=h.sl;omega)) bo))) (by simp)
theorem fq {lo hi p q:Int}(h:FrB lo hi p q)(l0:0<=lo)(h1:hi<=60):F9 p q:=by
 have q0:=h.q0
 have q1:=h.q1
 have:=h.ge
 have:=h.le
 have:0<=lo*q:=zab l0 (by omega)
 have:hi*q<=60*q:=Vw h1 (by omega)
 exact ⟨⟨by omega,by omega⟩,⟨by omega,by omega⟩,by omega,h.g⟩
theorem SY {w:Str}{ps:List D}(h:p9 w (.tup (.str w::ps))):Kd w ps:=by
 generalize e:(D.tup (.str w::ps))=d at h
 cases h with
 | iw a=>cases e;exact .iw (fq a (by decide) (by decide))
 | calm a t _ u l0 lh h1=>cases e;exact .calm (fq a (by decide) (by decide)) (fq u.toFrB (by decide) (by decide)) ⟨l0,by omega⟩ ⟨by omega,by omega⟩ (fq t (by decide) (by decide))
 | yL a t _ u g=>cases e;exact .yL (fq a (by decide) (by decide)) (fq u.toFrB (by decide) (by decide)) (fq g.toFrB (by decide) (by decide)) (fq t (by decide) (by decide))
 | step a t _ u g=>cases e;exact .step (fq a (by decide) (by decide)) (fq u.toFrB (by decide) (by decide)) (fq g.toFrB (by decide) (by decide)) (fq t (by decide) (by decide))
 | jn a t _ u g=>cases e;exact .jn (fq a (by decide) (by decide)) (fq u.toFrB (by decide) (by decide)) (fq g.toFrB (by decide) (by decide)) (fq t (by decide) (by decide))
def cV:FSp:=λds μ Q=>kcA ds λd ds=>kcN ds (∃ p:PT,(d=p.toD/\PR9 p)/\Q (.bl true) μ)
theorem vm:∀ ds μ Q,cV ds μ Q->ds.length=1:=λ_ _ _ h=>lcA h λ_ _ h=>by rw[(ecN h).1];rfl
def o7:STr:=aD (aZ (pP (TC (.str "\n")) (ao fP (af (ah 0) (ar)))) (ax 1)) (aD (bp (TOr (bL (TB (ao fV (af (ao cY (af (ah 1) (ar))) (af (ah 0) (ar)))))) (TB (aq rNe (ao eB (af (ah 0) (ar))) (ah 1)))) (aK (TC (.bl false))) (aU)) (aK (ao fV (af (ao cY (af (ao eB (af (ao cY (af (ah 1) (ar))) (ar))) (ar))) (af (ah 0) (ar))))))
theorem yF:∀ ds μ Q,cV ds μ Q->o7 { nx:=λ_ μ'=>RT Q .non μ',rt:=RT Q } (ini 2 ds) μ:=by
 intro ds μ Q h
 replace h:=ecA h
 obtain ⟨d,ds,rfl,h⟩:=h
 replace h:=ecN h
 obtain ⟨rfl,h⟩:=h
 walk_at "ini"
 unfold o7
 walk_at "go"
 obtain ⟨p,⟨rfl,R⟩,k⟩:=h
 have P:=R.good.ok
 refine ⟨p,⟨rfl,P⟩,?_⟩
 walk_at "go"
 refine ⟨p.rows,strs_map _,Ww P.tot,?_⟩
 rw[iG]
 walk_at "go"
 refine ⟨p,⟨rfl,R⟩,?_⟩
 walk_at "go"
 refine ⟨⟨rfl,Ez P⟩,?_⟩
 walk_at "go"
 refine ⟨p,⟨rfl,P⟩,?_⟩
 walk_at "go"
 refine ⟨⟨P.txt,P.txt⟩,?_⟩
 refine JF rfl ?_
 refine ⟨p,⟨rfl,R⟩,?_⟩
 walk_at "go"
 refine ⟨p,⟨rfl,P⟩,?_⟩
 walk_at "go"
 refine ⟨p,⟨rfl,R⟩,?_⟩
 walk_at "go"
 exact ⟨⟨rfl,Ez P⟩,_,.refl _,k⟩
abbrev hC:FSp:=L3.hC
theorem yy:∀ ds μ Q,hC ds μ Q->ds.length=1:=L3.yy
def HY:STr:=aD (oN (iI (aq aY (TC (.int 1)) (ao cI (af (TSl (ah 0) (ONo) (mP (TC (.int 20)))) (ar))))) (ax 1) (aD (aZ (ao L3.qF (af (ah 0) (af (ah 1) (ar)))) (ax 2)) (aD (aZ (ao L3.mW (af (ah 2) (af (TC (.int 60)) (af (TC (.int 8)) (ar))))) (ax 3)) (bp (TOr (bL (TB (ao cV (af (ah 3) (ar))))) (TOr (bL (TB (ao cV (af (ao dP (af (ah 2) (af (ah 3) (ar)))) (ar))))) (bL (TB (ao cV (af (ah 3) (ar))))))) (aK (TC (.bl false))) (aU))))) (aK (TC (.bl true)))
theorem OY:∀ ds μ Q,hC ds μ Q->HY { nx:=λ_ μ'=>RT Q .non μ',rt:=RT Q } (ini 4 ds) μ:=by
 intro ds μ Q h
 replace h:=ecL h
 obtain ⟨_,ds,rfl,h⟩:=h
 replace h:=ecN h
 obtain ⟨rfl,h⟩:=h
 obtain ⟨⟨ns,rfl,hn⟩,k⟩:=h
 walk_at "ini"
 unfold HY
 walk_at "go"
 have ec:(cutD (ns.map D.int) none (some 20)).length<=20:=by
  rw[show cutD (ns.map D.int) none (some 20)=(ns.map D.int).take 20 from Nf (ns.map D.int) 20,X7]
  exact Yn _ _
 refine ⟨⟨by omega,by omega⟩,?_⟩
 refine eI (λr ρ μ'=>∃ (v1 v2 v3:Option D),ρ=[some (.ls (ns.map .int)),v1,v2,v3]/\∀ d∈r,IsI 0 20 d) ?_ ?_ _ _ _ ⟨_,_,_,rfl,λd hd=>by obtain ⟨j,rfl,j0,j1⟩:=B0 hd;exact ⟨j,rfl,j0,by omega⟩⟩
 ·rintro ρ μ' ⟨v1,v2,v3,rfl,_⟩
  walk_at "go"
  exact ⟨_,.refl _,k _⟩
 ·rintro d r ρ μ' N ⟨v1,v2,v3,rfl,hI⟩ hN
  obtain ⟨i,rfl,i0,i1⟩:=hI _ UK
  have hI':=λd hd=>hI d (UN _ hd)
  walk_at "go"
  refine ⟨⟨ns,rfl,i0,by omega⟩,λb μ1 hb hB oth=>?_⟩
  walk_at "go"
  refine ⟨⟨hB,⟨by decide,by decide⟩,by decide,by decide⟩,λp μ2 P RU B2=>?_⟩
  have R:PR9 p:=⟨P,λs hs=>SY (RU s hs)⟩
  walk_at "go"
  refine ⟨p,⟨rfl,R⟩,?_⟩
  walk_at "go"
  refine ⟨p,⟨B2.box,rfl,R⟩,λp' μ3 R'=>?_⟩
  refine ⟨p',⟨rfl,R'⟩,?_⟩
  walk_at "go"
  refine ⟨p,⟨rfl,R⟩,?_⟩
  walk_at "go"
  exact hN _ _ ⟨_,_,_,rfl,hI'⟩
theorem oK (ns:List Int)(h:ns.length<=63)(μ:Mu):hC [.ls (ns.map .int)] μ (λd _=>d=.bl true):=L3.oK ns h μ
end Kk
namespace Kk
open PySem L2 L3
theorem Q6 {α:Type}{us:List α}(h:us.length=1):∃ x0,us=[x0]:=match us,h with | [x0],_=>⟨x0,rfl⟩
theorem Si {α:Type}{us:List α}(h:us.length=2):∃ x0 x1,us=[x0,x1]:=match us,h with | [x0,x1],_=>⟨x0,x1,rfl⟩
theorem Sk {α:Type}{us:List α}(h:us.length=3):∃ x0 x1 x2,us=[x0,x1,x2]:=match us,h with | [x0,x1,x2],_=>⟨x0,x1,x2,rfl⟩
theorem RW {α:Type}{us:List α}(h:us.length=4):∃ x0 x1 x2 x3,us=[x0,x1,x2,x3]:=match us,h with | [x0,x1,x2,x3],_=>⟨x0,x1,x2,x3,rfl⟩
def top (i:Nat):Stmt:=PySem.Challenge.pw_swellways_k76_plans_read.main.body.getD i (.Pass ⟨0,0,0,0⟩)
abbrev um:Stmt:=top 6
abbrev gI:Stmt:=top 7
abbrev lN:Stmt:=top 8
abbrev oI:Stmt:=top 9
abbrev pV:Stmt:=top 10
abbrev lE:Stmt:=top 11
abbrev ID:Stmt:=top 12
abbrev Bh:Stmt:=top 31
abbrev fc:Stmt:=top 32
abbrev fK:Stmt:=top 33
abbrev mQ:Stmt:=top 34
abbrev kl:Stmt:=top 35
abbrev vQ:Stmt:=top 36
abbrev fG:Stmt:=top 46
abbrev vK:Stmt:=top 47
abbrev A9:Stmt:=top 48
abbrev iQ:Stmt:=top 49
abbrev we:Stmt:=top 50
abbrev ku:Stmt:=top 51
abbrev eX:Stmt:=top 52
abbrev vR:Stmt:=top 53
abbrev jP:Stmt:=top 58
abbrev fw:Stmt:=top 59
abbrev ig:Stmt:=top 60
abbrev lT:Stmt:=top 61
abbrev jF:Stmt:=top 62
abbrev pL:Stmt:=top 63
abbrev ug:Stmt:=top 64
abbrev gX:Stmt:=top 65
abbrev pN:Stmt:=top 66
abbrev jX:Stmt:=top 67
abbrev jE:Stmt:=top 69
abbrev pk:Stmt:=top 70
abbrev jd:Stmt:=top 71
abbrev lR:Stmt:=top 72
abbrev gH:Stmt:=top 73
abbrev rf:Stmt:=top 75
abbrev pO:Stmt:=top 76
abbrev mX:Stmt:=top 77
abbrev pG:Stmt:=top 78
abbrev jv:Stmt:=top 79
abbrev oQ:Stmt:=top 80
abbrev rP:Stmt:=top 81
abbrev gR:Stmt:=top 82
abbrev gy:Stmt:=top 83
abbrev j6:Stmt:=top 84
abbrev lZ:Stmt:=top 85
abbrev jR:Stmt:=top 86
abbrev gc:Stmt:=top 87
abbrev o8:Stmt:=top 88
abbrev Nx:Stmt:=top 89
set_option genInjectivity false in
set_option genSizeOfSpec false in
structure Adr where
 uh:Addr
 DF:US
 gK:Addr
 mF:US
 lD:Addr
 uD:US
 vO:Addr
 Gm:US
 o9:Addr
 ze:US
 lY:Addr
 u4:US
 HR:Addr
 Ow:US
 BJ:Addr
 Iw:US
 e8:Addr
 ke:US
 fF:Addr
 lq:US
 mI:Addr
 yQ:US
 jN:Addr
 sZ:US
 wG:Addr
 FL:US
 fv:Addr
 kX:US
 vJ:Addr
 F1:US
 AY:Addr
 IP:US
 rF:Addr
 DO:US
 vY:Addr
 FO:US
 p7:Addr
 za:US
 lH:Addr
 uK:US
 wF:Addr
 FC:US
 pE:Addr
 zT:US
 fm:Addr
 kZ:US
 hV:Addr
 oF:US
 lV:Addr
 vC:US
 jD:Addr
 qe:US
 pB:Addr
 Ak:US
 tE:Addr
 DP:US
 lI:Addr
 uX:US
 oW:Addr
 AI:US
 pM:Addr
 zU:US
 js:Addr
 qj:US
 pH:Addr
 BH:US
 nH:Addr
 yq:US
 ly:Addr
 vv:US
 pC:Addr
 Ac:US
 sQ:Addr
 Dm:US
 oX:Addr
 Ag:US
 m9:Addr
 yD:US
 pw:Addr
 Ar:US
 jA:Addr
 qc:US
 oV:Addr
 AX:US
 sL:Addr
 DI:US
 lG:Addr
 uz:US
 oT:Addr
 Ae:US
 gG:Addr
 gL:US
 lA:Addr
 vk:US
 pj:Addr
 AH:US
 kq:Addr
 tF:US
 oP:Addr
 z8:US
 Jm:Addr
 NM:US
structure Txt (Pm:zbg) (K:UB) (mg:Str->Option UC) (t:Adr):Prop where
 Ci:mg "is_whole" = some (.ref t.uh)
 DC:Fun K "is_whole" "is_whole" um t.uh t.DF
 mV:mg "is_whole_within" = some (.ref t.gK)
 mC:Fun K "is_whole_within" "is_whole_within" gI t.gK t.mF
 vf:mg "is_tuple_of" = some (.ref t.lD)
 uN:Fun K "is_tuple_of" "is_tuple_of" lN t.lD t.uD
 Gz:mg "is_name" = some (.ref t.vO)
 FU:Fun K "is_name" "is_name" oI t.vO t.Gm
 zJ:mg "common_of" = some (.ref t.o9)
 AO:Fun K "common_of" "common_of" pV t.o9 t.ze
 vd:mg "is_fraction" = some (.ref t.lY)
 uZ:Fun K "is_fraction" "is_fraction" lE t.lY t.u4
 Qz:mg "less" = some (.ref t.HR)
 P6:Fun K "less" "less" ID t.HR t.Ow
 GU:mg "top_of" = some (.ref t.BJ)
 HW:Fun K "top_of" "top_of" Bh t.BJ t.Iw
 kj:mg "is_fraction_within" = some (.ref t.e8)
 jU:Fun K "is_fraction_within" "is_fraction_within" fc t.e8 t.ke
 lr:mg "is_fraction_above" = some (.ref t.fF)
 lu:Fun K "is_fraction_above" "is_fraction_above" fK t.fF t.lq
 yf:mg "is_growing" = some (.ref t.mI)
 xC:Fun K "is_growing" "is_growing" mQ t.mI t.yQ
 rN:mg "is_calm_span" = some (.ref t.jN)
 r9:Fun K "is_calm_span" "is_calm_span" kl t.jN t.sZ
 E3:mg "is_rule" = some (.ref t.wG)
 FX:Fun K "is_rule" "is_rule" vQ t.wG t.FL
 kU:mg "is_none_or_within" = some (.ref t.fv)
 k9:Fun K "is_none_or_within" "is_none_or_within" fG t.fv t.kX
 FK:mg "is_sort" = some (.ref t.vJ)
 F6:Fun K "is_sort" "is_sort" vK t.vJ t.F1
 Ip:mg "is_way" = some (.ref t.AY)
 GG:Fun K "is_way" "is_way" A9 t.AY t.IP
 BO:mg "are_ways" = some (.ref t.rF)
 C5:Fun K "are_ways" "are_ways" iQ t.rF t.DO
 FW:mg "is_road" = some (.ref t.vY)
 F5:Fun K "is_road" "is_road" we t.vY t.FO
 AL:mg "is_sender" = some (.ref t.p7)
 zf:Fun K "is_sender" "is_sender" ku t.p7 t.za
 uJ:mg "are_senders" = some (.ref t.lH)
 uw:Fun K "are_senders" "are_senders" eX t.lH t.uK
 E5:mg "is_plan" = some (.ref t.wF)
 Gx:Fun K "is_plan" "is_plan" vR t.wF t.FC
 zd:mg "is_number" = some (.ref t.pE)
 zy:Fun K "is_number" "is_number" jP t.pE t.zT
 kT:mg "is_number_or_none" = some (.ref t.fm)
 lp:Fun K "is_number_or_none" "is_number_or_none" fw t.fm t.kZ
 nT:mg "number_or_none" = some (.ref t.hV)
 oG:Fun K "number_or_none" "number_or_none" ig t.hV t.oF
 vc:mg "read_number" = some (.ref t.lV)
 vo:Fun K "read_number" "read_number" lT t.lV t.vC
 qB:mg "read_fraction" = some (.ref t.jD)
 qr:Fun K "read_fraction" "read_fraction" jF t.jD t.qe
 Al:mg "read_rule" = some (.ref t.pB)
 AN:Fun K "read_rule" "read_rule" pL t.pB t.Ak
 Ce:mg "read_way" = some (.ref t.tE)
 Cb:Fun K "read_way" "read_way" ug t.tE t.DP
 uG:mg "read_sender" = some (.ref t.lI)
 vy:Fun K "read_sender" "read_sender" gX t.lI t.uX
 AR:mg "read_grid" = some (.ref t.oW)
 zw:Fun K "read_grid" "read_grid" pN t.oW t.AI
 zB:mg "read_plan" = some (.ref t.pM)
 zk:Fun K "read_plan" "read_plan" jX t.pM t.zU
 qC:mg "show_fraction" = some (.ref t.js)
 qi:Fun K "show_fraction" "show_fraction" jE t.js t.qj
 A0:mg "show_part" = some (.ref t.pH)
 A5:Fun K "show_part" "show_part" pk t.pH t.BH
 yB:mg "show_parts" = some (.ref t.nH)
 xD:Fun K "show_parts" "show_parts" jd t.nH t.yq
 uY:mg "show_sender" = some (.ref t.ly)
 uL:Fun K "show_sender" "show_sender" lR t.ly t.vv
 A7:mg "show_plan" = some (.ref t.pC)
 BC:Fun K "show_plan" "show_plan" gH t.pC t.Ac
 DD:mg "_law_box" = some (.ref t.sQ)
 BY:Fun K "_law_box" "_law_box" rf t.sQ t.Dm
 Bz:mg "_law_take" = some (.ref t.oX)
 Bq:Fun K "_law_take" "_law_take" pO t.oX t.Ag
 xQ:mg "_law_names" = some (.ref t.m9)
 xb:Fun K "_law_names" "_law_names" mX t.m9 t.yD
 AD:mg "_law_part" = some (.ref t.pw)
 Bl:Fun K "_law_part" "_law_part" pG t.pw t.Ar
 qp:mg "_law_fraction" = some (.ref t.jA)
 qv:Fun K "_law_fraction" "_law_fraction" jv t.jA t.qc
 A1:mg "_law_rule" = some (.ref t.oV)
 Ba:Fun K "_law_rule" "_law_rule" oQ t.oV t.AX
 Dy:mg "_law_way" = some (.ref t.sL)
 Dt:Fun K "_law_way" "_law_way" rP t.sL t.DI
 u3:mg "_law_sender" = some (.ref t.lG)
 vF:Fun K "_law_sender" "_law_sender" gR t.lG t.uz
 zC:mg "_law_plan" = some (.ref t.oT)
 Bk:Fun K "_law_plan" "_law_plan" gy t.oT t.Ae
 pA:mg "_law_same" = some (.ref t.gG)
 cQ:Fun K "_law_same" "_law_same" j6 t.gG t.gL
 vE:mg "_law_figure" = some (.ref t.lA)
 vA:Fun K "_law_figure" "_law_figure" lZ t.lA t.vk
 zL:mg "_law_rows" = some (.ref t.pj)
 zM:Fun K "_law_rows" "_law_rows" jR t.pj t.AH
 sy:mg "_law_greater" = some (.ref t.kq)
 sV:Fun K "_law_greater" "_law_greater" gc t.kq t.tF
 A3:mg "_law_read" = some (.ref t.oP)
 BE:Fun K "_law_read" "_law_read" o8 t.oP t.z8
 R4:mg "law" = some (.ref t.Jm)
 Ey:Fun K "law" "law" Nx t.Jm t.NM
 Bt:mg "abs" = none
 wb:mg "all" = none
 IE:mg "bool" = none
 iz:mg "int" = none
 aI:mg "isinstance" = none
 cx:mg "len" = none
 Cg:mg "list" = none
 xn:mg "range" = none
 Nq:mg "set" = none
 y9:mg "sorted" = none
 eR:mg "str" = none
 bZ:mg "tuple" = none
 Nw:mg "zip" = none
 P1:GV K mg "BEAT" (.int 2)
 Lc:GV K mg "BEGIN" (.int 3)
 Ff:GV K mg "FIGURES" (.str "0123456789")
 IJ:GV K mg "GRID" (.int 0)
 Fz:GV K mg "LETTERS" (.str "abcdefghijklmnopqrstuvwxyz")
 r8:GV K mg "LONGEST_NAME" (.int 8)
 Qm:GV K mg "MANY" (.int 4)
 OK:GV K mg "MARK" (.int 3)
 DM:GV K mg "MOST" (.int 60)
 zA:GV K mg "MOST_BEAT" (.int 8)
 my:GV K mg "MOST_COUNT" (.int 1000000)
 tY:GV K mg "MOST_FIGURES" (.int 9)
 zY:GV K mg "MOST_GRID" (.int 60)
 Av:GV K mg "MOST_MARK" (.int 60)
 Ad:GV K mg "MOST_PACE" (.int 20)
 y6:GV K mg "MOST_ROOM" (.int 60)
 uo:GV K mg "MOST_SENDERS" (.int 8)
 Bn:GV K mg "MOST_WAYS" (.int 6)
 nW:GV K mg "NAME" (.int 0)
 rS:GV K mg "NOUGHT" (.tup [.int 0,.int 1])
 sT:GV K mg "ONE" (.tup [.int 1,.int 1])
 Ot:GV K mg "PACE" (.int 1)
 CU:GV K mg "ROAD" (.int 1)
 Pt:GV K mg "ROOM" (.int 2)
 Dd:GV K mg "RULE" (.int 5)
 vZ:GV K mg "SENDERS" (.int 2)
 OA:GV K mg "SORT" (.int 4)
 DH:GV K mg "WAYS" (.int 1)
 xZ:GT Pm K mg "KINDS" [((OF "still"),(.tup [.str "fraction"]:D)),((OF "step"),(.tup [.str "fraction", .str "fraction", .str "fraction", .str "fraction"]:D)),((OF "swell"),(.tup [.str "fraction", .str "fraction", .str "fraction", .str "fraction"]:D)),((OF "heed"),(.tup [.str "fraction", .str "fraction", .str "fraction", .str "fraction"]:D)),((OF "calm"),(.tup [.str "fraction", .str "fraction", .str "whole", .str "whole", .str "fraction"]:D))]
 wK:GT Pm K mg "LENGTHS" [((OF "still"),(.int 2:D)),((OF "step"),(.int 5:D)),((OF "swell"),(.int 5:D)),((OF "heed"),(.int 5:D)),((OF "calm"),(.int 6:D))]
local macro_rules | `(tactic| walk_at "sc")=>`(tactic| exact SF rfl rfl rfl rfl (by decide +kernel))
local macro_rules | `(tactic| walk_at "b1")=>`(tactic| (rename_i hl;obtain ⟨x0,e⟩:=Q6 hl;subst e;rfl))
local macro_rules | `(tactic| walk_at "b2")=>`(tactic| (rename_i hl;obtain ⟨x0,x1,e⟩:=Si hl;subst e;rfl))
local macro_rules | `(tactic| walk_at "b3")=>`(tactic| (rename_i hl;obtain ⟨x0,x1,x2,e⟩:=Sk hl;subst e;rfl))
local macro_rules | `(tactic| walk_at "b4")=>`(tactic| (rename_i hl;obtain ⟨x0,x1,x2,x3,e⟩:=RW hl;subst e;rfl))
section
variable {P:UT} {w:Va} {K:UB} {mg:Str->Option UC} {base:Heap} {t:Adr}
theorem A6:aE ["thing"] ["thing"] (aw um):=by walk_at "sc"
theorem l8 (T:Txt w.params K mg t):aR P w K mg base 1 "is_whole" ["thing"] L3.cC:=aH T.Ci T.DC A6 L3.rQ L3.u5 (λ_ _ _ _ _ _ _ _=>by walk_at "b1") λ_ _ _ _ _ _ hr hu=>
 au (ay (di (eG rfl T.aI rfl (ae 0) rfl T.iz rfl) (cS (xa (eG rfl T.aI rfl (ae 0) rfl T.IE rfl)))))
theorem l6:aE ["thing", "least", "most"] ["thing", "least", "most"] (aw gI):=by walk_at "sc"
theorem br (T:Txt w.params K mg t):aR P w K mg base 2 "is_whole_within" ["thing", "least", "most"] L3.aP:=aH T.mV T.mC l6 L3.jI L3.j9 (λ_ _ _ _ _ _ _ _=>by walk_at "b3") λ_ _ _ _ _ _ hr hu=>
 au (ay (di (aj (l8 T) hr rfl (aa (ae 0) (ai))) (cS (J8 pQ pQ (cU _) (cU _) (ae 1) (ae 0) (ae 2)))))
theorem tV:aE ["thing", "many"] ["thing", "many"] (aw lN):=by walk_at "sc"
theorem eW (T:Txt w.params K mg t):aR P w K mg base 1 "is_tuple_of" ["thing", "many"] L3.bG:=aH T.vf T.uN tV L3.nI L3.om (λ_ _ _ _ _ _ _ _=>by walk_at "b2") λ_ _ _ _ _ _ hr hu=>
 au (ay (di (eG rfl T.aI rfl (ae 0) rfl T.bZ rfl) (cS (le_eq hu (aO bb bA rfl T.cx rfl (aa (ae 0) (ai))) (ae 1)))))
theorem BR:aE ["thing"] ["thing"] (aw oI):=by walk_at "sc"
theorem f6 (T:Txt w.params K mg t):aR P w K mg base 1 "is_name" ["thing"] L3.bT:=aH T.Gz T.FU BR L3.vx L3.yV (λ_ _ _ _ _ _ _ _=>by walk_at "b1") λ_ _ _ _ _ _ hr hu=>
 ak (ba (LW.lt (bV (aW (aN (eG rfl T.aI rfl (ae 0) rfl T.eR rfl))) (bS (aW (lt_chain pQ pQ (cU _) (cU _) (le_int) (aO bb bA rfl T.cx rfl (aa (ae 0) (ai))) (bj rfl T.r8)))))) (au (ay (cq))) (aF)) (au (ay (aO (fZ rfl) kF rfl T.wb rfl (aa (bP (fsc:=aw oI) ["thing"] ["sign"] 1 [] rfl rfl (Ki (ae 0)) (λcl C s₀ H₀ ex=>⟨bJ 0 (show (["sign"]:List Str).Nodup from by decide +kernel),cf,JL (ae 0) (bj rfl T.Fz)⟩) rfl rfl (by decide +kernel)) (ai)))))
theorem cZ:aE ["one", "other", "divisor", "rest", "behind"] ["one", "other"] (aw pV):=by walk_at "sc"
theorem AM (T:Txt w.params K mg t):aR P w K mg base 1 "common_of" ["one", "other"] L3.fR:=aH T.zJ T.AO cZ L3.uH L3.xh (λ_ _ _ _ _ _ _ _=>by walk_at "b2") λ_ _ _ _ _ _ hr hu=>
 ak (aG 2 cZ.nd (aO kE nF rfl T.Bt rfl (aa (ae 0) (ai)))) (ak (aG 3 cZ.nd (aO kE nF rfl T.Bt rfl (aa (ae 1) (ai)))) (ak (y3 V0 (wN (ae 3) (le_int)) (ak (aG 4 cZ.nd (fg (ae 2) (ae 3))) (ak (aG 2 cZ.nd (ae 3)) (au (aG 3 cZ.nd (ae 4)))))) (au (ay (ae 2)))))
theorem rC:aE ["thing"] ["thing"] (aw lE):=by walk_at "sc"
theorem lU (T:Txt w.params K mg t):aR P w K mg base 2 "is_fraction" ["thing"] L3.cn:=aH T.vd T.uZ rC L3.nC L3.oh (λ_ _ _ _ _ _ _ _=>by walk_at "b1") λ_ _ _ _ _ _ hr hu=>
 ak (ba (LW.lt (bV (aW (aN (aj (eW T) hr rfl (aa (ae 0) (aa (le_int) (ai)))))) (bV (aW (aN (aj (l8 T) hr rfl (aa (aA (ae 0) (le_int)) (ai))))) (bS (aW (aN (aj (l8 T) hr rfl (aa (aA (ae 0) (le_int)) (ai))))))))) (au (ay (cq))) (aF)) (au (ay (di (SO (aA (ae 0) (le_int)) (le_int)) (cS (le_eq hu (aj (AM T) hr rfl (aa (aA (ae 0) (le_int)) (aa (aA (ae 0) (le_int)) (ai)))) (le_int))))))
theorem LZ:aE ["one", "other"] ["one", "other"] (aw ID):=by walk_at "sc"
theorem xM (T:Txt w.params K mg t):aR P w K mg base 1 "less" ["one", "other"] L3.cD:=aH T.Qz T.P6 LZ L3.Dq L3.FH (λ_ _ _ _ _ _ _ _=>by walk_at "b2") λ_ _ _ _ _ _ hr hu=>
 au (ay (Tj (le_mul (aA (ae 0) (le_int)) (aA (ae 1) (le_int))) (le_mul (aA (ae 1) (le_int)) (aA (ae 0) (le_int)))))
theorem Fb:aE ["rule"] ["rule"] (aw Bh):=by walk_at "sc"
theorem AS (T:Txt w.params K mg t):aR P w K mg base 1 "top_of" ["rule"] L3.dS:=aH T.GU T.HW Fb L3.xY L3.Bm (λ_ _ _ _ _ _ _ _=>by walk_at "b1") λ_ _ _ _ _ _ hr hu=>
 au (ay (aA (ae 0) (yT (aO bb bA rfl T.cx rfl (aa (ae 0) (ai))) (le_int))))
theorem jL:aE ["thing", "least", "most"] ["thing", "least", "most"] (aw fc):=by walk_at "sc"
theorem cg (T:Txt w.params K mg t):aR P w K mg base 3 "is_fraction_within" ["thing", "least", "most"] L3.aJ:=aH T.kj T.jU jL L3.gN L3.ik (λ_ _ _ _ _ _ _ _=>by walk_at "b3") λ_ _ _ _ _ _ hr hu=>
 au (ay (di (aj (lU T) hr rfl (aa (ae 0) (ai))) (di (xa (aj (xM T) hr rfl (aa (ae 0) (aa (ae 1) (ai))))) (cS (xa (aj (xM T) hr rfl (aa (ae 2) (aa (ae 0) (ai)))))))))
theorem j5:aE ["thing", "bound", "most"] ["thing", "bound", "most"] (aw fK):=by walk_at "sc"
theorem dm (T:Txt w.params K mg t):aR P w K mg base 4 "is_fraction_above" ["thing", "bound", "most"] L3.aM:=aH T.lr T.lu j5 L3.hW L3.iO (λ_ _ _ _ _ _ _ _=>by walk_at "b3") λ_ _ _ _ _ _ hr hu=>
 au (ay (di (aj (cg T) hr rfl (aa (ae 0) (aa (ae 1) (aa (ae 2) (ai))))) (cS (aj (xM T) hr rfl (aa (ae 1) (aa (ae 0) (ai)))))))
theorem gO:aE ["thing", "most", "least"] ["thing"] (aw mQ):=by walk_at "sc"
theorem yO (T:Txt w.params K mg t):aR P w K mg base 5 "is_growing" ["thing"] L3.bO:=aH T.yf T.xC gO L3.nU L3.qd (λ_ _ _ _ _ _ _ _=>by walk_at "b1") λ_ _ _ _ _ _ hr hu=>
 ak (aG 1 gO.nd (aX (aa (bj rfl T.DM) (aa (le_int) (ai))))) (ak (ba (aW (aN (aj (cg T) hr rfl (aa (aj (AS T) hr rfl (aa (ae 0) (ai))) (aa (bj rfl T.sT) (aa (ae 1) (ai))))))) (au (ay (cq))) (aF)) (ak (aG 2 gO.nd (ko (lt_eq hu (aA (ae 0) (le_int)) (le_str)) (bj rfl T.sT) (bj rfl T.rS))) (au (ay (di (aj (cg T) hr rfl (aa (aA (ae 0) (le_int)) (aa (bj rfl T.sT) (aa (aj (AS T) hr rfl (aa (ae 0) (ai))) (ai))))) (cS (aj (dm T) hr rfl (aa (aA (ae 0) (le_int)) (aa (ae 2) (aa (ae 1) (ai)))))))))))
theorem qf:aE ["low", "high"] ["low", "high"] (aw kl):=by walk_at "sc"
theorem rL (T:Txt w.params K mg t):aR P w K mg base 3 "is_calm_span" ["low", "high"] L3.cF:=aH T.rN T.r9 qf L3.mj L3.mU (λ_ _ _ _ _ _ _ _=>by walk_at "b2") λ_ _ _ _ _ _ hr hu=>
 au (ay (di (aj (br T) hr rfl (aa (ae 1) (aa (le_int) (aa (bj rfl T.DM) (ai))))) (cS (aj (br T) hr rfl (aa (ae 0) (aa (le_int) (aa (ae 1) (ai))))))))
theorem sN:aE ["thing", "word"] ["thing"] (aw vQ):=by walk_at "sc"
theorem Gy (T:Txt w.params K mg t):aR P w K mg base 6 "is_rule" ["thing"] L3.fN:=aH T.E3 T.FX sN L3.vt L3.yS (λ_ _ _ _ _ _ _ _=>by walk_at "b1") λ_ _ _ _ _ _ hr hu=>
 ak (ba (LW.lt (bV (aW (aN (eG rfl T.aI rfl (ae 0) rfl T.bZ rfl))) (bV (lt_eq hu (aO bb bA rfl T.cx rfl (aa (ae 0) (ai))) (le_int)) (bS (aW (aN (eG rfl T.aI rfl (aA (ae 0) (le_int)) rfl T.eR rfl))))))) (au (ay (cq))) (aF)) (ak (aG 1 sN.nd (aA (ae 0) (le_int))) (ak (ba (LW.lt (bV (pX rfl T.wK (ae 1)) (bS (nD hu (aO bb bA rfl T.cx rfl (aa (ae 0) (ai))) (tK rfl T.wK (ae 1)))))) (au (ay (cq))) (aF)) (ak (ba (lt_eq hu (ae 1) (le_str)) (au (ay (aj (cg T) hr rfl (aa (aA (ae 0) (le_int)) (aa (bj rfl T.sT) (aa (aX (aa (bj rfl T.DM) (aa (le_int) (ai)))) (ai))))))) (aF)) (ak (ba (aW (aN (aj (yO T) hr rfl (aa (ae 0) (ai))))) (au (ay (cq))) (aF)) (ak (ba (lt_eq hu (ae 1) (le_str)) (au (ay (aj (rL T) hr rfl (aa (aA (ae 0) (le_int)) (aa (aA (ae 0) (le_int)) (ai)))))) (aF)) (ak (ba (lt_eq hu (ae 1) (le_str)) (au (ay (aj (dm T) hr rfl (aa (aA (ae 0) (le_int)) (aa (bj rfl T.rS) (aa (bj rfl T.sT) (ai))))))) (aF)) (au (ay (di (aj (dm T) hr rfl (aa (aA (ae 0) (le_int)) (aa (bj rfl T.rS) (aa (bj rfl T.sT) (ai))))) (cS (aj (xM T) hr rfl (aa (aA (ae 0) (le_int)) (aa (bj rfl T.sT) (ai))))))))))))))
theorem jZ:aE ["thing", "most"] ["thing", "most"] (aw fG):=by walk_at "sc"
theorem fJ (T:Txt w.params K mg t):aR P w K mg base 3 "is_none_or_within" ["thing", "most"] L3.bC:=aH T.kU T.k9 jZ L3.ip L3.i9 (λ_ _ _ _ _ _ _ _=>by walk_at "b2") λ_ _ _ _ _ _ hr hu=>
 au (ay (Iy (Nt (ae 0) (bF)) (cS (aj (br T) hr rfl (aa (ae 0) (aa (le_int) (aa (ae 1) (ai))))))))
theorem CL:aE ["thing"] ["thing"] (aw vK):=by walk_at "sc"
theorem wH (T:Txt w.params K mg t):aR P w K mg base 1 "is_sort" ["thing"] L3.eM:=aH T.FK T.F6 CL L3.vH L3.xo (λ_ _ _ _ _ _ _ _=>by walk_at "b1") λ_ _ _ _ _ _ hr hu=>
 au (ay (di (eG rfl T.aI rfl (ae 0) rfl T.eR rfl) (cS (Pg hu (ae 0) (aX (aa (le_str) (aa (le_str) (ai))))))))
theorem Fy:aE ["thing"] ["thing"] (aw A9):=by walk_at "sc"
theorem JU (T:Txt w.params K mg t):aR P w K mg base 4 "is_way" ["thing"] L3.gF:=aH T.Ip T.GG Fy L3.xS L3.zR (λ_ _ _ _ _ _ _ _=>by walk_at "b1") λ_ _ _ _ _ _ hr hu=>
 ak (ba (LW.lt (bV (aW (aN (aj (eW T) hr rfl (aa (ae 0) (aa (le_int) (ai)))))) (bS (aW (aN (aj (f6 T) hr rfl (aa (aA (ae 0) (bj rfl T.nW)) (ai)))))))) (au (ay (cq))) (aF)) (ak (ba (LW.lt (bV (aW (aN (aj (br T) hr rfl (aa (aA (ae 0) (bj rfl T.Ot)) (aa (le_int) (aa (bj rfl T.Ad) (ai))))))) (bS (aW (aN (aj (br T) hr rfl (aa (aA (ae 0) (bj rfl T.Pt)) (aa (le_int) (aa (bj rfl T.y6) (ai)))))))))) (au (ay (cq))) (aF)) (au (ay (di (aj (fJ T) hr rfl (aa (aA (ae 0) (bj rfl T.OK)) (aa (bj rfl T.Av) (ai)))) (cS (aj (wH T) hr rfl (aa (aA (ae 0) (bj rfl T.OA)) (ai))))))))
theorem zc:aE ["thing"] ["thing"] (aw iQ):=by walk_at "sc"
theorem Dj (T:Txt w.params K mg t):aR P w K mg base 5 "are_ways" ["thing"] L3.eZ:=aH T.BO T.C5 zc L3.sD L3.vh (λ_ _ _ _ _ _ _ _=>by walk_at "b1") λ_ _ _ _ _ _ hr hu=>
 ak (ba (LW.lt (bV (aW (aN (eG rfl T.aI rfl (ae 0) rfl T.bZ rfl))) (bS (aW (lt_chain pQ pQ (cU _) (cU _) (le_int) (aO bb bA rfl T.cx rfl (aa (ae 0) (ai))) (bj rfl T.Bn)))))) (au (ay (cq))) (aF)) (ak (ba (aW (aN (aO (fZ rfl) kF rfl T.wb rfl (aa (bP (fsc:=aw iQ) ["thing"] ["way"] 1 [] rfl rfl (cw (ae 0)) (λcl C s₀ H₀ ex=>⟨bJ 0 (show (["way"]:List Str).Nodup from by decide +kernel),cf,aj (JU T) hr rfl (aa (ae 0) (ai))⟩) rfl rfl (by decide +kernel)) (ai))))) (au (ay (cq))) (aF)) (au (ay (le_eq hu (FA rfl rfl T.cx rfl rfl T.Nq rfl (bP (fsc:=aw iQ) ["thing"] ["way"] 1 [] rfl rfl (cw (ae 0)) (λcl C s₀ H₀ ex=>⟨bJ 0 (show (["way"]:List Str).Nodup from by decide +kernel),cf,aA (ae 0) (bj rfl T.nW)⟩) rfl rfl (by decide +kernel))) (aO bb bA rfl T.cx rfl (aa (ae 0) (ai)))))))
theorem iS:aE ["thing", "names", "behind", "name"] ["thing", "names"] (aw we):=by walk_at "sc"
theorem E4 (T:Txt w.params K mg t):aR P w K mg base 2 "is_road" ["thing", "names"] L3.fO:=aH T.FW T.F5 iS L3.uP L3.yY (λ_ _ _ _ _ _ _ _=>by walk_at "b2") λ_ _ _ _ _ _ hr hu=>
 ak (ba (LW.lt (bV (aW (aN (eG rfl T.aI rfl (ae 0) rfl T.bZ rfl))) (bS (lt_eq hu (aO bb bA rfl T.cx rfl (aa (ae 0) (ai))) (le_int))))) (au (ay (cq))) (aF)) (ak (aG 2 iS.nd (le_int)) (ak (kz V0 rfl (cw (ae 0)) (qM 3 iS.nd) (ak (ba (LW.lt (bV (aW (aN (aj (f6 T) hr rfl (aa (ae 3) (ai))))) (bS (Fv hu (ae 3) (pR (ae 1) (ji (ae 2)) (uk)))))) (au (ay (cq))) (aF)) (au (aG 2 iS.nd (aQ (Hf hu (ae 1) (ae 3)) (le_int)))))) (au (ay (cq)))))
theorem yE:aE ["thing", "ways"] ["thing", "ways"] (aw ku):=by walk_at "sc"
theorem y4 (T:Txt w.params K mg t):aR P w K mg base 7 "is_sender" ["thing", "ways"] L3.eC:=aH T.AL T.zf yE L3.qz L3.qZ (λ_ _ _ _ _ _ _ _=>by walk_at "b2") λ_ _ _ _ _ _ hr hu=>
 ak (ba (LW.lt (bV (aW (aN (aj (eW T) hr rfl (aa (ae 0) (aa (le_int) (ai)))))) (bS (aW (aN (aj (f6 T) hr rfl (aa (aA (ae 0) (bj rfl T.nW)) (ai)))))))) (au (ay (cq))) (aF)) (ak (ba (LW.lt (bV (aW (aN (aj (E4 T) hr rfl (aa (aA (ae 0) (bj rfl T.CU)) (aa (bP (fsc:=aw ku) ["thing", "ways"] ["way"] 1 [] rfl rfl (cw (ae 1)) (λcl C s₀ H₀ ex=>⟨bJ 0 (show (["way"]:List Str).Nodup from by decide +kernel),cf,aA (ae 0) (bj rfl T.nW)⟩) rfl rfl (by decide +kernel)) (ai)))))) (bS (aW (aN (aj (br T) hr rfl (aa (aA (ae 0) (bj rfl T.P1)) (aa (le_int) (aa (bj rfl T.zA) (ai)))))))))) (au (ay (cq))) (aF)) (ak (ba (LW.lt (bV (aW (aN (aj (br T) hr rfl (aa (aA (ae 0) (bj rfl T.Lc)) (aa (le_int) (aa (bj rfl T.my) (ai))))))) (bS (aW (aN (aj (fJ T) hr rfl (aa (aA (ae 0) (bj rfl T.Qm)) (aa (bj rfl T.my) (ai))))))))) (au (ay (cq))) (aF)) (au (ay (aj (Gy T) hr rfl (aa (aA (ae 0) (bj rfl T.Dd)) (ai)))))))
theorem ki:aE ["thing", "ways", "names"] ["thing", "ways"] (aw eX):=by walk_at "sc"
theorem vz (T:Txt w.params K mg t):aR P w K mg base 8 "are_senders" ["thing", "ways"] L3.cT:=aH T.uJ T.uw ki L3.mv L3.oA (λ_ _ _ _ _ _ _ _=>by walk_at "b2") λ_ _ _ _ _ _ hr hu=>
 ak (ba (LW.lt (bV (aW (aN (eG rfl T.aI rfl (ae 0) rfl T.bZ rfl))) (bS (wN (aO bb bA rfl T.cx rfl (aa (ae 0) (ai))) (bj rfl T.uo))))) (au (ay (cq))) (aF)) (ak (ba (aW (aN (aO (fZ rfl) kF rfl T.wb rfl (aa (bP (fsc:=aw eX) ["thing", "ways", "names"] ["sender", "ways"] 1 [1] rfl rfl (cw (ae 0)) (λcl C s₀ H₀ ex=>⟨bJ 0 (show (["sender", "ways"]:List Str).Nodup from by decide +kernel),cf,aj (y4 T) hr rfl (aa (ae 0) (aa (ae 1) (ai)))⟩) rfl rfl (by decide +kernel)) (ai))))) (au (ay (cq))) (aF)) (ak (zQ (fsc:=aw eX) 2 ki.nd ["thing", "ways", "names"] ["sender"] 1 [] rfl rfl (cw (ae 0)) (λcl C s₀ H₀ ex=>⟨bJ 0 (show (["sender"]:List Str).Nodup from by decide +kernel),cf,aA (ae 0) (bj rfl T.nW)⟩) rfl rfl (by decide +kernel)) (au (ay (le_eq hu (ae 2) (CP rfl rfl T.y9 rfl rfl T.Nq rfl (ae 2)))))))
theorem CV:aE ["thing"] ["thing"] (aw vR):=by walk_at "sc"
theorem FD (T:Txt w.params K mg t):aR P w K mg base 9 "is_plan" ["thing"] L3.fY:=aH T.E5 T.Gx CV L3.vg L3.xK (λ_ _ _ _ _ _ _ _=>by walk_at "b1") λ_ _ _ _ _ _ hr hu=>
 ak (ba (LW.lt (bV (aW (aN (aj (eW T) hr rfl (aa (ae 0) (aa (le_int) (ai)))))) (bS (aW (aN (aj (br T) hr rfl (aa (aA (ae 0) (bj rfl T.IJ)) (aa (le_int) (aa (bj rfl T.zY) (ai)))))))))) (au (ay (cq))) (aF)) (au (ay (di (aj (Dj T) hr rfl (aa (aA (ae 0) (bj rfl T.DH)) (ai))) (cS (aj (vz T) hr rfl (aa (aA (ae 0) (bj rfl T.vZ)) (aa (aA (ae 0) (bj rfl T.DH)) (ai))))))))
theorem wY:aE ["word"] ["word"] (aw jP):=by walk_at "sc"
theorem cc (T:Txt w.params K mg t):aR P w K mg base 1 "is_number" ["word"] bz:=aH T.zd T.zy wY uu wZ (λ_ _ _ _ _ _ _ _=>by walk_at "b1") λ_ _ _ _ _ _ hr hu=>
 ak (ba (LW.lt (bV (aW (lt_chain pQ pQ (cU _) (cU _) (le_int) (aO bb bA rfl T.cx rfl (aa (ae 0) (ai))) (bj rfl T.tY))) (bS (aW (aN (aO (fZ rfl) kF rfl T.wb rfl (aa (bP (fsc:=aw jP) ["word"] ["sign"] 1 [] rfl rfl (Ki (ae 0)) (λcl C s₀ H₀ ex=>⟨bJ 0 (show (["sign"]:List Str).Nodup from by decide +kernel),cf,JL (ae 0) (bj rfl T.Ff)⟩) rfl rfl (by decide +kernel)) (ai)))))))) (au (ay (cq))) (aF)) (au (ay (Iy (le_eq hu (ae 0) (le_str)) (cS (S5 hu (xE (ae 0) (le_int)) (le_str))))))
theorem jO:aE ["word"] ["word"] (aw fw):=by walk_at "sc"
theorem fB (T:Txt w.params K mg t):aR P w K mg base 2 "is_number_or_none" ["word"] bM:=aH T.kT T.lp jO jH kC (λ_ _ _ _ _ _ _ _=>by walk_at "b1") λ_ _ _ _ _ _ hr hu=>
 au (ay (Iy (le_eq hu (ae 0) (le_str)) (cS (aj (cc T) hr rfl (aa (ae 0) (ai))))))
theorem ng:aE ["word"] ["word"] (aw ig):=by walk_at "sc"
theorem iu (T:Txt w.params K mg t):aR P w K mg base 1 "number_or_none" ["word"] b9:=aH T.nT T.oG ng l4 mG (λ_ _ _ _ _ _ _ _=>by walk_at "b1") λ_ _ _ _ _ _ hr hu=>
 au (ay (ko (lt_eq hu (ae 0) (le_str)) (bF) (aL df ef rfl T.iz rfl (aa (ae 0) (ai)))))
theorem sx:aE ["word"] ["word"] (aw lT):=by walk_at "sc"
theorem lC (T:Txt w.params K mg t):aR P w K mg base 2 "read_number" ["word"] cP:=aH T.vc T.vo sx ql ua (λ_ _ _ _ _ _ _ _=>by walk_at "b1") λ_ _ _ _ _ _ hr hu=>
 au (ay (ko (aN (aj (cc T) hr rfl (aa (ae 0) (ai)))) (aL df ef rfl T.iz rfl (aa (ae 0) (ai))) (bF)))
theorem eU:aE ["word", "halves", "one"] ["word"] (aw jF):=by walk_at "sc"
theorem qw (T:Txt w.params K mg t):aR P w K mg base 3 "read_fraction" ["word"] cX:=aH T.qB T.qr eU mq oH (λ_ _ _ _ _ _ _ _=>by walk_at "b1") λ_ _ _ _ _ _ hr hu=>
 ak (ba (aN (aj (cc T) hr rfl (aa (ae 0) (ai)))) (au (ay (aX (aa (aL df ef rfl T.iz rfl (aa (ae 0) (ai))) (aa (le_int) (ai)))))) (aF)) (ak (aG 1 eU.nd (nv (ae 0) (le_str))) (ak (ba (LW.lt (bV (nD hu (aO bb bA rfl T.cx rfl (aa (ae 1) (ai))) (le_int)) (bV (aW (aN (aj (cc T) hr rfl (aa (aA (ae 1) (le_int)) (ai))))) (bS (aW (aN (aj (cc T) hr rfl (aa (aA (ae 1) (le_int)) (ai))))))))) (au (ay (bF))) (aF)) (ak (aG 2 eU.nd (aX (aa (aL df ef rfl T.iz rfl (aa (aA (ae 1) (le_int)) (ai))) (aa (aL df ef rfl T.iz rfl (aa (aA (ae 1) (le_int)) (ai))) (ai))))) (au (ay (ko (LW.lt (yW (aN (aj (lU T) hr rfl (aa (ae 2) (ai)))) (qJ (nD hu (aA (ae 2) (le_int)) (le_int))))) (ae 2) (bF)))))))
theorem eh:aE ["words", "parts", "kind", "word", "number"] ["words"] (aw pL):=by walk_at "sc"
theorem zX (T:Txt w.params K mg t):aR P w K mg base 4 "read_rule" ["words"] fS:=aH T.Al T.AN eh uU xU (λ_ _ _ _ _ _ _ _=>by walk_at "b1") λ_ _ _ _ _ _ hr hu=>
 ak (ba (LW.lt (bV (lt_eq hu (aO bb bA rfl T.cx rfl (aa (ae 0) (ai))) (le_int)) (bV (pX rfl T.xZ (aA (ae 0) (le_int))) (bS (nD hu (aO bb bA rfl T.cx rfl (aa (ae 0) (ai))) (aQ (aO bb bA rfl T.cx rfl (aa (tK rfl T.xZ (aA (ae 0) (le_int))) (ai))) (le_int))))))) (au (ay (bF))) (aF)) (ak (aG 1 eh.nd (gY (aa (aA (ae 0) (le_int)) (ai)))) (ak (kz V0 rfl (EM rfl T.Nw (aa (tK rfl T.xZ (aA (ae 0) (le_int))) (aa (pR (ae 0) (ji (le_int)) (uk)) (ai)))) (qX rfl (bq 2 eh.nd (bq 3 eh.nd (mm)))) (ak (aG 4 eh.nd (ko (lt_eq hu (ae 2) (le_str)) (aj (qw T) hr rfl (aa (ae 3) (ai))) (aj (lC T) hr rfl (aa (ae 3) (ai))))) (ak (ba (vX (ae 4) (bF)) (au (ay (bF))) (aF)) (au (eK (le_app (ae 1) (ae 4))))))) (au (ay (aL bH cW rfl T.bZ rfl (aa (ae 1) (ai)))))))
theorem zK:aE ["words"] ["words"] (aw ug):=by walk_at "sc"
theorem Dc (T:Txt w.params K mg t):aR P w K mg base 3 "read_way" ["words"] gE:=aH T.Ce T.Cb zK xq z9 (λ_ _ _ _ _ _ _ _=>by walk_at "b1") λ_ _ _ _ _ _ hr hu=>
 ak (ba (LW.lt (bV (nD hu (aO bb bA rfl T.cx rfl (aa (ae 0) (ai))) (le_int)) (bV (aW (aN (aj (f6 T) hr rfl (aa (aA (ae 0) (le_int)) (ai))))) (bS (aW (aN (aj (wH T) hr rfl (aa (aA (ae 0) (le_int)) (ai))))))))) (au (ay (bF))) (aF)) (ak (ba (LW.lt (bV (aW (aN (aj (cc T) hr rfl (aa (aA (ae 0) (le_int)) (ai))))) (bV (aW (aN (aj (cc T) hr rfl (aa (aA (ae 0) (le_int)) (ai))))) (bS (aW (aN (aj (fB T) hr rfl (aa (aA (ae 0) (le_int)) (ai))))))))) (au (ay (bF))) (aF)) (au (ay (aX (aa (aA (ae 0) (le_int)) (aa (aL df ef rfl T.iz rfl (aa (aA (ae 0) (le_int)) (ai))) (aa (aL df ef rfl T.iz rfl (aa (aA (ae 0) (le_int)) (ai))) (aa (aj (iu T) hr rfl (aa (aA (ae 0) (le_int)) (ai))) (aa (aA (ae 0) (le_int)) (ai))))))))))
theorem gi:aE ["words", "rule", "road"] ["words"] (aw gX):=by walk_at "sc"
theorem vw (T:Txt w.params K mg t):aR P w K mg base 5 "read_sender" ["words"] eA:=aH T.uG T.vy gi qx rD (λ_ _ _ _ _ _ _ _=>by walk_at "b1") λ_ _ _ _ _ _ hr hu=>
 ak (aG 1 gi.nd (aj (zX T) hr rfl (aa (pR (ae 0) (ji (le_int)) (uk)) (ai)))) (ak (ba (vX (ae 1) (bF)) (au (ay (bF))) (aF)) (ak (aG 2 gi.nd (nv (aA (ae 0) (le_int)) (le_str))) (ak (ba (LW.lt (bV (aW (aN (aj (f6 T) hr rfl (aa (aA (ae 0) (le_int)) (ai))))) (bS (aW (aN (aO (fZ rfl) kF rfl T.wb rfl (aa (bP (fsc:=aw gX) ["words", "rule", "road"] ["name"] 1 [] rfl rfl (cw (ae 2)) (λcl C s₀ H₀ ex=>⟨bJ 0 (show (["name"]:List Str).Nodup from by decide +kernel),cf,aj (f6 T) hr rfl (aa (ae 0) (ai))⟩) rfl rfl (by decide +kernel)) (ai)))))))) (au (ay (bF))) (aF)) (ak (ba (LW.lt (bV (aW (aN (aj (cc T) hr rfl (aa (aA (ae 0) (le_int)) (ai))))) (bV (aW (aN (aj (cc T) hr rfl (aa (aA (ae 0) (le_int)) (ai))))) (bS (aW (aN (aj (fB T) hr rfl (aa (aA (ae 0) (le_int)) (ai))))))))) (au (ay (bF))) (aF)) (au (ay (aX (aa (aA (ae 0) (le_int)) (aa (aL bH cW rfl T.bZ rfl (aa (ae 2) (ai))) (aa (aL df ef rfl T.iz rfl (aa (aA (ae 0) (le_int)) (ai))) (aa (aL df ef rfl T.iz rfl (aa (aA (ae 0) (le_int)) (ai))) (aa (aj (iu T) hr rfl (aa (aA (ae 0) (le_int)) (ai))) (aa (ae 1) (ai))))))))))))))
theorem yu:aE ["words"] ["words"] (aw pN):=by walk_at "sc"
theorem A8 (T:Txt w.params K mg t):aR P w K mg base 3 "read_grid" ["words"] fQ:=aH T.AR T.zw yu vi yJ (λ_ _ _ _ _ _ _ _=>by walk_at "b1") λ_ _ _ _ _ _ hr hu=>
 au (ay (ko (LW.lt (yW (lt_eq hu (aO bb bA rfl T.cx rfl (aa (ae 0) (ai))) (le_int)) (qJ (lt_eq hu (aA (ae 0) (le_int)) (le_str))))) (aj (lC T) hr rfl (aa (aA (ae 0) (le_int)) (ai))) (bF)))
theorem bD:aE ["text", "rows", "grid", "ways", "senders", "place", "words", "one", "plan"] ["text"] (aw jX):=by walk_at "sc"
theorem kx (T:Txt w.params K mg t):aR P w K mg base 10 "read_plan" ["text"] cY:=aH T.zB T.zk bD uC xk (λ_ _ _ _ _ _ _ _=>by walk_at "b1") λ_ _ _ _ _ _ hr hu=>
 ak (ba (aW (aN (eG rfl T.aI rfl (ae 0) rfl T.eR rfl))) (au (mN)) (aF)) (ak (zQ (fsc:=aw jX) 1 bD.nd ["text", "rows", "grid", "ways", "senders", "place", "words", "one", "plan"] ["row"] 1 [] rfl rfl (cw (nv (ae 0) (le_str))) (λcl C s₀ H₀ ex=>⟨bJ 0 (show (["row"]:List Str).Nodup from by decide +kernel),cf,nv (ae 0) (le_str)⟩) rfl rfl (by decide +kernel)) (ak (aG 2 bD.nd (aj (A8 T) hr rfl (aa (aA (ae 1) (le_int)) (ai)))) (ak (ba (vX (ae 2) (bF)) (au (mN)) (aF)) (ak (aG 3 bD.nd (gY (ai))) (ak (aG 4 bD.nd (gY (ai))) (ak (kz V0 rfl (Fl rfl T.xn (le_int) (aO bb bA rfl T.cx rfl (aa (ae 1) (ai)))) (qM 5 bD.nd) (ak (aG 6 bD.nd (aA (ae 1) (ae 5))) (ak (aG 7 bD.nd (bF)) (ak (ba (LW.lt (yW (lt_eq hu (aA (ae 6) (le_int)) (le_str)) (qJ (lt_eq hu (aO bb bA rfl T.cx rfl (aa (ae 4) (ai))) (le_int))))) (ak (aG 7 bD.nd (aj (Dc T) hr rfl (aa (pR (ae 6) (ji (le_int)) (uk)) (ai)))) (au (eK (le_app (ae 3) (ae 7))))) (au (ba (LW.lt (yW (lt_eq hu (aA (ae 6) (le_int)) (le_str)) (qJ (wN (aO bb bA rfl T.cx rfl (aa (ae 3) (ai))) (le_int))))) (ak (aG 7 bD.nd (aj (vw T) hr rfl (aa (pR (ae 6) (ji (le_int)) (uk)) (ai)))) (au (eK (le_app (ae 4) (ae 7))))) (aF)))) (au (ba (vX (ae 7) (bF)) (au (mN)) (aF))))))) (ak (aG 8 bD.nd (aX (aa (ae 2) (aa (aL bH cW rfl T.bZ rfl (aa (ae 3) (ai))) (aa (aL bH cW rfl T.bZ rfl (aa (ae 4) (ai))) (ai)))))) (ak (ba (aW (aN (aj (FD T) hr rfl (aa (ae 8) (ai))))) (au (mN)) (aF)) (au (ay (ae 8)))))))))))
theorem eS:aE ["one", "top", "bottom"] ["one"] (aw jE):=by walk_at "sc"
theorem p8 (T:Txt w.params K mg t):aR P w K mg base 1 "show_fraction" ["one"] bW:=aH T.qC T.qi eS mZ oa (λ_ _ _ _ _ _ _ _=>by walk_at "b1") λ_ _ _ _ _ _ hr hu=>
 ak (aG 1 eS.nd (aA (ae 0) (le_int))) (ak (aG 2 eS.nd (aA (ae 0) (le_int))) (au (ay (ko (lt_eq hu (ae 2) (le_int)) (OS (ae 1)) (OJ (ae 1) (le_str) (ae 2))))))
theorem yI:aE ["part"] ["part"] (aw pk):=by walk_at "sc"
theorem AQ (T:Txt w.params K mg t):aR P w K mg base 2 "show_part" ["part"] fX:=aH T.A0 T.A5 yI u6 xA (λ_ _ _ _ _ _ _ _=>by walk_at "b1") λ_ _ _ _ _ _ hr hu=>
 ak (ba (vX (ae 0) (bF)) (au (ay (le_str))) (aF)) (au (ay (ko (aN (fh rfl T.aI rfl (ae 0) rfl T.bZ rfl)) (aj (p8 T) hr rfl (aa (ae 0) (ai))) (aL bN cB rfl T.eR rfl (aa (ae 0) (ai))))))
theorem vG:aE ["parts"] ["parts"] (aw jd):=by walk_at "sc"
theorem iW (T:Txt w.params K mg t):aR P w K mg base 3 "show_parts" ["parts"] bI:=aH T.yB T.xD vG tT uW (λ_ _ _ _ _ _ _ _=>by walk_at "b1") λ_ _ _ _ _ _ hr hu=>
 au (ay (ny (le_str) (bP (fsc:=aw jd) ["parts"] ["part"] 1 [] rfl rfl (cw (ae 0)) (λcl C s₀ H₀ ex=>⟨bJ 0 (show (["part"]:List Str).Nodup from by decide +kernel),cf,aj (AQ T) hr rfl (aa (ae 0) (ai))⟩) rfl rfl (by decide +kernel))))
theorem sG:aE ["sender"] ["sender"] (aw lR):=by walk_at "sc"
theorem uM (T:Txt w.params K mg t):aR P w K mg base 4 "show_sender" ["sender"] eF:=aH T.uY T.uL sG qg sF (λ_ _ _ _ _ _ _ _=>by walk_at "b1") λ_ _ _ _ _ _ hr hu=>
 au (ay (aj (iW T) hr rfl (aa (aQ (aQ (aX (aa (le_str) (aa (aA (ae 0) (bj rfl T.nW)) (aa (Ab (le_str) (aA (ae 0) (bj rfl T.CU))) (ai))))) (pR (ae 0) (ji (aQ (bj rfl T.CU) (le_int))) (ji (bj rfl T.Dd)))) (aA (ae 0) (bj rfl T.Dd))) (ai))))
theorem mK:aE ["plan", "rows"] ["plan"] (aw gH):=by walk_at "sc"
theorem pZ (T:Txt w.params K mg t):aR P w K mg base 5 "show_plan" ["plan"] eB:=aH T.A7 T.BC mK vn yl (λ_ _ _ _ _ _ _ _=>by walk_at "b1") λ_ _ _ _ _ _ hr hu=>
 ak (aG 1 mK.nd (gY (aa (aj (iW T) hr rfl (aa (aX (aa (le_str) (aa (aA (ae 0) (bj rfl T.IJ)) (ai)))) (ai))) (ai)))) (ak (eK (D7 (ae 1) (bP (fsc:=aw gH) ["plan", "rows"] ["way"] 1 [] rfl rfl (cw (aA (ae 0) (bj rfl T.DH))) (λcl C s₀ H₀ ex=>⟨bJ 0 (show (["way"]:List Str).Nodup from by decide +kernel),cf,aj (iW T) hr rfl (aa (aQ (aX (aa (le_str) (ai))) (ae 0)) (ai))⟩) rfl rfl (by decide +kernel)))) (ak (eK (D7 (ae 1) (bP (fsc:=aw gH) ["plan", "rows"] ["sender"] 1 [] rfl rfl (cw (aA (ae 0) (bj rfl T.vZ))) (λcl C s₀ H₀ ex=>⟨bJ 0 (show (["sender"]:List Str).Nodup from by decide +kernel),cf,aj (uM T) hr rfl (aa (ae 0) (ai))⟩) rfl rfl (by decide +kernel)))) (au (ay (ny (le_str) (qY (ae 1)))))))
theorem kf:aE ["_law_script", "_law_k", "_law_cell"] ["_law_script", "_law_k"] (aw rf):=by walk_at "sc"
theorem Ds (T:Txt w.params K mg t):aR P w K mg base 1 "_law_box" ["_law_script", "_law_k"] L3.qF:=aH T.DD T.BY kf L3.JN L3.Li (λ_ _ _ _ _ _ _ _=>by walk_at "b2") λ_ _ _ _ _ _ hr hu=>
 ak (aG 2 kf.nd (le_int)) (ak (ba (Sg (ae 1) (aO bb bA rfl T.cx rfl (aa (ae 0) (ai)))) (au (aG 2 kf.nd (aA (ae 0) (ae 1)))) (aF)) (au (ay (gY (aa (le_mul (fg (aO kE nF rfl T.Bt rfl (aa (ae 2) (ai))) (le_pow (le_int) (le_int))) (aL Gj KS rfl T.iz rfl (aa (RF (aO kE nF rfl T.Bt rfl (aa (ae 2) (ai))) (le_pow (le_int) (le_int))) (ai)))) (aa (fg (aQ (aQ (ae 2) (le_mul (le_mul (le_int) (ae 1)) (ae 1))) (le_mul (le_int) (ae 1))) (le_int)) (aa (le_int) (ai))))))))
theorem jb:aE ["_law_box_here", "_law_many", "_law_told", "_law_once"] ["_law_box_here", "_law_many"] (aw pO):=by walk_at "sc"
theorem aB (T:Txt w.params K mg t):aR P w K mg base 1 "_law_take" ["_law_box_here", "_law_many"] iZ:=aH T.Bz T.Bq jb uB w4 (λ_ _ _ _ _ _ _ _=>by walk_at "b2") λ_ _ _ _ _ _ hr hu=>
 ak (ba (wN (aA (ae 0) (le_int)) (le_int)) (ak (aG 2 jb.nd (fg (aA (ae 0) (le_int)) (ae 1))) (ak (kr (ae 0) (le_int) (jf (aA (ae 0) (le_int)) (ae 1))) (au (ay (ae 2))))) (aF)) (ak (kr (ae 0) (le_int) (aQ (aA (ae 0) (le_int)) (le_int))) (ak (aG 3 jb.nd (fg (aQ (aQ (le_mul (aA (ae 0) (le_int)) (le_int)) (le_mul (le_int) (aA (ae 0) (le_int)))) (le_int)) (le_int))) (ak (kr (ae 0) (le_int) (fg (aQ (le_mul (ae 3) (ae 3)) (aA (ae 0) (le_int))) (le_int))) (au (ay (fg (jf (aA (ae 0) (le_int)) (le_int)) (ae 1)))))))
theorem bB:aE ["_law_box_here", "_law_many", "_law_letters", "_law_size", "_law_at", "_law_first", "_law_way_here", "_law_found", "_law_k", "_law_sign", "_law_stem"] ["_law_box_here", "_law_many"] (aw mX):=by walk_at "sc"
theorem ni (T:Txt w.params K mg t):aR P w K mg base 2 "_law_names" ["_law_box_here", "_law_many"] L3.ie:=aH T.xQ T.xb bB L3.BZ L3.Gv (λ_ _ _ _ _ _ _ _=>by walk_at "b2") λ_ _ _ _ _ _ hr hu=>
 ak (aG 2 bB.nd (le_str)) (ak (aG 3 bB.nd (aQ (le_int) (aj (aB T) hr rfl (aa (ae 0) (aa (le_int) (ai)))))) (ak (aG 4 bB.nd (aj (aB T) hr rfl (aa (ae 0) (aa (ae 3) (ai))))) (ak (aG 5 bB.nd (aj (aB T) hr rfl (aa (ae 0) (aa (le_int) (ai))))) (ak (aG 6 bB.nd (aj (aB T) hr rfl (aa (ae 0) (aa (le_int) (ai))))) (ak (aG 7 bB.nd (gY (ai))) (ak (kz V0 rfl (vV rfl T.xn (ae 1)) (qM 8 bB.nd) (ak (aG 9 bB.nd (xE (ae 2) (fg (aQ (ae 5) (le_mul (le_int) (ae 8))) (le_int)))) (au (ba (lt_eq hu (ae 6) (le_int)) (ak (aG 10 bB.nd (xE (ae 2) (ae 4))) (au (eK (le_app (ae 7) (aQ (aQ (qU (ae 10) (ae 4)) (ae 9)) (qU (ae 10) (yT (yT (ae 3) (le_int)) (ae 4)))))))) (au (ba (lt_eq hu (ae 6) (le_int)) (au (eK (le_app (ae 7) (qU (ae 9) (aQ (le_int) (fg (aQ (ae 5) (le_mul (le_int) (ae 8))) (le_int))))))) (au (eK (le_app (ae 7) (qU (xE (ae 2) (ae 5)) (aQ (le_int) (ae 8)))))))))))) (au (ay (qY (ae 7))))))))))
theorem iX:aE ["_law_top", "_law_bottom", "_law_one", "_law_other"] ["_law_top", "_law_bottom"] (aw pG):=by walk_at "sc"
theorem j3 (T:Txt w.params K mg t):aR P w K mg base 1 "_law_part" ["_law_top", "_law_bottom"] L3.e9:=aH T.AD T.Bl iX L3.Fx L3.Jr (λ_ _ _ _ _ _ _ _=>by walk_at "b2") λ_ _ _ _ _ _ hr hu=>
 ak (GB 2 3 rfl iX.nd (aa (aO kE nF rfl T.Bt rfl (aa (ae 0) (ai))) (aa (ae 1) (ai)))) (ak (y3 V0 (wN (ae 3) (le_int)) (au (GB 2 3 rfl iX.nd (aa (ae 3) (aa (fg (ae 2) (ae 3)) (ai)))))) (au (ay (aX (aa (jf (ae 0) (ae 2)) (aa (jf (ae 1) (ae 2)) (ai)))))))
theorem il:aE ["_law_box_here", "_law_low", "_law_high", "_law_bottom"] ["_law_box_here", "_law_low", "_law_high"] (aw jv):=by walk_at "sc"
theorem jr (T:Txt w.params K mg t):aR P w K mg base 2 "_law_fraction" ["_law_box_here", "_law_low", "_law_high"] L3.cv:=aH T.qp T.qv il L3.uA L3.yi (λ_ _ _ _ _ _ _ _=>by walk_at "b3") λ_ _ _ _ _ _ hr hu=>
 ak (aG 3 il.nd (aA (dk (aa (le_int) (aa (le_int) (aa (le_int) (aa (le_int) (aa (le_int) (aa (le_int) (ai)))))))) (aj (aB T) hr rfl (aa (ae 0) (aa (le_int) (ai)))))) (au (ay (aj (j3 T) hr rfl (aa (aQ (le_mul (ae 1) (ae 3)) (aj (aB T) hr rfl (aa (ae 0) (aa (aQ (le_mul (yT (ae 2) (ae 1)) (ae 3)) (le_int)) (ai))))) (aa (ae 3) (ai))))))
theorem cu:aE ["_law_box_here", "_law_most", "_law_word", "_law_top", "_law_w", "_law_up", "_law_down", "_law_low"] ["_law_box_here", "_law_most"] (aw oQ):=by walk_at "sc"
theorem Bx (T:Txt w.params K mg t):aR P w K mg base 3 "_law_rule" ["_law_box_here", "_law_most"] jh:=aH T.A1 T.Ba cu uQ xI (λ_ _ _ _ _ _ _ _=>by walk_at "b2") λ_ _ _ _ _ _ hr hu=>
 ak (aG 2 cu.nd (aA (dk (aa (le_str) (aa (le_str) (aa (le_str) (aa (le_str) (aa (le_str) (ai))))))) (aj (aB T) hr rfl (aa (ae 0) (aa (le_int) (ai)))))) (ak (aG 3 cu.nd (aj (jr T) hr rfl (aa (ae 0) (aa (le_int) (aa (ae 1) (ai)))))) (ak (aG 4 cu.nd (aj (jr T) hr rfl (aa (ae 0) (aa (le_int) (aa (jf (aA (ae 3) (le_int)) (aA (ae 3) (le_int))) (ai)))))) (ak (ba (lt_eq hu (ae 2) (le_str)) (au (ay (aX (aa (ae 2) (aa (ae 4) (ai)))))) (aF)) (ak (aG 5 cu.nd (aj (j3 T) hr rfl (aa (aQ (le_int) (aj (aB T) hr rfl (aa (ae 0) (aa (le_int) (ai))))) (aa (aQ (le_int) (aj (aB T) hr rfl (aa (ae 0) (aa (le_int) (ai))))) (ai))))) (ak (aG 6 cu.nd (aA (dk (aa (aX (aa (le_int) (aa (le_int) (ai)))) (aa (aX (aa (le_int) (aa (le_int) (ai)))) (aa (aX (aa (le_int) (aa (le_int) (ai)))) (aa (aX (aa (le_int) (aa (le_int) (ai)))) (ai)))))) (aj (aB T) hr rfl (aa (ae 0) (aa (le_int) (ai)))))) (ak (ba (lt_eq hu (ae 2) (le_str)) (au (ay (aX (aa (ae 2) (aa (ae 4) (aa (aj (j3 T) hr rfl (aa (aQ (aA (ae 5) (le_int)) (aA (ae 5) (le_int))) (aa (aA (ae 5) (le_int)) (ai)))) (aa (ae 6) (aa (ae 3) (ai))))))))) (aF)) (ak (ba (lt_eq hu (ae 2) (le_str)) (au (ay (aX (aa (ae 2) (aa (ae 4) (aa (ae 5) (aa (aA (dk (aa (ae 6) (aa (aX (aa (le_int) (aa (le_int) (ai)))) (aa (aX (aa (le_int) (aa (le_int) (ai)))) (ai))))) (aj (aB T) hr rfl (aa (ae 0) (aa (le_int) (ai))))) (aa (ae 3) (ai))))))))) (aF)) (ak (ba (lt_eq hu (ae 2) (le_str)) (ak (aG 7 cu.nd (aj (aB T) hr rfl (aa (ae 0) (aa (le_int) (ai))))) (au (ay (aX (aa (ae 2) (aa (ae 4) (aa (ae 5) (aa (ae 7) (aa (aQ (ae 7) (aj (aB T) hr rfl (aa (ae 0) (aa (le_int) (ai))))) (aa (ae 3) (ai))))))))))) (aF)) (au (ay (aX (aa (ae 2) (aa (ae 4) (aa (ae 5) (aa (ae 6) (aa (ae 3) (ai)))))))))))))))))
theorem gM:aE ["_law_box_here", "_law_name", "_law_pace", "_law_room", "_law_mark"] ["_law_box_here", "_law_name"] (aw rP):=by walk_at "sc"
theorem Dz (T:Txt w.params K mg t):aR P w K mg base 2 "_law_way" ["_law_box_here", "_law_name"] L3.qG:=aH T.Dy T.Dt gM L3.JG L3.Mh (λ_ _ _ _ _ _ _ _=>by walk_at "b2") λ_ _ _ _ _ _ hr hu=>
 ak (aG 2 gM.nd (aA (dk (aa (aQ (le_int) (aj (aB T) hr rfl (aa (ae 0) (aa (le_int) (ai))))) (aa (aQ (le_int) (aj (aB T) hr rfl (aa (ae 0) (aa (le_int) (ai))))) (ai)))) (jf (aj (aB T) hr rfl (aa (ae 0) (aa (le_int) (ai)))) (le_int)))) (ak (aG 3 gM.nd (aA (dk (aa (aQ (le_int) (aj (aB T) hr rfl (aa (ae 0) (aa (le_int) (ai))))) (aa (aQ (le_int) (aj (aB T) hr rfl (aa (ae 0) (aa (le_int) (ai))))) (ai)))) (jf (aj (aB T) hr rfl (aa (ae 0) (aa (le_int) (ai)))) (le_int)))) (ak (aG 4 gM.nd (aA (dk (aa (bF) (aa (fg (aj (aB T) hr rfl (aa (ae 0) (aa (aQ (ae 3) (le_int)) (ai)))) (le_int)) (aa (le_int) (ai))))) (fg (aj (aB T) hr rfl (aa (ae 0) (aa (le_int) (ai)))) (le_int)))) (au (ay (aX (aa (ae 1) (aa (ae 2) (aa (ae 3) (aa (ae 4) (aa (aA (dk (aa (le_str) (aa (le_str) (ai)))) (aj (aB T) hr rfl (aa (ae 0) (aa (le_int) (ai))))) (ai)))))))))))
theorem cL:aE ["_law_box_here", "_law_name", "_law_ways", "_law_most", "_law_road", "_law_beat", "_law_many"] ["_law_box_here", "_law_name", "_law_ways", "_law_most"] (aw gR):=by walk_at "sc"
theorem ve (T:Txt w.params K mg t):aR P w K mg base 4 "_law_sender" ["_law_box_here", "_law_name", "_law_ways", "_law_most"] f9:=aH T.u3 T.vF cL qt rZ (λ_ _ _ _ _ _ _ _=>by walk_at "b4") λ_ _ _ _ _ _ hr hu=>
 ak (aG 4 cL.nd (aL bH cW rfl T.bZ rfl (aa (bP (fsc:=aw gR) ["_law_box_here", "_law_name", "_law_ways", "_law_most", "_law_road", "_law_beat", "_law_many"] ["_law_way_here", "_law_box_here"] 1 [0] rfl rfl (cw (ae 2)) (λcl C s₀ H₀ ex=>⟨bJ 0 (show (["_law_way_here", "_law_box_here"]:List Str).Nodup from by decide +kernel),LY (wN (aj (aB T) hr rfl (aa (ae 1) (aa (le_int) (ai)))) (le_int)),aA (ae 0) (le_int)⟩) rfl rfl (by decide +kernel)) (ai)))) (ak (ba (lt_eq hu (ae 4) (aX (ai))) (au (aG 4 cL.nd (aX (aa (aA (aA (ae 2) (aj (aB T) hr rfl (aa (ae 0) (aa (aO bb bA rfl T.cx rfl (aa (ae 2) (ai))) (ai))))) (le_int)) (ai))))) (aF)) (ak (aG 5 cL.nd (aA (dk (aa (aQ (le_int) (aj (aB T) hr rfl (aa (ae 0) (aa (le_int) (ai))))) (aa (aQ (le_int) (aj (aB T) hr rfl (aa (ae 0) (aa (le_int) (ai))))) (ai)))) (jf (aj (aB T) hr rfl (aa (ae 0) (aa (le_int) (ai)))) (le_int)))) (ak (aG 6 cL.nd (aA (dk (aa (bF) (aa (aj (aB T) hr rfl (aa (ae 0) (aa (le_int) (ai)))) (ai)))) (aj (aB T) hr rfl (aa (ae 0) (aa (le_int) (ai)))))) (au (ay (aX (aa (ae 1) (aa (ae 4) (aa (ae 5) (aa (aj (aB T) hr rfl (aa (ae 0) (aa (le_int) (ai)))) (aa (ae 6) (aa (aj (Bx T) hr rfl (aa (ae 0) (aa (ae 3) (ai)))) (ai)))))))))))))
theorem d9:aE ["_law_box_here", "_law_most", "_law_senders", "_law_grid", "_law_many", "_law_ways", "_law_names_here"] ["_law_box_here", "_law_most", "_law_senders"] (aw gy):=by walk_at "sc"
theorem Ah (T:Txt w.params K mg t):aR P w K mg base 5 "_law_plan" ["_law_box_here", "_law_most", "_law_senders"] L3.mW:=aH T.zC T.Bk d9 L3.Fp L3.Hj (λ_ _ _ _ _ _ _ _=>by walk_at "b3") λ_ _ _ _ _ _ hr hu=>
 ak (aG 3 d9.nd (aA (dk (aa (le_int) (aa (le_int) (aa (le_int) (aa (aQ (le_int) (aj (aB T) hr rfl (aa (ae 0) (aa (le_int) (ai))))) (ai)))))) (aj (aB T) hr rfl (aa (ae 0) (aa (le_int) (ai)))))) (ak (aG 4 d9.nd (aA (dk (aa (aQ (le_int) (aj (aB T) hr rfl (aa (ae 0) (aa (le_int) (ai))))) (aa (aQ (le_int) (aj (aB T) hr rfl (aa (ae 0) (aa (le_int) (ai))))) (ai)))) (jf (aj (aB T) hr rfl (aa (ae 0) (aa (le_int) (ai)))) (le_int)))) (ak (aG 5 d9.nd (aL bH cW rfl T.bZ rfl (aa (bP (fsc:=aw gy) ["_law_box_here", "_law_most", "_law_senders", "_law_grid", "_law_many", "_law_ways", "_law_names_here"] ["_law_name", "_law_box_here"] 1 [0] rfl rfl (cw (aj (ni T) hr rfl (aa (ae 0) (aa (ae 4) (ai))))) (λcl C s₀ H₀ ex=>⟨bJ 0 (show (["_law_name", "_law_box_here"]:List Str).Nodup from by decide +kernel),cf,aj (Dz T) hr rfl (aa (ae 1) (aa (ae 0) (ai)))⟩) rfl rfl (by decide +kernel)) (ai)))) (ak (aG 6 d9.nd (IW rfl T.y9 rfl (aa (aj (ni T) hr rfl (aa (ae 0) (aa (aj (aB T) hr rfl (aa (ae 0) (aa (aQ (ae 2) (le_int)) (ai)))) (ai)))) (ai)))) (au (ay (aX (aa (ae 3) (aa (ae 5) (aa (aL bH cW rfl T.bZ rfl (aa (bP (fsc:=aw gy) ["_law_box_here", "_law_most", "_law_senders", "_law_grid", "_law_many", "_law_ways", "_law_names_here"] ["_law_name", "_law_box_here", "_law_ways", "_law_most"] 1 [0,5,1] rfl rfl (cw (ae 6)) (λcl C s₀ H₀ ex=>⟨bJ 0 (show (["_law_name", "_law_box_here", "_law_ways", "_law_most"]:List Str).Nodup from by decide +kernel),cf,aj (ve T) hr rfl (aa (ae 1) (aa (ae 0) (aa (ae 2) (aa (ae 3) (ai)))))⟩) rfl rfl (by decide +kernel)) (ai))) (ai))))))))))
theorem mE:aE ["_law_found", "_law_due"] ["_law_found", "_law_due"] (aw j6):=by walk_at "sc"
theorem pz {Pm:zbg}(T:Txt Pm K mg t):Binds K t.gL ["_law_found", "_law_due"] []:=T.cQ.binds λ_ _ _ _ _ _ _ _=>by walk_at "b2"
theorem lO (T:Txt w.params K mg t):∀ n:Nat,jK P w K mg base CX0 (1+n) t.gG t.gL ["_law_found", "_law_due"] (lift K (cK n))
 | 0=>Ro T.cQ mE
 | n+1=>by
  refine IS (k:=1+n) (T:=jV (cK n)) T.cQ mE (qm (n+1)) (λcdv A outer s H E hr=>?_) (sU n)
  have hu:=hr.units
  exact ak (ba (vX (ae 1) (bF)) (au (ay (Nt (ae 0) (bF)))) (aF)) (ak (ba (LW.lt (bV (aN (fh rfl T.aI rfl (ae 1) rfl T.Cg rfl)) (bS (aN (fh rfl T.aI rfl (ae 1) rfl T.bZ rfl))))) (ak (ba (nD hu (fh rfl T.aI rfl (ae 0) rfl T.Cg rfl) (fh rfl T.aI rfl (ae 1) rfl T.Cg rfl)) (au (ay (cq))) (aF)) (ak (ba (nD hu (fh rfl T.aI rfl (ae 0) rfl T.bZ rfl) (fh rfl T.aI rfl (ae 1) rfl T.bZ rfl)) (au (ay (cq))) (aF)) (ak (ba (nD hu (aO bb bA rfl T.cx rfl (aa (ae 0) (ai))) (aO bb bA rfl T.cx rfl (aa (ae 1) (ai)))) (au (ay (cq))) (aF)) (au (ay (aO (fZ rfl) kF rfl T.wb rfl (aa (bP (fsc:=aw j6) ["_law_found", "_law_due"] ["_law_one", "_law_other"] 2 [] rfl rfl (EM rfl T.Nw (aa (ae 0) (aa (ae 1) (ai)))) (λcl C s₀ H₀ ex=>⟨MA rfl (wz 0 (show (["_law_one", "_law_other"]:List Str).Nodup from by decide +kernel) (wz 1 (show (["_law_one", "_law_other"]:List Str).Nodup from by decide +kernel) (HX))),cf,D8 (lO T n) (hr.mono (by omega)) rfl T.pA T.cQ.kp (pz T) (aa (ae 0) (aa (ae 1) (ai)))⟩) rfl rfl (by decide +kernel)) (ai)))))))) (aF)) (ak (ba (aN (fh rfl T.aI rfl (ae 1) rfl T.eR rfl)) (au (ay (di (fh rfl T.aI rfl (ae 0) rfl T.eR rfl) (cS (le_eq hu (ae 0) (ae 1)))))) (aF)) (au (ay (di (fh rfl T.aI rfl (ae 0) rfl T.iz rfl) (di (xa (fh rfl T.aI rfl (ae 0) rfl T.IE rfl)) (cS (le_eq hu (ae 0) (ae 1)))))))))
theorem cQ (T:Txt w.params K mg t):jK P w K mg base CX0 7 t.gG t.gL ["_law_found", "_law_due"] (lift K fV):=lO T 6
theorem o6 (T:Txt w.params K mg t):aR P w K mg base 7 "_law_same" ["_law_found", "_law_due"] fV:=⟨_,_,cQ T,T.pA,T.cQ.kp,pz T⟩
theorem sk:aE ["_law_one"] ["_law_one"] (aw lZ):=by walk_at "sc"
theorem vB (T:Txt w.params K mg t):aR P w K mg base 1 "_law_figure" ["_law_one"] cN:=aH T.vE T.vA sk qy tQ (λ_ _ _ _ _ _ _ _=>by walk_at "b1") λ_ _ _ _ _ _ hr hu=>
 ak (ba (aN (fh rfl T.aI rfl (ae 0) rfl T.iz rfl)) (au (ay (aL bN cB rfl T.eR rfl (aa (ae 0) (ai))))) (aF)) (ak (ba (lt_eq hu (aA (ae 0) (le_int)) (le_int)) (au (ay (aL bN cB rfl T.eR rfl (aa (aA (ae 0) (le_int)) (ai))))) (aF)) (au (ay (aQ (aQ (aL bN cB rfl T.eR rfl (aa (aA (ae 0) (le_int)) (ai))) (le_str)) (aL bN cB rfl T.eR rfl (aa (aA (ae 0) (le_int)) (ai)))))))
theorem bf:aE ["_law_plan_here", "_law_rows_here", "_law_name", "_law_pace", "_law_room", "_law_mark", "_law_sort", "_law_words", "_law_road", "_law_beat", "_law_begin", "_law_many", "_law_rule_here"] ["_law_plan_here"] (aw jR):=by walk_at "sc"
theorem BI (T:Txt w.params K mg t):aR P w K mg base 2 "_law_rows" ["_law_plan_here"] fP:=aH T.zL T.zM bf vD xG (λ_ _ _ _ _ _ _ _=>by walk_at "b1") λ_ _ _ _ _ _ hr hu=>
 ak (aG 1 bf.nd (gY (aa (aQ (le_str) (aL bN cB rfl T.eR rfl (aa (aA (ae 0) (le_int)) (ai)))) (ai)))) (ak (kz V0 rfl (cw (aA (ae 0) (le_int))) (qX rfl (bq 2 bf.nd (bq 3 bf.nd (bq 4 bf.nd (bq 5 bf.nd (bq 6 bf.nd (mm))))))) (ak (aG 7 bf.nd (gY (aa (le_str) (aa (ae 2) (aa (aL bN cB rfl T.eR rfl (aa (ae 3) (ai))) (aa (aL bN cB rfl T.eR rfl (aa (ae 4) (ai))) (aa (le_str) (aa (ae 6) (ai))))))))) (ak (ba (zg (ae 5) (bF)) (au (kr (ae 7) (le_int) (aL bN cB rfl T.eR rfl (aa (ae 5) (ai))))) (aF)) (au (eK (le_app (ae 1) (ny (le_str) (qY (ae 7))))))))) (ak (kz V0 rfl (cw (aA (ae 0) (le_int))) (qX rfl (bq 2 bf.nd (bq 8 bf.nd (bq 9 bf.nd (bq 10 bf.nd (bq 11 bf.nd (bq 12 bf.nd (mm)))))))) (ak (aG 7 bf.nd (gY (aa (le_str) (aa (ae 2) (aa (Ab (le_str) (ae 8)) (aa (aL bN cB rfl T.eR rfl (aa (ae 9) (ai))) (aa (aL bN cB rfl T.eR rfl (aa (ae 10) (ai))) (aa (le_str) (aa (aA (ae 12) (le_int)) (ai)))))))))) (ak (ba (zg (ae 11) (bF)) (au (kr (ae 7) (le_int) (aL bN cB rfl T.eR rfl (aa (ae 11) (ai))))) (aF)) (au (eK (le_app (ae 1) (ny (le_str) (aQ (qY (ae 7)) (bP (fsc:=aw jR) ["_law_plan_here", "_law_rows_here", "_law_name", "_law_pace", "_law_room", "_law_mark", "_law_sort", "_law_words", "_law_road", "_law_beat", "_law_begin", "_law_many", "_law_rule_here"] ["_law_one"] 1 [] rfl rfl (cw (pR (ae 12) (ji (le_int)) (uk))) (λcl C s₀ H₀ ex=>⟨bJ 0 (show (["_law_one"]:List Str).Nodup from by decide +kernel),cf,aj (vB T) hr rfl (aa (ae 0) (ai))⟩) rfl rfl (by decide +kernel)))))))))) (au (ay (qY (ae 1))))))
theorem aS:aE ["_law_box_here", "_law_plan_here", "_law_grid", "_law_ways", "_law_senders", "_law_some", "_law_rows_here", "_law_name", "_law_road", "_law_beat", "_law_begin", "_law_many", "_law_rule_here"] ["_law_box_here", "_law_plan_here"] (aw gc):=by walk_at "sc"
theorem tO (T:Txt w.params K mg t):aR P w K mg base 2 "_law_greater" ["_law_box_here", "_law_plan_here"] dP:=aH T.sy T.sV aS oz qu (λ_ _ _ _ _ _ _ _=>by walk_at "b2") λ_ _ _ _ _ _ hr hu=>
 ak (QO (ae 1) (qX rfl (bq 2 aS.nd (bq 3 aS.nd (bq 4 aS.nd (mm)))))) (ak (aG 3 aS.nd (aL bH cW rfl T.bZ rfl (aa (bP (fsc:=aw gc) ["_law_box_here", "_law_plan_here", "_law_grid", "_law_ways", "_law_senders", "_law_some", "_law_rows_here", "_law_name", "_law_road", "_law_beat", "_law_begin", "_law_many", "_law_rule_here"] ["_law_way_here", "_law_box_here"] 1 [0] rfl rfl (cw (ae 3)) (λcl C s₀ H₀ ex=>⟨bJ 0 (show (["_law_way_here", "_law_box_here"]:List Str).Nodup from by decide +kernel),cf,aX (aa (aA (ae 0) (le_int)) (aa (le_int) (aa (le_int) (aa (aA (dk (aa (bF) (aa (le_int) (aa (le_int) (ai))))) (aj (aB T) hr rfl (aa (ae 1) (aa (le_int) (ai))))) (aa (aA (ae 0) (le_int)) (ai))))))⟩) rfl rfl (by decide +kernel)) (ai)))) (ak (aG 5 aS.nd (dk (aa (aX (aa (le_str) (aa (aX (aa (le_int) (aa (le_int) (ai)))) (ai)))) (aa (aX (aa (le_str) (aa (aX (aa (le_int) (aa (le_int) (ai)))) (aa (aX (aa (le_int) (aa (le_int) (ai)))) (aa (aX (aa (le_int) (aa (le_int) (ai)))) (aa (aX (aa (le_int) (aa (le_int) (ai)))) (ai))))))) (ai))))) (ak (aG 5 aS.nd (aQ (ae 5) (dk (aa (aX (aa (le_str) (aa (aX (aa (le_int) (aa (le_int) (ai)))) (aa (aX (aa (le_int) (aa (le_int) (ai)))) (aa (le_int) (aa (le_int) (aa (aX (aa (le_int) (aa (le_int) (ai)))) (ai)))))))) (aa (aX (aa (le_str) (aa (aX (aa (le_int) (aa (le_int) (ai)))) (aa (aX (aa (le_int) (aa (le_int) (ai)))) (aa (aX (aa (le_int) (aa (le_int) (ai)))) (aa (aX (aa (le_int) (aa (le_int) (ai)))) (ai))))))) (ai)))))) (ak (aG 6 aS.nd (gY (ai))) (ak (kz V0 rfl (cw (ae 4)) (qX rfl (bq 7 aS.nd (bq 8 aS.nd (bq 9 aS.nd (bq 10 aS.nd (bq 11 aS.nd (bq 12 aS.nd (mm)))))))) (ak (aG 11 aS.nd (aA (dk (aa (bF) (aa (le_pow (le_int) (le_int)) (aa (le_int) (ai))))) (aj (aB T) hr rfl (aa (ae 0) (aa (le_int) (ai)))))) (au (eK (le_app (ae 6) (aX (aa (ae 7) (aa (ae 8) (aa (le_int) (aa (le_pow (le_int) (le_int)) (aa (ae 11) (aa (aA (ae 5) (aj (aB T) hr rfl (aa (ae 0) (aa (le_int) (ai))))) (ai))))))))))))) (au (ay (aX (aa (le_int) (aa (ae 3) (aa (aL bH cW rfl T.bZ rfl (aa (ae 6) (ai))) (ai))))))))))))
theorem mT:aE ["_law_plan_here", "_law_text"] ["_law_plan_here"] (aw o8):=by walk_at "sc"
theorem kn (T:Txt w.params K mg t):aR P w K mg base 11 "_law_read" ["_law_plan_here"] cV:=aH T.A3 T.BE mT vm yF (λ_ _ _ _ _ _ _ _=>by walk_at "b1") λ_ _ _ _ _ _ hr hu=>
 ak (aG 1 mT.nd (ny (le_str) (aj (BI T) hr rfl (aa (ae 0) (ai))))) (ak (ba (LW.lt (bV (aW (aN (aj (o6 T) hr rfl (aa (aj (kx T) hr rfl (aa (ae 1) (ai))) (aa (ae 0) (ai)))))) (bS (nD hu (aj (pZ T) hr rfl (aa (ae 0) (ai))) (ae 1))))) (au (ay (cq))) (aF)) (au (ay (aj (o6 T) hr rfl (aa (aj (kx T) hr rfl (aa (aj (pZ T) hr rfl (aa (aj (kx T) hr rfl (aa (ae 1) (ai))) (ai))) (ai))) (aa (ae 0) (ai)))))))
theorem yz:aE ["_law_script", "_law_k", "_law_box_here", "_law_plan_here"] ["_law_script"] (aw Nx):=by walk_at "sc"
theorem Ey (T:Txt w.params K mg t):jK P w K mg base CX0 12 t.Jm t.NM ["_law_script"] (lift K hC):=by
 refine IS (T:=HY) T.Ey yz yy (λcdv A outer s H E hr=>?_) OY
 have hu:=hr.units
 exact ak (kz V0 rfl (vV rfl T.xn (aQ (le_int) (aO bb bA rfl T.cx rfl (aa (pR (ae 0) (uk) (ji (le_int))) (ai))))) (qM 1 yz.nd) (ak (aG 2 yz.nd (aj (Ds T) hr rfl (aa (ae 0) (aa (ae 1) (ai))))) (ak (aG 3 yz.nd (aj (Ah T) hr rfl (aa (ae 2) (aa (le_int) (aa (le_int) (ai)))))) (au (ba (LW.lt (bV (aW (aN (aj (kn T) hr rfl (aa (ae 3) (ai))))) (bV (aW (aN (aj (kn T) hr rfl (aa (aj (tO T) hr rfl (aa (ae 2) (aa (ae 3) (ai)))) (ai))))) (bS (aW (aN (aj (kn T) hr rfl (aa (ae 3) (ai))))))))) (au (ay (cq))) (aF)))))) (au (ay (cq)))
end
theorem all_mk {l:ZJ}{w:Va}{K:UB}{mg:Str->Option UC}{fa:Addr}{t:Adr}(hfa:mg "law" = some (.ref fa))(T:Txt w.params K mg t):∃ fd:US,(∀ (s:UE) (v:UC),zaS s fd ⟨[v],[]⟩ [("_law_script", v)])/\∀ base:Heap,K.In base->base.Ns VM mg->jK l.prog w K mg base CX0 12 fa fd ["_law_script"] (lift K hC):=by
 have e:=hfa.symm.trans T.R4
 injection e with e
 injection e with e
 subst e
 obtain ⟨oc,od,kV,dc,pm,an,cd,ct,sl,ed,_,_⟩:=T.Ey.ex
 exact ⟨_,λs v=>.of_eq (by rw[ed];rfl),λbase _ _=>Ey T⟩
end Kk
namespace PySem.W.Fast
def tw2078938684558198329:=0
def tw11667599099116534912:=0
def tw218416703968765120:=0
def tw17491904844276500896:=0
def tw11626643844179843552:=0
def tw3316042876355641856:=0
def tw16349672580349276800:=0
def tw12960595365214339840:=0
def tw6947478162544084225:=0
def tw13598104322393673473:=0
def tw13584214173961804834:=0
def tw5291624325291866242:=0
def tw13346896494939201794:=0
def tw9701515787592274338:=0
def tw1745919532008056450:=0
def tw4012274160288187138:=0
def tw4713428197170415458:=0
def tw11314595996405618626:=0
def tw12258405786335503330:=0
def tw15840061214294161571:=0
def tw18312695089254596035:=0
def tw659600713912333795:=0
def tw14378701968093096004:=0
def tw13092594281039218212:=0
def tw18152203115067989924:=0
def tw9937618626353634276:=0
def tw13584810704717115749:=0
def tw17166352254306135621:=0
def tw5319995808392267333:=0
def tw3561587314921047653:=0
def tw5715052513899014085:=0
def tw2064193122396286182:=0
def tw10048369302238068998:=0
def tw8033533789983539782:=0
def tw11184690009622223462:=0
def tw13707649581258325766:=0
def tw1827030775684546983:=0
def tw6040302168560656199:=0
def tw12378478984228583335:=0
def tw11386365595076267048:=0
def tw13226100984886367464:=0
def tw6683454644910515592:=0
def tw6826530621054705160:=0
def tw6915558293342700264:=0
def tw4641560735789421288:=0
def tw8646497072660355912:=0
def tw3453677645200656232:=0
def tw2694906161859495177:=0
def tw17467432419210818889:=0
def tw8553313917740832105:=0
def tw86270793974882889:=0
def tw6350917466753557097:=0
def tw4729950579115732745:=0
def tw7042050490352583657:=0
def tw17765643778514721450:=0
def tw14498308975568171754:=0
def tw10639739351350901546:=0
def tw5206350843060997451:=0
def tw13009544152087615979:=0
def tw13591758066375694155:=0
def tw8258121659298525196:=0
def tw13236421998435813484:=0
def tw1390520942344145452:=0
def tw2419452381587066476:=0
def tw5131631970725708492:=0
def tw7063180119174083661:=0
def tw16052487095094384941:=0
def tw1827415733394395565:=0
def tw60636386890733997:=0
def tw4397252746698897069:=0
def tw8102346980263234253:=0
def tw12663963170098917133:=0
def tw2321673229836673901:=0
def tw12383832870270096814:=0
def tw13432619780041406990:=0
def tw8683770148602437198:=0
def tw17233343655773812430:=0
def tw12387239194230256334:=0
def tw7102711060105879438:=0
def tw351440330248516111:=0
def tw12164562475560031791:=0
def tw17401290365674360495:=0
def tw15332026584033302576:=0
def tw861435419159891024:=0
def tw650701939644348752:=0
def tw3180433550345571056:=0
def tw17724079746762714864:=0
def tw632026326048387153:=0
def tw14974185673561699601:=0
def tw14478369123383330097:=0
def tw17836350046188950225:=0
def tw5645217136703667025:=0
def tw13528379679266286481:=0
def tw6926642330117795825:=0
def tw13199528022094622930:=0
def tw7766157994811113682:=0
def tw17367721466197641170:=0
def tw3567930325120681043:=0
def tw9398112806335837267:=0
def tw7559019950269731955:=0
def tw10863106627493449939:=0
def tw5371822019505505555:=0
def tw18134275766207358259:=0
def tw13176914515738294675:=0
def tw32291582089693747:=0
def tw3332889101465498163:=0
def tw8737134331130245715:=0
def tw997794052939666035:=0
def tw5804654027707666067:=0
def tw16231836919473201300:=0
def tw2224038062450726164:=0
def tw18203861836238295604:=0
def tw9594722935966406292:=0
def tw3750343548520859316:=0
def tw6235006897954187092:=0
def tw12195376195161921909:=0
def tw1530599390886615445:=0
def tw11615482953401951701:=0
def tw7831786622262214165:=0
def tw8715230027792380693:=0
def tw17445213554952571062:=0
def tw13579677049139367606:=0
def tw5331027512751167575:=0
def tw14132574372691994391:=0
def tw16841719006306269047:=0
def tw9329208550797848696:=0
def tw18362252476933715256:=0
def tw8924010380842563224:=0
def tw18344472194262344536:=0
def tw14387818301857192985:=0
def tw3490698740433501369:=0
def tw17065545423337147801:=0
def tw17066319596941721017:=0
def tw15879098760976822713:=0
def tw2776803802769417817:=0
def tw14878482237460614458:=0
def tw14653106528495967546:=0
def tw13723125458934439386:=0
def tw3887177250313906650:=0
def tw1229103410843176602:=0
def tw1589061778336004315:=0
def tw1134372884101614811:=0
def tw2393729291322487291:=0
def tw3993500941062902109:=0
def tw13157049573825283485:=0
def tw2393899033335561821:=0
def tw2341284409712335485:=0
def tw15475833910747426174:=0
def tw15154691560909595070:=0
def tw16905091446129769214:=0
def tw14970360564738478878:=0
def tw5489864004257109790:=0
def tw5055237196742504286:=0
def tw10048291180518982271:=0
def tw1166802413199449855:=0
def tw17710031694923019039:=0
end PySem.W.Fast
open PySem PySem.W PyProof.Rows L2 L3
set_option maxRecDepth 100000 in
set_option maxHeartbeats 0 in
theorem PySem.Challenge.cw_swellways_k76_plans_read_holds : PySem.Challenge.rw_swellways_k76_plans_read.Holds := by
 w_on;o_law;k_head;(case hw=>w_witness2)
 k_fill
 refine L3.Sv (l:=PySem.Challenge.rw_swellways_k76_plans_read) (k:=12) (sp:=Kk.hC) (x := "_law_script") rfl rfl ⟨rfl,by decide,by decide⟩ (λw h Y=>PySem.W.kIn_of Y) Kk.oK ?F
 case F=>
  intro w mg fa h KX G hmg
  refine' Kk.all_mk (t:=⟨_,_,_,_,_,_,_,_,_,_,_,_,_,_,_,_,_,_,_,_,_,_,_,_,_,_,_,_,_,_,_,_,_,_,_,_,_,_,_,_,_,_,_,_,_,_,_,_,_,_,_,_,_,_,_,_,_,_,_,_,_,_,_,_,_,_,_,_,_,_,_,_,_,_,_,_,_,_,_,_,_,_,_,_,_,_,_,_,_,_,_,_,_,_,_,_,_,_,_,_,_,_⟩) hmg ⟨VN KX G ?_,aT ?_ ?_ ?_,VN KX G ?_,aT ?_ ?_ ?_,VN KX G ?_,aT ?_ ?_ ?_,VN KX G ?_,aT ?_ ?_ ?_,VN KX G ?_,aT ?_ ?_ ?_,VN KX G ?_,aT ?_ ?_ ?_,VN KX G ?_,aT ?_ ?_ ?_,VN KX G ?_,aT ?_ ?_ ?_,VN KX G ?_,aT ?_ ?_ ?_,VN KX G ?_,aT ?_ ?_ ?_,VN KX G ?_,aT ?_ ?_ ?_,VN KX G ?_,aT ?_ ?_ ?_,VN KX G ?_,aT ?_ ?_ ?_,VN KX G ?_,aT ?_ ?_ ?_,VN KX G ?_,aT ?_ ?_ ?_,VN KX G ?_,aT ?_ ?_ ?_,VN KX G ?_,aT ?_ ?_ ?_,VN KX G ?_,aT ?_ ?_ ?_,VN KX G ?_,aT ?_ ?_ ?_,VN KX G ?_,aT ?_ ?_ ?_,VN KX G ?_,aT ?_ ?_ ?_,VN KX G ?_,aT ?_ ?_ ?_,VN KX G ?_,aT ?_ ?_ ?_,VN KX G ?_,aT ?_ ?_ ?_,VN KX G ?_,aT ?_ ?_ ?_,VN KX G ?_,aT ?_ ?_ ?_,VN KX G ?_,aT ?_ ?_ ?_,VN KX G ?_,aT ?_ ?_ ?_,VN KX G ?_,aT ?_ ?_ ?_,VN KX G ?_,aT ?_ ?_ ?_,VN KX G ?_,aT ?_ ?_ ?_,VN KX G ?_,aT ?_ ?_ ?_,VN KX G ?_,aT ?_ ?_ ?_,VN KX G ?_,aT ?_ ?_ ?_,VN KX G ?_,aT ?_ ?_ ?_,VN KX G ?_,aT ?_ ?_ ?_,VN KX G ?_,aT ?_ ?_ ?_,VN KX G ?_,aT ?_ ?_ ?_,VN KX G ?_,aT ?_ ?_ ?_,VN KX G ?_,aT ?_ ?_ ?_,VN KX G ?_,aT ?_ ?_ ?_,VN KX G ?_,aT ?_ ?_ ?_,VN KX G ?_,aT ?_ ?_ ?_,VN KX G ?_,aT ?_ ?_ ?_,VN KX G ?_,aT ?_ ?_ ?_,VN KX G ?_,aT ?_ ?_ ?_,VN KX G ?_,aT ?_ ?_ ?_,VN KX G ?_,aT ?_ ?_ ?_,VN KX G ?_,aT ?_ ?_ ?_,VN KX G ?_,aT ?_ ?_ ?_,VN KX G ?_,aT ?_ ?_ ?_,Ws KX G ?_,Ws KX G ?_,Ws KX G ?_,Ws KX G ?_,Ws KX G ?_,Ws KX G ?_,Ws KX G ?_,Ws KX G ?_,Ws KX G ?_,Ws KX G ?_,Ws KX G ?_,Ws KX G ?_,Ws KX G ?_,bU KX G ?_,bU KX G ?_,IA KX G ?_,bU KX G ?_,IA KX G ?_,bU KX G ?_,bU KX G ?_,bU KX G ?_,bU KX G ?_,bU KX G ?_,bU KX G ?_,bU KX G ?_,bU KX G ?_,bU KX G ?_,bU KX G ?_,bU KX G ?_,bU KX G ?_,bU KX G ?_,bU KX G ?_,J4 (its:=#[.int 0 _,.int 1 _]) (xs:=[V.int 0,V.int 1]) KX G ?_ ?_ ?_ ?_ ?_ (show 2<=sizeLine by decide) (.cons ⟨_,rfl⟩ (.cons ⟨_,rfl⟩ (.nil))) (λ_=>.cons (.int _) (.cons (.int _) (.nil))),J4 (its:=#[.int 1 _,.int 1 _]) (xs:=[V.int 1,V.int 1]) KX G ?_ ?_ ?_ ?_ ?_ (show 2<=sizeLine by decide) (.cons ⟨_,rfl⟩ (.cons ⟨_,rfl⟩ (.nil))) (λ_=>.cons (.int _) (.cons (.int _) (.nil))),bU KX G ?_,bU KX G ?_,bU KX G ?_,bU KX G ?_,bU KX G ?_,bU KX G ?_,bU KX G ?_,NZ KX G ?_ ?_ ?_ ?_ ?_,NZ KX G ?_ ?_ ?_ ?_ ?_⟩
  all_goals try first | k_is | rfl | exact ⟨⟨_,_,rfl,rfl⟩,⟨_,_,rfl,rfl⟩,⟨_,_,rfl,rfl⟩,⟨_,_,rfl,rfl⟩,⟨_,_,rfl,rfl⟩,Xy⟩
